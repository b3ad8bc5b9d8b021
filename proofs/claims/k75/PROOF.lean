import PyProof.Rows.All
import Wide.All
import OpenK.AllK
import Wide.FinOn
import Lean
import PyProof.EqAt
import PyProof.EqKinds
import PyProof.TupleCall
import PyProof.SetScanFacts
import PyProof.SetKind
import PyProof.SetRoads
import PyProof.Rows.SetFrom
import PyProof.FactsBase
import PyProof.TableTree
import PyProof.FactsTree
import PyProof.PlainAttrs
import PyProof.FactsAll.set_1
import PyProof.CollectIter
import PyProof.FactsAll.set
import PyProof.ZipIter
import PyProof.EnumIter
import PyProof.TupleIter
import KE.KRevIter
import KE.KDictList
import PyProof.Rows.SumAny
import KE.KIntText
import PyProof.StrLawsTight
import PyProof.StrLawsChain
import PyProof.Rows.SortStr
import PyProof.Rows.StrNews2
import PyProof.StrLawsFirst
import PyProof.AutoSeq1
import OpenK.KOwn
import PyProof.Rows.CatchOwn
import KE.KDictOf
import PyProof.DictItems
import PyProof.NeKinds
import KE.KPairComp
import PyProof.FactsAll.tuple_2
import PyProof.FactsAll.tuple_3
import KE.KDictLaws
import PyProof.FactsAll.dict_3
import PyProof.MinMaxWalk
import PyProof.WalkInts
import PyProof.Cells
import PySem.Challenge.RW_usewarden_k75_rules_laid_together
-- CHANGE: your row's module here, as the last of these rows
set_option Elab.async false
set_option linter.all false
set_option maxRecDepth 100000
/-! THE HAND LAYER, for ints, bools, texts, own classes, LISTS and tuples (index, slices, in, append, pop ..), calls, loops. Paste it whole ahead of your own text; what your proof does not reach may be deleted. -/
namespace L2
open PySem PySem.Spec PyProof.Rows

/-- a key: an int or a str -/
abbrev Key := Sum Int Str
def keyIs : Key → Value → Bool
  | .inl k, v => Value.isInt k v
  | .inr x, v => Value.isStrOf x v
def keyH (w : World) : Key → Int
  | .inl k => hashInt k
  | .inr x => hashStr w x
theorem keyIs_shape : ∀ {k : Key} {v : Value}, keyIs k v = true → (∃ i t, k = Sum.inl i ∧ v = Value.int i t) ∨ (∃ x t, k = Sum.inr x ∧ v = Value.str x t)
  | .inl i, v, h => by
    obtain ⟨t, e⟩ := Value.isInt_shape (k := i) (v := v) h
    exact .inl ⟨i, t, rfl, e⟩
  | .inr x, v, h => by
    obtain ⟨t, e⟩ := Value.isStrOf_shape (x := x) (v := v) h
    exact .inr ⟨x, t, rfl, e⟩
theorem keyIs_int (i : Int) (t : Tok) : keyIs (.inl i) (.int i t) = true := by simp [keyIs, Value.isInt]
theorem keyIs_str (x : Str) (t : Tok) : keyIs (.inr x) (.str x t) = true := by simp [keyIs, Value.isStrOf]
theorem key_ll (a b : Int) : decide ((Sum.inl a : Key) = Sum.inl b) = (a == b) := by
  by_cases e : a = b
  · subst e; simp
  · have h : ¬ (Sum.inl a : Key) = Sum.inl b := fun q => e (Sum.inl.inj q)
    rw [decide_eq_false h]
    exact (beq_eq_false_iff_ne.mpr e).symm
theorem key_rr (a b : Str) : decide ((Sum.inr a : Key) = Sum.inr b) = decide (a = b) := by
  by_cases e : a = b
  · subst e; simp
  · have h : ¬ (Sum.inr a : Key) = Sum.inr b := fun q => e (Sum.inr.inj q)
    rw [decide_eq_false h, decide_eq_false e]
theorem key_lr (a : Int) (b : Str) : decide ((Sum.inl a : Key) = Sum.inr b) = false := decide_eq_false (fun q => nomatch q)
theorem key_rl (a : Str) (b : Int) : decide ((Sum.inr a : Key) = Sum.inl b) = false := decide_eq_false (fun q => nomatch q)

def mixKind (prog : Program) (w : World) : PySem.KeyKind prog w Key where
  is := keyIs
  hash := keyH w
  inj := fun v a b ha hb => by
    rcases keyIs_shape ha with ⟨i, t, rfl, rfl⟩ | ⟨x, t, rfl, rfl⟩
    · rcases keyIs_shape hb with ⟨j, u, rfl, e⟩ | ⟨y, u, rfl, e⟩
      · injection e with e1 _; rw [e1]
      · exact nomatch e
    · rcases keyIs_shape hb with ⟨j, u, rfl, e⟩ | ⟨y, u, rfl, e⟩
      · exact nomatch e
      · injection e with e1 _; rw [e1]
  byValue := fun k v h => by
    rcases keyIs_shape h with ⟨i, t, rfl, rfl⟩ | ⟨x, t, rfl, rfl⟩ <;> rfl
  pyHash := fun hv h => by
    rcases keyIs_shape hv with ⟨i, t, rfl, rfl⟩ | ⟨x, t, rfl, rfl⟩
    · exact wpAny_pyHash_int h
    · exact wpAny_pyHash_str h
  eqBool := fun hu hv h => by
    rcases keyIs_shape hu with ⟨i, t, rfl, rfl⟩ | ⟨x, t, rfl, rfl⟩
    · rcases keyIs_shape hv with ⟨j, u, rfl, rfl⟩ | ⟨y, u, rfl, rfl⟩
      · rw [key_ll] at h; exact wpAny_eqBool_int h
      · rw [key_lr] at h; exact SeqAt.EqAt.int_str i t y u _ _ _ _ h
    · rcases keyIs_shape hv with ⟨j, u, rfl, rfl⟩ | ⟨y, u, rfl, rfl⟩
      · rw [key_rl] at h; exact SeqAt.EqAt.str_int x t j u _ _ _ _ h
      · rw [key_rr] at h; exact wpAny_eqBool_str h
  «strs» := fun k x t v h => by
    rcases keyIs_shape h with ⟨i, u, rfl, e⟩ | ⟨y, u, rfl, e⟩
    · exact nomatch e
    · injection e with e1 _
      subst e1
      cases v <;> rfl

theorem mixKind_int (prog : Program) (w : World) (i : Int) (t : Tok) : (mixKind prog w).is (.inl i) (.int i t) = true := keyIs_int i t
theorem mixKind_str (prog : Program) (w : World) (x : Str) (t : Tok) : (mixKind prog w).is (.inr x) (.str x t) = true := keyIs_str x t
end L2

namespace L2
open PySem PySem.Spec PyProof.Rows

/-- a value, without the heap -/
inductive V where
  | non | bl (b : Bool) | int (i : Int) | str (x : Str) | byt (b : Array UInt8) | flt (b : UInt64) | ref (a : Addr) | ty (n : String)
  deriving DecidableEq

def RelV : V → Value → Prop
  | .non, u => u = Value.none
  | .bl b, u => u = Value.bool b
  | .int i, u => ∃ t, u = Value.int i t
  | .str x, u => ∃ t, u = Value.str x t
  | .byt b, u => ∃ t, u = Value.bytes b t
  | .flt b, u => ∃ t, u = Value.float b t
  | .ref a, u => u = Value.ref a
  | .ty n, u => u = Value.type n

abbrev Vals : List V → List Value → Prop := Paired RelV
theorem Vals.length {xs : List V} {us : List Value} (r : Vals xs us) : xs.length = us.length := Paired.length r
theorem Vals.get : ∀ {xs : List V} {us : List Value} {i : Nat} {x : V}, Vals xs us → xs[i]? = some x → ∃ u, us[i]? = some u ∧ RelV x u
  | _, _, _, _, .nil, e => by simp at e
  | _, _, 0, _, .cons r _, e => by simp at e; subst e; exact ⟨_, rfl, r⟩
  | _, _, i + 1, x, .cons _ t, e => by
    obtain ⟨u, h1, h2⟩ := Vals.get (i := i) (x := x) t (by simpa using e)
    exact ⟨u, by simpa using h1, h2⟩
theorem Vals.set {x : V} {u : Value} (r : RelV x u) : ∀ {xs : List V} {us : List Value} (i : Nat), Vals xs us → Vals (xs.set i x) (us.set i u)
  | _, _, _, .nil => .nil
  | _, _, 0, .cons _ t => .cons r t
  | _, _, i + 1, .cons q t => .cons q (Vals.set r i t)
theorem Vals.append : ∀ {xs ys : List V} {us ws : List Value}, Vals xs us → Vals ys ws → Vals (xs ++ ys) (us ++ ws)
  | _, _, _, _, .nil, s => s
  | _, _, _, _, .cons r t, s => .cons r (Vals.append t s)
theorem Vals.take : ∀ {xs : List V} {us : List Value} (n : Nat), Vals xs us → Vals (xs.take n) (us.take n)
  | _, _, 0, _ => .nil
  | _, _, _ + 1, .nil => .nil
  | _, _, n + 1, .cons r t => .cons r (Vals.take n t)
theorem Vals.drop : ∀ {xs : List V} {us : List Value} (n : Nat), Vals xs us → Vals (xs.drop n) (us.drop n)
  | _, _, 0, r => r
  | _, _, _ + 1, .nil => .nil
  | _, _, n + 1, .cons _ t => Vals.drop n t
theorem Vals.none_of : ∀ {xs : List V} {us : List Value} {i : Nat}, Vals xs us → xs[i]? = none → us[i]? = none := fun {xs us i} r e => by
  have h1 := r.length
  have h2 : xs.length ≤ i := List.getElem?_eq_none_iff.mp e
  exact List.getElem?_eq_none_iff.mpr (by omega)

def RelO : Option V → Option Value → Prop
  | some v, some u => RelV v u
  | none, none => True
  | _, _ => False
def KV {κ : Type} : List (κ × V) → List (κ × Value) → Prop := Paired fun (p : κ × V) (q : κ × Value) => p.1 = q.1 ∧ RelV p.2 q.2

/-- a key of a dict (00_mix): an int or a text -/
def kV : Key → V
  | .inl i => .int i
  | .inr x => .str x

/-- what stands at a tracked address -/
inductive HO where
  /-- a list -/
  | lst (xs : List V)
  /-- a tuple (never changes) -/
  | tup (xs : List V)
  /-- a dict whose keys are ints and texts; one whose keys are tuples of ints and texts (the empty one is both) -/
  | dK (kvs : List (Key × V)) | dT (kvs : List (List Key × V))
  /-- a set of ints: its members, its size -/
  | set (S : Int → Bool) (n : Nat)
  /-- an instance of the class at C, its dict at dx, its attributes -/
  | ins (C dx : Addr) (fs : List (Str × V))
  /-- the dict of the instance at x -/
  | own (x : Addr)
  /-- the dict of an exception -/
  | xd (fs : List (Str × V))
  /-- a bound method, f of x -/
  | met (f x : Addr)
  /-- a range object lo, lo + 1, .. below hi -/
  | rng (lo hi : Int)
  /-- a thing that is known to the object (the script; a dict while a loop walks it): read, never written while it is so -/
  | frz (o : Obj) (u : HO)
  /-- a code object's table -/
  | tbl (ps : Array Value)
  /-- any other thing, by what is true of its one object (a def of one's own: SetO a S n := HO.ext fun h => ..) -/
  | ext (φ : Heap → Prop)

abbrev Hp := Addr → Option HO
def upd (H : Hp) (a : Addr) (o : HO) : Hp := fun b => if b = a then some o else H b
theorem upd_same {H : Hp} {a : Addr} {o : HO} : upd H a o a = some o := by unfold upd; rw [if_pos rfl]
theorem upd_ne {H : Hp} {a b : Addr} {o : HO} (h : b ≠ a) : upd H a o b = H b := by unfold upd; rw [if_neg h]
/-- two objects of different content stand apart -/
theorem ne_of {H : Hp} {a b : Addr} {o u : HO} (h : H a = some o) (h' : H b = some u) (d : o ≠ u) : a ≠ b := by
  intro e; subst e; rw [h] at h'; exact d (Option.some.inj h')
theorem ne_of_none {H : Hp} {a b : Addr} {o : HO} (h : H a = some o) (h' : H b = none) : a ≠ b := by
  intro e; subst e; rw [h] at h'; cases h'

/-- a tuple, and no dict of its own -/
def IsTupN (h : Heap) (a : Addr) (items : Array Value) : Prop := ∃ o, h.get? a = some o ∧ o.cls = .type "tuple" ∧ o.dict = none ∧ ∃ n, o.data = .seq items n
theorem IsTupN.tup {h : Heap} {a : Addr} {items : Array Value} (x : IsTupN h a items) : IsTup h a items := let ⟨o, e, c, _, d⟩ := x; ⟨o, e, c, d⟩
theorem IsTupN.lt {h : Heap} {a : Addr} {items : Array Value} (x : IsTupN h a items) : a < h.objs.size := let ⟨_, e, _⟩ := x; Heap.lt_size e
theorem IsTupN.new (h : Heap) (items : Array Value) : IsTupN (h.push { cls := .type "tuple", data := .seq items }) h.objs.size items := ⟨_, Heap.get?_push_size _ rfl, rfl, rfl, _, rfl⟩
section
variable (P : Program) (w : World)
def ObjOk (H : Hp) (h : Heap) (a : Addr) : HO → Prop
  | .lst xs => xs.length ≤ sizeLine ∧ ∃ (its : List Value) (n : Nat), Vals xs its ∧ h.get? a = some { cls := .type "list", data := .seq its.toArray n }
  | .tup xs => xs.length ≤ sizeLine ∧ ∃ its : List Value, Vals xs its ∧ IsTupN h a its.toArray
  | .dK kvs => kvs.length ≤ sizeLine ∧ (a == sysModules) = false ∧ ∃ vs, KV kvs vs ∧ h.DictOf (mixKind P w) a vs
  | .dT kvs => kvs.length ≤ sizeLine ∧ (a == sysModules) = false ∧ ∃ xs : List (List Key × Addr × Value),
      Paired (fun (p : List Key × V) (q : List Key × Addr × Value) => p.1 = q.1 ∧ H q.2.1 = some (.tup (p.1.map kV)) ∧ RelV p.2 q.2.2) kvs xs ∧
      ∃ o es ep, h.get? a = some o ∧ o.ExactDict ∧ o.data = .dict es ep ∧ es.toList = xs.map (entryOfKey (tupleKind (mixKind P w))) ∧ (xs.map (·.1)).Nodup
  | .set S n => h.SetOf (intKind P w) a S n
  | .ins C dx fs => H dx = some (.own a) ∧ fs.length ≤ 1000 ∧ dx ≠ a ∧ h.get? a = some (PySem.W.instObj C dx) ∧
      ∃ mA, h.Ns1 dx mA ∧ (∀ f, RelO (fs.lookup f) (mA f)) ∧ PySem.Within mA (fs.map (·.1))
  | .own _ => ∃ o, h.get? a = some o
  | .xd fs => ∃ mA, h.Ns1 a mA ∧ ∀ f, RelO (fs.lookup f) (mA f)
  | .rng lo hi => ∃ t u v, h.get? a = some { cls := .type "range", data := .fields #[.int lo t, .int hi u, .int 1 v] }
  | .frz o u => h.get? a = some o ∧ ObjOk H h a u
  | .tbl ps => h.get? a = some { cls := .none, data := .fields ps }
  | .met f x => h.get? a = some (PySem.W.methodObj (.ref f) (.ref x))
  | .ext φ => φ h ∧ (∃ o, h.get? a = some o) ∧ ∀ h1 h2 : Heap, φ h1 → (∀ o, h1.get? a = some o → h2.get? a = some o) → φ h2
/-- the abstract heap is held -/
def HOk (H : Hp) (h : Heap) : Prop := ∀ a o, H a = some o → ObjOk P w H h a o
end

section
variable {P : Program} {w : World} {H H' : Hp} {h h' : Heap} {a : Addr} {o : HO}
theorem ObjOk.lt (x : ObjOk P w H h a o) : a < h.objs.size := by
  cases o with
  | lst xs => obtain ⟨_, _, _, _, e⟩ := x; exact Heap.lt_size e
  | tup xs => obtain ⟨_, _, _, p⟩ := x; exact p.lt
  | dK kvs => obtain ⟨_, _, _, _, o, _, _, e, _⟩ := x; exact Heap.lt_size e
  | dT kvs => obtain ⟨_, _, _, _, o, _, _, e, _⟩ := x; exact Heap.lt_size e
  | set S n => obtain ⟨o, _, _, _, e, _⟩ := x; exact Heap.lt_size e
  | ins C dx fs => obtain ⟨_, _, _, e, _⟩ := x; exact Heap.lt_size e
  | own y => obtain ⟨_, e⟩ := x; exact Heap.lt_size e
  | xd fs => obtain ⟨_, ⟨_, _, _, e, _⟩, _⟩ := x; exact Heap.lt_size e
  | rng lo hi => obtain ⟨_, _, _, e⟩ := x; exact Heap.lt_size e
  | frz ob u => obtain ⟨e, _⟩ := x; exact Heap.lt_size e
  | tbl ps => exact Heap.lt_size (show h.get? a = some _ from x)
  | met f y => exact Heap.lt_size (show h.get? a = some _ from x)
  | ext φ => obtain ⟨_, ⟨_, e⟩, _⟩ := x; exact Heap.lt_size e
theorem Paired.mapP {α β : Type} {F G : α → β → Prop} : ∀ {l₁ : List α} {l₂ : List β}, Paired F l₁ l₂ → (∀ a b, F a b → G a b) → Paired G l₁ l₂
  | _, _, .nil, _ => .nil
  | _, _, .cons r t, f => .cons (f _ _ r) (Paired.mapP t f)
theorem Paired.imp' {α β : Type} {F G : α → β → Prop} (f : ∀ a b, F a b → G a b) {l₁ : List α} {l₂ : List β} (r : Paired F l₁ l₂) : Paired G l₁ l₂ := Paired.mapP r f
/-- what an object's description leans on: its own object, its own dict, the tuples -/
theorem ObjOk.stay (x : ObjOk P w H h a o) (k : ∀ b u, (b = a ∨ H b = some (.own a)) → h.get? b = some u → h'.get? b = some u)
    (ho : ∀ b, H b = some (.own a) → H' b = some (.own a)) (ht : ∀ b xs, H b = some (.tup xs) → H' b = some (.tup xs)) : ObjOk P w H' h' a o := by
  induction o with
  | lst xs => obtain ⟨z, its, n, r, e⟩ := x; exact ⟨z, its, n, r, k _ _ (.inl rfl) e⟩
  | tup xs => obtain ⟨z, its, r, ob, e, c⟩ := x; exact ⟨z, its, r, ob, k _ _ (.inl rfl) e, c⟩
  | dK kvs => obtain ⟨z, y, vs, r, ob, es, ep, e, c⟩ := x; exact ⟨z, y, vs, r, ob, es, ep, k _ _ (.inl rfl) e, c⟩
  | dT kvs =>
    obtain ⟨z, y, xs, r, ob, es, ep, e, c⟩ := x
    exact ⟨z, y, xs, Paired.mapP r fun p q z => ⟨z.1, ht _ _ z.2.1, z.2.2⟩, ob, es, ep, k _ _ (.inl rfl) e, c⟩
  | set S n => obtain ⟨ob, es, ep, t, e, c⟩ := x; exact ⟨ob, es, ep, t, k _ _ (.inl rfl) e, c⟩
  | ins C dx fs =>
    obtain ⟨d, z, ne, e, mA, ⟨od, es, ep, e2, c⟩, r⟩ := x
    exact ⟨ho _ d, z, ne, k _ _ (.inl rfl) e, mA, ⟨od, es, ep, k _ _ (.inr d) e2, c⟩, r⟩
  | own y => obtain ⟨ob, e⟩ := x; exact ⟨ob, k _ _ (.inl rfl) e⟩
  | xd fs => obtain ⟨mA, ⟨od, es, ep, e, c⟩, r⟩ := x; exact ⟨mA, ⟨od, es, ep, k _ _ (.inl rfl) e, c⟩, r⟩
  | rng lo hi => obtain ⟨t, u, v, e⟩ := x; exact ⟨t, u, v, k _ _ (.inl rfl) e⟩
  | frz ob u ih => obtain ⟨e, q⟩ := x; exact ⟨k _ _ (.inl rfl) e, ih q⟩
  | tbl ps =>
    have e : h.get? a = some { cls := .none, data := .fields ps } := x
    show h'.get? a = some { cls := .none, data := .fields ps }
    exact k a _ (.inl rfl) e
  | met f y =>
    have e : h.get? a = some (PySem.W.methodObj (.ref f) (.ref y)) := x
    show h'.get? a = some (PySem.W.methodObj (.ref f) (.ref y))
    exact k a _ (.inl rfl) e
  | ext φ => obtain ⟨p, ⟨o, e⟩, st⟩ := x; exact ⟨st _ _ p fun o q => k _ _ (.inl rfl) q, ⟨o, k _ _ (.inl rfl) e⟩, st⟩
theorem HOk.lt (x : HOk P w H h) (e : H a = some o) : a < h.objs.size := (x a o e).lt
theorem HOk.fresh (x : HOk P w H h) (e : h.objs.size ≤ a) : H a = none := by
  cases q : H a with
  | none => rfl
  | some u => exact absurd (Nat.lt_of_lt_of_le (x.lt q) e) (Nat.lt_irrefl _)
/-- every object of the heap is kept -/
theorem HOk.kept (x : HOk P w H h) (k : ∀ b u, h.get? b = some u → h'.get? b = some u) : HOk P w H h' := fun a o e =>
  (x a o e).stay (fun b u _ q => k b u q) (fun _ q => q) fun _ _ q => q
/-- a new object is laid and tracked -/
theorem HOk.laid (x : HOk P w H h) (k : ∀ b u, h.get? b = some u → h'.get? b = some u) (hp : h.objs.size ≤ a) (new : ObjOk P w (upd H a o) h' a o) : HOk P w (upd H a o) h' := fun b u e => by
  have hn := x.fresh hp
  by_cases hb : b = a
  · subst hb; rw [upd_same] at e; cases e; exact new
  · rw [upd_ne hb] at e
    exact (x b u e).stay (fun c v _ q => k c v q) (fun c q => by rw [upd_ne (ne_of_none q hn)]; exact q) fun c xs q => by rw [upd_ne (ne_of_none q hn)]; exact q
end

/-- what may be read as u: it is u, or a known u -/
def Rd (H : Hp) (a : Addr) (u : HO) : Prop := H a = some u ∨ ∃ o, H a = some (.frz o u)
theorem Rd.of {H : Hp} {a : Addr} {u : HO} (h : H a = some u) : Rd H a u := .inl h
theorem Rd.ok {P : Program} {w : World} {H : Hp} {h : Heap} {a : Addr} {u : HO} (r : Rd H a u) (x : HOk P w H h) : ObjOk P w H h a u := by
  rcases r with r | ⟨o, r⟩
  · exact x a u r
  · obtain ⟨_, q⟩ := x a _ r
    exact q
/-- what may be written -/
def Mut : Option HO → Prop
  | some (.lst _) => True
  | some (.dK _) => True
  | some (.dT _) => True
  | some (.set _ _) => True
  | some (.ins _ _ _) => True
  | some (.ext _) => True
  | _ => False
section
variable {P : Program} {w : World} {H : Hp} {h h' : Heap} {x e : Addr} {o' : HO}
/-- the object at e is changed: x itself, or the dict of the instance x -/
theorem HOk.write (ok : HOk P w H h) (mu : Mut (H x)) (he : e = x ∨ H e = some (.own x)) (k : ∀ b u, b ≠ e → h.get? b = some u → h'.get? b = some u) (heo : ∃ u, h'.get? e = some u)
    (new : ObjOk P w (upd H x o') h' x o') : HOk P w (upd H x o') h' := fun b u q => by
  have nown : ∀ c y, H c = some (.own y) → c ≠ x := fun c y r z => by subst z; rw [r] at mu; exact mu
  have ntup : ∀ c xs, H c = some (.tup xs) → c ≠ x := fun c xs r z => by subst z; rw [r] at mu; exact mu
  by_cases hb : b = x
  · subst hb; rw [upd_same] at q; cases q; exact new
  · rw [upd_ne hb] at q
    by_cases hbe : b = e
    · have q' : H b = some (.own x) := by
        rcases he with z | z
        · exact absurd (hbe.trans z) hb
        · rw [hbe]; exact z
      rw [q] at q'; cases q'
      obtain ⟨v, hv⟩ := heo
      exact ⟨v, by rw [hbe]; exact hv⟩
    · refine (ok b u q).stay (fun c v hc r => k c v ?_ r) (fun c r => by rw [upd_ne (nown c b r)]; exact r) fun c xs r => by rw [upd_ne (ntup c xs r)]; exact r
      rcases hc with rfl | hc
      · exact hbe
      · rintro rfl
        rcases he with z | z
        · exact nown c b hc z
        · rw [hc] at z; cases z; exact hb rfl
end

/-! ### kept unless tracked; of the frames at fs (the callers') the slots may change (an exception that passes writes there); of the records at ex (iterators) nothing is said -/
structure Un (fs ex : List Addr) (H H' : Hp) (h h' : Heap) : Prop where
  keep : ∀ b o, h.get? b = some o → H b = none → b ∉ fs → b ∉ ex → h'.get? b = some o
  slot : ∀ b o, h.get? b = some o → H b = none → b ∈ fs → b ∉ ex → ∃ sl, h'.get? b = some { o with slots := sl }
  free : ∀ b o, h.get? b = some o → H b = none → b ∉ ex → H' b = none
  there : ∀ b o, h.get? b = some o → b ∉ ex → ∃ o', h'.get? b = some o'
  tups : ∀ b xs, H b = some (.tup xs) → H' b = some (.tup xs)
  frzs : ∀ b o u, H b = some (.frz o u) → H' b = some (.frz o u)
  tbls : ∀ b ps, H b = some (.tbl ps) → ∃ more, H' b = some (.tbl (ps ++ more))
section
variable {fs fs' ex ex' : List Addr} {H H1 H2 : Hp} {h h1 h2 h' : Heap} {a x e : Addr} {o : HO}
theorem Un.any (u : Un fs ex H H1 h h1) {b : Addr} {ob : Obj} (q : h.get? b = some ob) (n : H b = none) (hx : b ∉ ex) : ∃ sl, h1.get? b = some { ob with slots := sl } := by
  by_cases hb : b ∈ fs
  · exact u.slot b ob q n hb hx
  · exact ⟨ob.slots, u.keep b ob q n hb hx⟩
theorem Un.trans (a : Un fs ex H H1 h h1) (b : Un fs ex H1 H2 h1 h2) : Un fs ex H H2 h h2 where
  keep := fun c ob q n hc hx => b.keep c ob (a.keep c ob q n hc hx) (a.free c ob q n hx) hc hx
  slot := fun c ob q n hc hx => by
    obtain ⟨sl, e1⟩ := a.slot c ob q n hc hx
    obtain ⟨sl', e2⟩ := b.slot c _ e1 (a.free c ob q n hx) hc hx
    exact ⟨sl', e2⟩
  free := fun c ob q n hx => by
    obtain ⟨o', e1⟩ := a.there c ob q hx
    exact b.free c o' e1 (a.free c ob q n hx) hx
  there := fun c ob q hx => by
    obtain ⟨o', e1⟩ := a.there c ob q hx
    exact b.there c o' e1 hx
  tups := fun c xs q => b.tups c xs (a.tups c xs q)
  frzs := fun c ob xs q => b.frzs c ob xs (a.frzs c ob xs q)
  tbls := fun c ps q => by
    obtain ⟨m1, e1⟩ := a.tbls c ps q
    obtain ⟨m2, e2⟩ := b.tbls c _ e1
    exact ⟨m1 ++ m2, by rw [e2, Array.append_assoc]⟩
theorem Un.kept (k : ∀ b u, h.get? b = some u → h'.get? b = some u) : Un fs ex H H h h' :=
  ⟨fun b ob q _ _ _ => k b ob q, fun b ob q _ _ _ => ⟨ob.slots, k b ob q⟩, fun _ _ _ n _ => n, fun b ob q _ => ⟨ob, k b ob q⟩, fun _ _ q => q, fun _ _ _ q => q, fun _ ps q => ⟨#[], by rw [q]; simp⟩⟩
theorem Un.refl : Un fs ex H H h h := Un.kept fun _ _ q => q
theorem Un.laid (k : ∀ b u, h.get? b = some u → h'.get? b = some u) (hp : h.objs.size ≤ a) (hn : H a = none) : Un fs ex H (upd H a o) h h' where
  keep := fun b u q _ _ _ => k b u q
  slot := fun b u q _ _ _ => ⟨u.slots, k b u q⟩
  free := fun b u q n _ => by rw [upd_ne (Nat.ne_of_lt (Nat.lt_of_lt_of_le (Heap.lt_size q) hp))]; exact n
  there := fun b u q _ => ⟨u, k b u q⟩
  tups := fun b xs q => by rw [upd_ne (ne_of_none q hn)]; exact q
  frzs := fun b u xs q => by rw [upd_ne (ne_of_none q hn)]; exact q
  tbls := fun b ps q => ⟨#[], by rw [upd_ne (ne_of_none q hn), q]; simp⟩
theorem Un.write (mu : Mut (H x)) (he : e = x ∨ H e = some (.own x)) (k : ∀ b u, b ≠ e → h.get? b = some u → h'.get? b = some u) (heo : ∃ u, h'.get? e = some u) : Un fs ex H (upd H x o) h h' := by
  have hx : ∀ b, H b = none → b ≠ x := fun b n z => by subst z; rw [n] at mu; exact mu
  have hb : ∀ b, H b = none → b ≠ e := fun b n z => by
    subst z
    rcases he with r | r
    · exact hx b n r
    · rw [n] at r; cases r
  have hm : ∀ b u, H b = some u → ¬ Mut (some u) → b ≠ x := fun b u q nm z => by subst z; rw [q] at mu; exact nm mu
  refine ⟨fun b u q n _ _ => k b u (hb b n) q, fun b u q n _ _ => ⟨u.slots, k b u (hb b n) q⟩, fun b u q n _ => by rw [upd_ne (hx b n)]; exact n, fun b u q _ => ?_,
    fun b xs q => by rw [upd_ne (hm b _ q fun z => z)]; exact q, fun b u xs q => by rw [upd_ne (hm b _ q fun z => z)]; exact q, fun b ps q => ⟨#[], by rw [upd_ne (hm b _ q fun z => z), q]; simp⟩⟩
  by_cases hbe : b = e
  · subst hbe; exact heo
  · exact ⟨u, k b u hbe q⟩
theorem Un.mono (u : Un fs ex H H1 h h1) (hs : ∀ b ∈ fs, b ∈ fs') (hx : ∀ b ∈ ex, b ∈ ex') : Un fs' ex' H H1 h h1 :=
  ⟨fun b ob q n hb he => u.keep b ob q n (fun z => hb (hs b z)) fun z => he (hx b z), fun _ _ q n _ he => u.any q n fun z => he (hx _ z), fun b ob q n he => u.free b ob q n fun z => he (hx b z), fun b ob q he => u.there b ob q fun z => he (hx b z), u.tups, u.frzs, u.tbls⟩
end

/-! ### the heap without what is tracked -/
def trk (h : Heap) (H : Hp) : List Addr := (List.range h.objs.size).filter fun a => (H a).isSome
def hidT (h : Heap) (H : Hp) : Heap := PySem.W.hideAll h (trk h H)
theorem hidT_size (h : Heap) (H : Hp) : (hidT h H).objs.size = h.objs.size := PySem.W.hideAll_size _ _
theorem hidT_get {h : Heap} {H : Hp} {b : Addr} {o : Obj} (e : h.get? b = some o) (n : H b = none) : (hidT h H).get? b = some o :=
  PySem.W.hideAll_get _ e fun hm => by
    have q : (H b).isSome = true := (List.mem_filter.mp hm).2
    rw [n] at q; simp at q
theorem of_hidT {h : Heap} {H : Hp} {b : Addr} {o : Obj} (e : (hidT h H).get? b = some o) : h.get? b = some o ∧ H b = none := by
  have e' : h.get? b = some o := PySem.W.of_hideAll (trk h H) e
  refine ⟨e', ?_⟩
  cases q : H b with
  | none => rfl
  | some x =>
    have hm : b ∈ trk h H := List.mem_filter.mpr ⟨List.mem_range.mpr (Heap.lt_size e'), by simp [q]⟩
    have z : (hidT h H).get? b = none := PySem.W.hideAll_none (trk h H) hm
    rw [z] at e; cases e

/-! ### OpenK's ledger, filled with every new object but one -/
def allNews (g h : Heap) (L : Addr) : List (Addr × Obj) := (List.range h.objs.size).filterMap fun a => if a = L ∨ (g.get? a).isSome = true then none else (h.get? a).map fun o => (a, o)
def rest (g h : Heap) (L d : Addr) : List (Addr × Obj) := (allNews g h L).filter fun p => decide (p.1 ≠ d)
end L2

namespace L2
open PySem PySem.Spec PyProof.Rows

/-- the module's facts, over the base: the heap at the law's entry without what is tracked there -/
structure Mod (K : PySem.W.Frag) (mg : Str → Option Value) (base : Heap) : Prop where
  kin : K.In base
  glob : base.Ns mainGlobals mg
  blt : ∃ mb, base.Ns builtinsNs mb ∧ ∀ x : Str, x ≠ "__name__" → mb x = bootBuiltins x
  nolimit : base.NoLimit

/-- the context: a def's body (or a comprehension's block) running. base: fixed through the whole law; s₀, H₀: the entry; outer: the frames whose slots others may change (a def's callers); stack: all frames that run;
   ex: iterators that were made ahead of the entry and are walked here (a comprehension's); fn: the names whose cells were made at the entry (a def: all; a comprehension's block: its own); calm: not within an except suite; pn: pins that every state bears; xe: what is wanted of an exception that leaves the code -/
structure Cx where
  prog : Program
  w : World
  K : PySem.W.Frag
  mg : Str → Option Value
  base : Heap
  A : Around
  N : List Str
  s₀ : Shared
  H₀ : Hp
  env : Env
  outer : List Env
  stack : List Env
  ex : List Addr
  fn : Str → Bool
  calm : Bool
  pn : List (Addr × Obj)
  xe : Value → Shared → Prop
/-- the callers' frames -/
def frs (l : List Env) : List Addr := l.filterMap (·.frame)
abbrev Cx.fs (X : Cx) : List Addr := frs X.outer

def Vis (sc : Scope) (x : Str) : Prop := sc.names.lookup x = some .local ∨ sc.names.lookup x = some .cell ∨ sc.names.lookup x = some .free
def Loc (sc : Scope) (x : Str) : Prop := sc.names.lookup x = some .local ∨ sc.names.lookup x = some .cell
def Look (env : Env) (h : Heap) (m : Str → Option Value) (x : Str) (u : Value) : Prop :=
  (env.kindOf x = some .local ∧ m x = some u) ∨ ((env.kindOf x = some .cell ∨ env.kindOf x = some .free) ∧ ∃ c, env.cells.lookup x = some c ∧ h.IsCell c (some u))

structure Cx.Ok (X : Cx) : Prop where
  mod : Mod X.K X.mg X.base
  kind : X.env.scope.kind = .function
  glob : X.env.globals = mainGlobals
  blt : X.env.builtins = builtinsNs
  above : X.s₀.heap.objs.size ≤ X.env.locals
  inj : ∀ x y c, X.env.cells.lookup x = some c → X.env.cells.lookup y = some c → x = y
  has : ∀ x, (X.env.kindOf x = some .cell ∨ X.env.kindOf x = some .free) → ∃ c, X.env.cells.lookup x = some c
  cab : ∀ x c, X.fn x = true → X.env.cells.lookup x = some c → X.s₀.heap.objs.size ≤ c
  hd : X.calm = true → X.A.handled = none
  frames : X.A.frames = some X.stack
  stk : X.stack = X.outer ∨ (X.stack = X.env :: X.outer ∧ X.env.frame = some X.env.locals)
  exf : ∀ b ∈ X.ex, b ≠ X.env.locals ∧ ∀ x c, X.env.cells.lookup x = some c → c ≠ b
  bs : ∀ b o, X.base.get? b = some o → X.s₀.heap.get? b = some o ∧ X.H₀ b = none
  bsz : X.base.objs.size ≤ X.s₀.heap.objs.size
  noex : ∀ b o, X.base.get? b = some o → b ∉ X.ex
  exfs : ∀ b ∈ X.ex, b ∉ X.fs
  funs : X.s₀.heap.FunFrames X.base X.outer
  frf : ∀ b ∈ X.fs, X.H₀ b = none

structure Inv (X : Cx) (pins : List (Addr × Obj)) (σ : List (Option V)) (H : Hp) (s : Shared) : Prop where
  ok : X.Ok
  os : s.os = X.s₀.os
  bare : AllBare s.gens
  base : Un X.fs X.ex X.H₀ H X.s₀.heap s.heap
  loc : ∃ m, s.heap.Ns X.env.locals m ∧ ∀ (i : Nat) (x : Str) (v : V), X.N[i]? = some x → σ[i]? = some (some v) → Vis X.env.scope x → ∃ u, RelV v u ∧ Look X.env s.heap m x u
  cell : ∀ x c, X.env.cells.lookup x = some c → ∃ v, s.heap.IsCell c v
  free : H X.env.locals = none
  freeC : ∀ x c, X.env.cells.lookup x = some c → H c = none
  pin : ∀ p ∈ X.pn ++ pins, s.heap.get? p.1 = some p.2 ∧ H p.1 = none ∧ p.1 ≠ X.env.locals ∧ p.1 ∉ X.fs ∧ ∀ v, p.2.data ≠ .cell v
  hok : HOk X.prog X.w H s.heap
  len : σ.length = X.N.length

section
variable {X : Cx} {pins : List (Addr × Obj)} {σ : List (Option V)} {H H' : Hp} {s : Shared} {h' : Heap}

theorem Cx.Ok.nofr (ok : X.Ok) {b : Addr} {o : Obj} (e : X.base.get? b = some o) : b ∉ X.fs := fun hb => by
  have := (ok.funs.mem hb).1
  rw [e] at this; cases this
theorem Inv.bs (I : Inv X pins σ H s) : ∀ b o, X.base.get? b = some o → s.heap.get? b = some o ∧ H b = none := fun b o e =>
  ⟨I.base.keep b o (I.ok.bs b o e).1 (I.ok.bs b o e).2 (I.ok.nofr e) (I.ok.noex b o e), I.base.free b o (I.ok.bs b o e).1 (I.ok.bs b o e).2 (I.ok.noex b o e)⟩
theorem Inv.bk (I : Inv X pins σ H s) : ∀ b o, X.base.get? b = some o → s.heap.get? b = some o := fun b o e => (I.bs b o e).1
theorem Inv.mod (I : Inv X pins σ H s) : Mod X.K X.mg X.base := I.ok.mod
theorem Inv.kIn (I : Inv X pins σ H s) : X.K.In s.heap := I.ok.mod.kin.keeps I.bk
theorem Inv.nolimit (I : Inv X pins σ H s) : s.heap.NoLimit := I.ok.mod.nolimit.keeps I.bk
/-- the frame over the base: for OpenK's rules (K.In X.base is I.mod.kin) -/
theorem Inv.fr (I : Inv X pins σ H s) : ∃ m, Fr X.base X.env.locals s.heap m :=
  let ⟨m, hn, _⟩ := I.loc
  ⟨m, hn, I.bk, Nat.le_trans I.ok.bsz I.ok.above⟩
theorem Inv.lt (I : Inv X pins σ H s) : X.env.locals < s.heap.objs.size := let ⟨_, hn, _⟩ := I.loc; hn.lt
theorem Inv.sz (I : Inv X pins σ H s) : X.s₀.heap.objs.size ≤ s.heap.objs.size := Nat.le_trans I.ok.above (Nat.le_of_lt I.lt)
theorem Inv.nofs (I : Inv X pins σ H s) {a : Addr} (h : s.heap.objs.size ≤ a) : a ∉ X.fs := fun hb => by
  obtain ⟨_, o, ho, _⟩ := I.ok.funs.mem hb
  exact absurd (Nat.lt_of_lt_of_le (Heap.lt_size ho) (Nat.le_trans I.sz h)) (Nat.lt_irrefl _)
theorem Inv.cne (I : Inv X pins σ H s) : ∀ x c, X.env.cells.lookup x = some c → c ≠ X.env.locals := fun x c e z => by
  obtain ⟨v, o, ho, hd⟩ := I.cell x c e
  obtain ⟨m, ⟨o', es, ep, ho', hd', _⟩, _⟩ := I.loc
  rw [z, ho'] at ho; cases ho; rw [hd'] at hd; cases hd
theorem Inv.funs (I : Inv X pins σ H s) : s.heap.FunFrames X.base X.outer := by
  have all : ∀ (l : List Env), (∀ b ∈ frs l, b ∈ X.fs) → X.s₀.heap.FunFrames X.base l → s.heap.FunFrames X.base l := by
    intro l
    induction l with
    | nil => intro _ _; trivial
    | cons env r ih =>
      intro hs hl
      obtain ⟨hk, ⟨L, o, hf, hn, ho, hd⟩, hr⟩ := hl
      have hL : L ∈ X.fs := hs L (by unfold frs; rw [List.filterMap_cons, hf]; exact List.mem_cons_self)
      obtain ⟨sl, e⟩ := I.base.slot L o ho (I.ok.frf L hL) hL fun z => I.ok.exfs L z hL
      exact ⟨hk, ⟨L, _, hf, hn, e, hd⟩, ih (fun b hb => hs b (by unfold frs; rw [List.filterMap_cons, hf]; exact List.mem_cons_of_mem _ hb)) hr⟩
  exact all X.outer (fun _ hb => hb) I.ok.funs

/-- the frames that run, for a call -/
theorem Inv.stack (I : Inv X pins σ H s) : s.heap.FunFrames X.base X.stack := by
  rcases I.ok.stk with e | ⟨e, hf⟩
  · rw [e]; exact I.funs
  · rw [e]
    obtain ⟨m, hn, _⟩ := I.loc
    refine .cons (by rw [I.ok.kind]; decide) hf hn ?_ I.funs
    exact Heap.get?_none_of_le (Nat.le_trans I.ok.bsz I.ok.above)
theorem Inv.stkSub (I : Inv X pins σ H s) : ∀ b ∈ frs X.stack, b ∈ X.env.locals :: X.fs := fun b hb => by
  rcases I.ok.stk with e | ⟨e, hf⟩
  · rw [e] at hb; exact List.mem_cons_of_mem _ hb
  · rw [e] at hb
    unfold frs at hb
    rw [List.filterMap_cons, hf] at hb
    exact hb
theorem Inv.stkFree (I : Inv X pins σ H s) : ∀ b ∈ frs X.stack, H b = none := fun b hb => by
  rcases List.mem_cons.mp (I.stkSub b hb) with e | hb
  · rw [e]; exact I.free
  · obtain ⟨_, o, ho, _⟩ := I.ok.funs.mem hb
    exact I.base.free b o ho (I.ok.frf b hb) fun z => I.ok.exfs b z hb

/-- THE STEP: the untracked objects but the frame and the records at ch are kept (the callers' frames up to slots), the frame's map is kept, the new abstract heap is held -/
theorem Inv.step {g' : Array GenState} {t' : Nat} {d' : Drawn} {ch : List Addr} (I : Inv X pins σ H s)
    (hch : ∀ b ∈ ch, (b ∈ X.ex ∨ X.s₀.heap.objs.size ≤ b) ∧ b ≠ X.env.locals ∧ (∀ x c, X.env.cells.lookup x = some c → c ≠ b) ∧ ∀ p ∈ X.pn ++ pins, p.1 ≠ b)
    (keep : ∀ b o, b ≠ X.env.locals → b ∉ X.fs → b ∉ ch → s.heap.get? b = some o → H b = none → h'.get? b = some o)
    (slot : ∀ b o, b ≠ X.env.locals → b ∈ X.fs → b ∉ ch → s.heap.get? b = some o → H b = none → ∃ sl, h'.get? b = some { o with slots := sl }) (free : ∀ b o, b ∉ ch → s.heap.get? b = some o → H b = none → H' b = none)
    (there : ∀ b o, b ∉ ch → s.heap.get? b = some o → ∃ o', h'.get? b = some o')
    (tups : ∀ b xs, H b = some (.tup xs) → H' b = some (.tup xs)) (frzs : ∀ b o u, H b = some (.frz o u) → H' b = some (.frz o u)) (tbls : ∀ b ps, H b = some (.tbl ps) → ∃ more, H' b = some (.tbl (ps ++ more)))
    (ns : ∀ m, s.heap.Ns X.env.locals m → h'.Ns X.env.locals m) (hok : HOk X.prog X.w H' h') (hg : AllBare g') :
    Inv X pins σ H' { s with heap := h', gens := g', drawn := d', toks := t' } := by
  have neL : ∀ b o, X.s₀.heap.get? b = some o → b ≠ X.env.locals := fun b o e => Nat.ne_of_lt (Nat.lt_of_lt_of_le (Heap.lt_size e) I.ok.above)
  have neC : ∀ b o, X.s₀.heap.get? b = some o → b ∉ X.ex → b ∉ ch := fun b o e hx hb => by
    rcases (hch b hb).1 with z | z
    · exact hx z
    · exact absurd (Nat.lt_of_lt_of_le (Heap.lt_size e) z) (Nat.lt_irrefl _)
  have cellK : ∀ x c, X.env.cells.lookup x = some c → ∀ v, s.heap.IsCell c v → h'.IsCell c v := fun x c e v ⟨o, ho, hd⟩ => by
    have nch : c ∉ ch := fun z => (hch c z).2.2.1 x c e rfl
    by_cases hc : c ∈ X.fs
    · obtain ⟨sl, q⟩ := slot c o (I.cne x c e) hc nch ho (I.freeC x c e)
      exact ⟨_, q, hd⟩
    · exact ⟨o, keep c o (I.cne x c e) hc nch ho (I.freeC x c e), hd⟩
  refine ⟨I.ok, I.os, hg, ⟨fun b o e n hb hx => ?_, fun b o e n hb hx => ?_, fun b o e n hx => ?_, fun b o e hx => ?_, fun b xs e => tups b xs (I.base.tups b xs e), fun b o xs e => frzs b o xs (I.base.frzs b o xs e), fun b ps e => ?_⟩, ?_, fun x c e => ?_, ?_, fun x c e => ?_, fun p hp => ?_, hok, I.len⟩
  · exact keep b o (neL b o e) hb (neC b o e hx) (I.base.keep b o e n hb hx) (I.base.free b o e n hx)
  · obtain ⟨sl, e1⟩ := I.base.slot b o e n hb hx
    obtain ⟨sl', e2⟩ := slot b _ (neL b o e) hb (neC b o e hx) e1 (I.base.free b o e n hx)
    exact ⟨sl', e2⟩
  · obtain ⟨o', e1⟩ := I.base.there b o e hx
    exact free b o' (neC b o e hx) e1 (I.base.free b o e n hx)
  · obtain ⟨o', e1⟩ := I.base.there b o e hx
    exact there b o' (neC b o e hx) e1
  · obtain ⟨m1, e1⟩ := I.base.tbls b ps e
    obtain ⟨m2, e2⟩ := tbls b _ e1
    exact ⟨m1 ++ m2, by rw [e2, Array.append_assoc]⟩
  · obtain ⟨m, hn, hl⟩ := I.loc
    refine ⟨m, ns m hn, fun i x v e1 e2 e3 => ?_⟩
    obtain ⟨u, r, l⟩ := hl i x v e1 e2 e3
    refine ⟨u, r, ?_⟩
    rcases l with l | ⟨k, c, e, z⟩
    · exact .inl l
    · exact .inr ⟨k, c, e, cellK x c e _ z⟩
  · obtain ⟨v, z⟩ := I.cell x c e
    exact ⟨v, cellK x c e v z⟩
  · obtain ⟨m, ⟨o, _, _, ho, _⟩, _⟩ := I.loc
    exact free _ o (fun z => (hch _ z).2.1 rfl) ho I.free
  · obtain ⟨v, o, ho, hd⟩ := I.cell x c e
    exact free c o (fun z => (hch c z).2.2.1 x c e rfl) ho (I.freeC x c e)
  · obtain ⟨e, n, ne, nf, d⟩ := I.pin p hp
    have nch : p.1 ∉ ch := fun z => (hch p.1 z).2.2.2 p hp rfl
    exact ⟨keep p.1 p.2 ne nf nch e n, free p.1 p.2 nch e n, ne, nf, d⟩
/-- .. where the frame's own object is kept too -/
theorem Inv.un {t' : Nat} (I : Inv X pins σ H s) (u : Un X.fs [] H H' s.heap h') (hok : HOk X.prog X.w H' h') : Inv X pins σ H' { s with heap := h', toks := t' } := by
  obtain ⟨m, ⟨o, es, ep, ho, r⟩, _⟩ := id I.loc
  obtain ⟨sl, hL⟩ := u.any ho I.free (by simp)
  exact I.step (g' := s.gens) (d' := s.drawn) (ch := []) (fun _ z => nomatch z) (fun b o _ hb _ e n => u.keep b o e n hb (by simp)) (fun b o _ hb _ e n => u.slot b o e n hb (by simp)) (fun b o _ e n => u.free b o e n (by simp)) (fun b o _ e => u.there b o e (by simp)) u.tups u.frzs u.tbls (fun m' hm => by
    obtain ⟨o', es', ep', ho', r'⟩ := hm
    rw [ho] at ho'; cases ho'
    exact ⟨_, es', ep', hL, r'⟩) hok I.bare
/-- behind a call (or a comprehension's block): the slots of this frame may have changed too, the records at ch may have turned -/
theorem Inv.call {g' : Array GenState} {t' : Nat} {d' : Drawn} {ch : List Addr} (I : Inv X pins σ H s) (u : Un (frs X.stack) ch H H' s.heap h') (hok : HOk X.prog X.w H' h') (hg : AllBare g')
    (hch : ∀ b ∈ ch, (b ∈ X.ex ∨ X.s₀.heap.objs.size ≤ b) ∧ b ≠ X.env.locals ∧ (∀ x c, X.env.cells.lookup x = some c → c ≠ b) ∧ ∀ p ∈ X.pn ++ pins, p.1 ≠ b) :
    Inv X pins σ H' { s with heap := h', gens := g', drawn := d', toks := t' } := by
  obtain ⟨m, ⟨o, es, ep, ho, r⟩, _⟩ := id I.loc
  obtain ⟨sl, hL⟩ := u.any ho I.free fun z => (hch _ z).2.1 rfl
  exact I.step (ch := ch) hch (fun b o hL hb hc e n => u.keep b o e n (fun z => (List.mem_cons.mp (I.stkSub b z)).elim hL hb) hc) (fun b o _ _ hc e n => u.any e n hc) (fun b o hc e n => u.free b o e n hc) (fun b o hc e => u.there b o e hc) u.tups u.frzs u.tbls (fun m' hm => by
    obtain ⟨o', es', ep', ho', r'⟩ := hm
    rw [ho] at ho'; cases ho'
    exact ⟨_, es', ep', hL, r'⟩) hok hg
/-- an untracked record of ours (an iterator) has turned -/
theorem Inv.turned {t' : Nat} {it : Addr} (I : Inv X pins σ H s) (k : ∀ b o, b ≠ it → s.heap.get? b = some o → h'.get? b = some o) (hn : H it = none) (hL : it ≠ X.env.locals)
    (h1 : it ∈ X.ex ∨ X.s₀.heap.objs.size ≤ it) (h2 : ∀ x c, X.env.cells.lookup x = some c → c ≠ it) (h3 : ∀ p ∈ X.pn ++ pins, p.1 ≠ it) : Inv X pins σ H { s with heap := h', toks := t' } := by
  have nit : ∀ b u, H b = some u → b ≠ it := fun b u e z => by rw [z, hn] at e; cases e
  refine I.step (g' := s.gens) (d' := s.drawn) (ch := [it]) (fun b hb => ?_) (fun b o _ _ hc e _ => k b o (fun z => hc (by simp [z])) e) (fun b o _ _ hc e _ => ⟨o.slots, k b o (fun z => hc (by simp [z])) e⟩) (fun _ _ _ _ n => n)
    (fun b o hc e => ⟨o, k b o (fun z => hc (by simp [z])) e⟩) (fun _ _ e => e) (fun _ _ _ e => e) (fun b ps e => ⟨#[], by rw [e]; simp⟩) (fun m hm => ?_) (fun b u e => ?_) I.bare
  · have e : b = it := by simpa using hb
    subst e
    exact ⟨h1, hL, h2, h3⟩
  · obtain ⟨o, es, ep, ho, r⟩ := hm
    exact ⟨o, es, ep, k _ o (Ne.symm hL) ho, r⟩
  · refine (I.hok b u e).stay (fun c v hc q => k c v ?_ q) (fun _ q => q) fun _ _ q => q
    rcases hc with z | z
    · rw [z]; exact nit b u e
    · exact nit c _ z
theorem Inv.tok (I : Inv X pins σ H s) (t : Nat) : Inv X pins σ H { s with toks := t } := I.un (h' := s.heap) (t' := t) Un.refl I.hok
/-- all objects kept -/
theorem Inv.kept {t' : Nat} (I : Inv X pins σ H s) (k : ∀ b u, s.heap.get? b = some u → h'.get? b = some u) : Inv X pins σ H { s with heap := h', toks := t' } := I.un (Un.kept k) (I.hok.kept k)
/-- a new object laid and tracked -/
theorem Inv.laid {a : Addr} {o : HO} {t' : Nat} (I : Inv X pins σ H s) (k : ∀ b u, s.heap.get? b = some u → h'.get? b = some u) (hp : s.heap.objs.size ≤ a) (new : ObjOk X.prog X.w (upd H a o) h' a o) :
    Inv X pins σ (upd H a o) { s with heap := h', toks := t' } := I.un (Un.laid k hp (I.hok.fresh hp)) (I.hok.laid k hp new)
/-- an object written -/
theorem Inv.write {x e : Addr} {o : HO} {t' : Nat} (I : Inv X pins σ H s) (mu : Mut (H x)) (he : e = x ∨ H e = some (.own x)) (k : ∀ b u, b ≠ e → s.heap.get? b = some u → h'.get? b = some u) (heo : ∃ u, h'.get? e = some u)
    (new : ObjOk X.prog X.w (upd H x o) h' x o) : Inv X pins σ (upd H x o) { s with heap := h', toks := t' } := I.un (Un.write mu he k heo) (I.hok.write mu he k heo new)
/-- forgetting slots, pins -/
theorem Inv.weak {σ' : List (Option V)} (I : Inv X pins σ H s) (hl : σ'.length = σ.length) (w : ∀ (i : Nat) v, σ'[i]? = some (some v) → σ[i]? = some (some v)) : Inv X pins σ' H s :=
  ⟨I.ok, I.os, I.bare, I.base, let ⟨m, hn, hl'⟩ := I.loc; ⟨m, hn, fun i x v e1 e2 e3 => hl' i x v e1 (w i v e2) e3⟩, I.cell, I.free, I.freeC, I.pin, I.hok, hl.trans I.len⟩
theorem Inv.pins_of {pins' : List (Addr × Obj)} (I : Inv X pins σ H s) (h : ∀ p ∈ pins', s.heap.get? p.1 = some p.2 ∧ H p.1 = none ∧ p.1 ≠ X.env.locals ∧ p.1 ∉ X.fs ∧ ∀ v, p.2.data ≠ .cell v) : Inv X pins' σ H s :=
  ⟨I.ok, I.os, I.bare, I.base, I.loc, I.cell, I.free, I.freeC, fun p hp => (List.mem_append.mp hp).elim (fun z => I.pin p (List.mem_append_left _ z)) (h p), I.hok, I.len⟩

theorem nodup_ix {N : List Str} (hN : N.Nodup) {i j : Nat} {x : Str} (a : N[i]? = some x) (b : N[j]? = some x) : i = j := by
  obtain ⟨h1, e1⟩ := List.getElem?_eq_some_iff.mp a
  obtain ⟨h2, e2⟩ := List.getElem?_eq_some_iff.mp b
  exact (List.getElem_inj hN).mp (e1.trans e2.symm)

/-- a name is stored; what changed -/
theorem store_ok2 {M : Model} {A : Around} {E : Value → Shared → Prop} {i : Nat} {x : Str} {v : V} {u : Value} {Q : Unit → Shared → Prop} (I : Inv X pins σ H s) (hN : X.N.Nodup) (hi : X.N[i]? = some x) (hx : Loc X.env.scope x) (r : RelV v u)
    (h : ∀ s', Inv X pins (σ.set i (some v)) H s' → (∃ a, Heap.SameBut a s.heap s'.heap ∧ (a = X.env.locals ∨ X.env.cells.lookup x = some a)) → Q () s') (hf : X.fn x = true ∨ X.env.scope.names.lookup x = some .local := by first | exact .inl rfl | exact .inr rfl | assumption) : wpAny M A (storeName X.env x u) Q E s := by
  obtain ⟨m, hn, hl⟩ := id I.loc
  have hcls : (X.env.scope.kind == .class || (X.env.scope.kind == .module && X.env.locals != X.env.globals)) = false := by rw [I.ok.kind]; rfl
  have hiσ : i < σ.length := by rw [I.len]; exact (List.getElem?_eq_some_iff.mp hi).1
  have cne := I.cne
  have tracked : ∀ {a : Addr} {h' : Heap}, (∃ o, s.heap.get? a = some o ∧ H a = none) → Heap.SameBut a s.heap h' → HOk X.prog X.w H h' := fun {a h'} ha hs b ob e => by
    obtain ⟨_, _, hfree⟩ := ha
    refine (I.hok b ob e).stay (fun c w' hc q => (hs.2 c ?_).trans q) (fun _ q => q) fun _ _ q => q
    rintro rfl
    rcases hc with rfl | hc
    · rw [hfree] at e; cases e
    · rw [hfree] at hc; cases hc
  rcases hx with hk | hk
  · refine wpAny_storeName_local hk hn (fun h' hn' hs => ?_) hcls
    obtain ⟨oL, _, _, hoL, _⟩ := id hn
    refine h _ ⟨I.ok, I.os, I.bare, ⟨fun b o e n hb hx => ?_, fun b o e n hb hx => ?_, I.base.free, fun b o e hx => ?_, I.base.tups, I.base.frzs, I.base.tbls⟩, ⟨_, hn', fun j y v' e1 e2 e3 => ?_⟩, fun y c e => ?_, I.free, I.freeC, fun p hp => ?_, tracked ⟨oL, hoL, I.free⟩ hs, by simpa using I.len⟩ ⟨_, hs, .inl rfl⟩
    · exact (hs.2 b (Nat.ne_of_lt (Nat.lt_of_lt_of_le (Heap.lt_size e) I.ok.above))).trans (I.base.keep b o e n hb hx)
    · obtain ⟨sl, e1⟩ := I.base.slot b o e n hb hx
      exact ⟨sl, (hs.2 b (Nat.ne_of_lt (Nat.lt_of_lt_of_le (Heap.lt_size e) I.ok.above))).trans e1⟩
    · obtain ⟨o', e1⟩ := I.base.there b o e hx
      exact ⟨o', (hs.2 b (Nat.ne_of_lt (Nat.lt_of_lt_of_le (Heap.lt_size e) I.ok.above))).trans e1⟩
    · by_cases hj : j = i
      · subst hj
        rw [hi] at e1; cases e1
        rw [List.getElem?_set_self hiσ] at e2
        cases e2
        exact ⟨u, r, .inl ⟨hk, by simp⟩⟩
      · rw [List.getElem?_set_ne (Ne.symm hj)] at e2
        obtain ⟨u', r', q⟩ := hl j y v' e1 e2 e3
        refine ⟨u', r', ?_⟩
        rcases q with ⟨k, e⟩ | ⟨k, c, e, z⟩
        · refine .inl ⟨k, ?_⟩
          have : y ≠ x := fun e => hj (nodup_ix hN e1 (e ▸ hi))
          simp [this, e]
        · exact .inr ⟨k, c, e, z.sameBut hs (cne y c e)⟩
    · obtain ⟨w', z⟩ := I.cell y c e
      exact ⟨w', z.sameBut hs (cne y c e)⟩
    · obtain ⟨e, n, ne, nf, d⟩ := I.pin p hp
      exact ⟨(hs.2 p.1 ne).trans e, n, ne, nf, d⟩
  · have hfn : X.fn x = true := by
      rcases hf with z | z
      · exact z
      · rw [z] at hk; cases hk
    obtain ⟨c, hc⟩ := I.ok.has x (.inl hk)
    obtain ⟨w', z⟩ := I.cell x c hc
    refine wpAny_storeName_cell I.ok.kind hk hc z (fun h' hc' hs => ?_)
    obtain ⟨oc, hoc, hocd⟩ := id z
    refine h { s with heap := h' } ⟨I.ok, I.os, I.bare, ⟨fun b o e n hb hx => ?_, fun b o e n hb hx => ?_, I.base.free, fun b o e hx => ?_, I.base.tups, I.base.frzs, I.base.tbls⟩, ⟨m, hn.sameBut hs (Ne.symm (cne x c hc)), fun j y v' e1 e2 e3 => ?_⟩, fun y c' e => ?_, I.free, I.freeC, fun p hp => ?_, tracked ⟨oc, hoc, I.freeC x c hc⟩ hs, by simpa using I.len⟩ ⟨c, hs, .inr hc⟩
    · exact (hs.2 b (Nat.ne_of_lt (Nat.lt_of_lt_of_le (Heap.lt_size e) (I.ok.cab x c hfn hc)))).trans (I.base.keep b o e n hb hx)
    · obtain ⟨sl, e1⟩ := I.base.slot b o e n hb hx
      exact ⟨sl, (hs.2 b (Nat.ne_of_lt (Nat.lt_of_lt_of_le (Heap.lt_size e) (I.ok.cab x c hfn hc)))).trans e1⟩
    · obtain ⟨o', e1⟩ := I.base.there b o e hx
      exact ⟨o', (hs.2 b (Nat.ne_of_lt (Nat.lt_of_lt_of_le (Heap.lt_size e) (I.ok.cab x c hfn hc)))).trans e1⟩
    · by_cases hj : j = i
      · subst hj
        rw [hi] at e1; cases e1
        rw [List.getElem?_set_self hiσ] at e2
        cases e2
        exact ⟨u, r, .inr ⟨.inl hk, c, hc, hc'⟩⟩
      · rw [List.getElem?_set_ne (Ne.symm hj)] at e2
        obtain ⟨u', r', q⟩ := hl j y v' e1 e2 e3
        refine ⟨u', r', ?_⟩
        rcases q with q | ⟨k, c', e, z'⟩
        · exact .inl q
        · refine .inr ⟨k, c', e, z'.sameBut hs ?_⟩
          rintro rfl
          exact hj (nodup_ix hN e1 (I.ok.inj _ _ _ e hc ▸ hi))
    · by_cases hcc : c' = c
      · subst hcc; exact ⟨_, hc'⟩
      · obtain ⟨w2, z2⟩ := I.cell y c' e
        exact ⟨w2, z2.sameBut hs hcc⟩
    · obtain ⟨e, n, ne, nf, d⟩ := I.pin p hp
      refine ⟨(hs.2 p.1 ?_).trans e, n, ne, nf, d⟩
      intro q
      rw [q, hoc] at e
      have q' : oc = p.2 := Option.some.inj e
      exact d w' (by rw [← q']; exact hocd)
theorem store_ok {M : Model} {A : Around} {E : Value → Shared → Prop} {i : Nat} {x : Str} {v : V} {u : Value} {Q : Unit → Shared → Prop} (I : Inv X pins σ H s) (hN : X.N.Nodup) (hi : X.N[i]? = some x) (hx : Loc X.env.scope x) (r : RelV v u)
    (h : ∀ s', Inv X pins (σ.set i (some v)) H s' → Q () s') (hf : X.fn x = true ∨ X.env.scope.names.lookup x = some .local := by first | exact .inl rfl | exact .inr rfl | assumption) : wpAny M A (storeName X.env x u) Q E s :=
  store_ok2 I hN hi hx r (fun s' I' _ => h s' I') hf
/-- behind a call or a block, the state as it is -/
theorem Inv.call' {s' : Shared} {ch : List Addr} (I : Inv X pins σ H s) (ho : s'.os = s.os) (u : Un (frs X.stack) ch H H' s.heap s'.heap) (hok : HOk X.prog X.w H' s'.heap) (hg : AllBare s'.gens)
    (hch : ∀ b ∈ ch, (b ∈ X.ex ∨ X.s₀.heap.objs.size ≤ b) ∧ b ≠ X.env.locals ∧ (∀ x c, X.env.cells.lookup x = some c → c ≠ b) ∧ ∀ p ∈ X.pn ++ pins, p.1 ≠ b) : Inv X pins σ H' s' := by
  obtain ⟨h', g', d', t', o'⟩ := s'
  have e : o' = s.os := ho
  subst e
  exact I.call (g' := g') (t' := t') (d' := d') u hok hg hch
end

/-! ### the judgements -/
/-- an exception: its class, its own dict's address (where it has one), the abstract heap behind it -/
abbrev XK := Value → Option Addr → Hp → Prop
abbrev St := List (Option V)
abbrev VK := V → Hp → Prop
/-- an expression's reading; a test's; an argument list's -/
abbrev TE := St → Hp → VK → Prop
abbrev TT := St → Hp → (Bool → Hp → Prop) → Prop
abbrev TA := St → Hp → (List V → Hp → Prop) → Prop
/-- what is wanted behind a statement -/
structure Ends where
  nx : St → Hp → Prop
  rt : VK
  bk : St → Hp → Prop := fun _ _ => False
  ct : St → Hp → Prop := fun _ _ => False
abbrev TS := Ends → St → Hp → Prop

def EP (X : Cx) (pins : List (Addr × Obj)) (σ : St) (Q : VK) (u : Value) (s' : Shared) : Prop := ∃ v H', Inv X pins σ H' s' ∧ RelV v u ∧ Q v H'
def TP (X : Cx) (pins : List (Addr × Obj)) (σ : St) (Q : Bool → Hp → Prop) (b : Bool) (s' : Shared) : Prop := ∃ H', Inv X pins σ H' s' ∧ Q b H'
def AP (X : Cx) (pins : List (Addr × Obj)) (σ : St) (Q : List V → Hp → Prop) (us : List Value) (s' : Shared) : Prop := ∃ vs H', Inv X pins σ H' s' ∧ Vals vs us ∧ Q vs H'
def SP (X : Cx) (pins : List (Addr × Obj)) (D : Ends) (f : Flow) (s' : Shared) : Prop :=
  match f with
  | .next => ∃ σ' H', Inv X pins σ' H' s' ∧ D.nx σ' H'
  | .brk => ∃ σ' H', Inv X pins σ' H' s' ∧ D.bk σ' H'
  | .cont => ∃ σ' H', Inv X pins σ' H' s' ∧ D.ct σ' H'
  | .ret u => ∃ v σ' H', Inv X pins σ' H' s' ∧ RelV v u ∧ D.rt v H'

def PE (X : Cx) (e : Expr) (t : TE) : Prop :=
  ∀ (pins : List (Addr × Obj)) (s : Shared) (σ : St) (H : Hp) (Q : VK), Inv X pins σ H s → t σ H Q → wpAny (model X.prog X.w) X.A (eval e X.env) (EP X pins σ Q) X.xe s
def PT (X : Cx) (e : Expr) (t : TT) : Prop :=
  ∀ (pins : List (Addr × Obj)) (s : Shared) (σ : St) (H : Hp) (Q : Bool → Hp → Prop), Inv X pins σ H s → t σ H Q → wpAny (model X.prog X.w) X.A (isTrue e X.env (eval e X.env)) (TP X pins σ Q) X.xe s
/-- a test whatever its 'whole' is (and, or) -/
def PW (X : Cx) (e : Expr) (t : TT) : Prop :=
  ∀ (whole : Sem Value) (pins : List (Addr × Obj)) (s : Shared) (σ : St) (H : Hp) (Q : Bool → Hp → Prop), Inv X pins σ H s → t σ H Q → wpAny (model X.prog X.w) X.A (isTrue e X.env whole) (TP X pins σ Q) X.xe s
theorem PW.pt {X : Cx} {e : Expr} {t : TT} (h : PW X e t) : PT X e t := h _
/-- an argument list (no star), from the left -/
def PA (X : Cx) (es : List Expr) (t : TA) : Prop :=
  ∀ (pos : Pos) (pins : List (Addr × Obj)) (s : Shared) (σ : St) (H : Hp) (Q : List V → Hp → Prop), Inv X pins σ H s → t σ H Q → wpAny (model X.prog X.w) X.A (spliced (backTo pos (starEach es X.env))) (AP X pins σ Q) X.xe s
def PS (X : Cx) (st : Stmt) (t : TS) : Prop :=
  ∀ (pins : List (Addr × Obj)) (s : Shared) (σ : St) (H : Hp) (D : Ends), Inv X pins σ H s → t D σ H → wpAny (model X.prog X.w) X.A (exec st X.env) (SP X pins D) X.xe s
def PSs (X : Cx) (st : List Stmt) (t : TS) : Prop :=
  ∀ (pins : List (Addr × Obj)) (s : Shared) (σ : St) (H : Hp) (D : Ends), Inv X pins σ H s → t D σ H → wpAny (model X.prog X.w) X.A (execs st X.env) (SP X pins D) X.xe s
/-- weaken the end -/
theorem thn {α : Type} {t : Sem α} {Q Q' : α → Shared → Prop} {M : Model} {A : Around} {E : Value → Shared → Prop} {s : Shared} (h : wpAny M A t Q E s) (hQ : ∀ a s, Q a s → Q' a s) : wpAny M A t Q' E s := wpAny_mono h hQ fun _ _ x => x
end L2

namespace L2
open PySem PySem.Spec PyProof.Rows
section
variable {X : Cx}

/-! ### names and constants -/
def tVar (i : Nat) : TE := fun σ H Q => ∃ v, σ[i]? = some (some v) ∧ Q v H
def tC (v : V) : TE := fun _ H Q => Q v H
theorem pe_var {i : Nat} {x : Str} {pos : Pos} (hN : X.N[i]? = some x) (hv : Vis X.env.scope x) (hd : (x == ("__debug__" : Str)) = false := by decide) (hcd : (x == ("__classdict__" : Str)) = false := by decide) : PE X (.Name x pos) (tVar i) := by
  intro pins s σ H Q I h
  obtain ⟨v, e, h⟩ := h
  obtain ⟨m, hn, hl⟩ := I.loc
  obtain ⟨u, r, l⟩ := hl i x v hN e hv
  have fin : EP X pins σ Q u s := ⟨v, H, I, r, h⟩
  rcases l with ⟨hk, hm⟩ | ⟨hk, c, hc, hcell⟩
  · exact wpAny_Name (wpAny_loadName_local I.ok.kind hk hn hm fin) hd
  · rcases hk with hk | hk
    · exact wpAny_Name (wpAny_loadName_cell I.ok.kind hk hc hcell fin) hd
    · exact wpAny_Name (wpAny_loadName_free I.ok.kind hk hc hcell fin hcd) hd
theorem pe_int {i j pos} : PE X (.Constant (.int i) j pos) (tC (.int i)) := fun _ _ _ H _ I h => wpAny_Constant_int ⟨.int i, H, I.tok _, ⟨_, rfl⟩, h⟩
theorem pe_bl {b j pos} : PE X (.Constant (.bool b) j pos) (tC (.bl b)) := fun _ _ _ H _ I h => Constant_bool ⟨.bl b, H, I, rfl, h⟩
theorem pe_non {j pos} : PE X (.Constant .none j pos) (tC .non) := fun _ _ _ H _ I h => Constant_none ⟨.non, H, I, rfl, h⟩
theorem pe_str {x j pos} : PE X (.Constant (.str x) j pos) (tC (.str x)) := fun _ _ _ H _ I h => Calls.Constant_str ⟨.str x, H, I.tok _, ⟨_, rfl⟩, h⟩

/-- a global name of the def -/
def Gl (X : Cx) (x : Str) : Prop := X.env.kindOf x = some .globalImplicit
theorem ld_glob {E : Value → Shared → Prop} {pins : List (Addr × Obj)} {s : Shared} {σ : St} {H : Hp} {x : Str} {u : Value} {pos : Pos} {Q : Value → Shared → Prop} (I : Inv X pins σ H s) (hg : Gl X x) (hm : X.mg x = some u) (h : Q u s)
    (hd : (x == ("__debug__" : Str)) = false := by decide) : wpAny (model X.prog X.w) X.A (eval (.Name x pos) X.env) Q E s :=
  Calls.Name_function_global I.ok.kind hg (Calls.loadGlobal_global (by rw [I.ok.glob]; exact I.mod.glob.keeps I.bk) hm h) hd
theorem ld_blt {E : Value → Shared → Prop} {pins : List (Addr × Obj)} {s : Shared} {σ : St} {H : Hp} {x : Str} {u : Value} {pos : Pos} {Q : Value → Shared → Prop} (I : Inv X pins σ H s) (hg : Gl X x) (hm : X.mg x = none) (hv : bootBuiltins x = some u) (h : Q u s)
    (hn : x ≠ "__name__" := by decide) (hd : (x == ("__debug__" : Str)) = false := by decide) : wpAny (model X.prog X.w) X.A (eval (.Name x pos) X.env) Q E s := by
  obtain ⟨mb, h1, h2⟩ := I.mod.blt
  exact Calls.Name_function_global I.ok.kind hg (Calls.loadGlobal_builtin (by rw [I.ok.glob]; exact I.mod.glob.keeps I.bk) hm (by rw [I.ok.blt]; exact h1.keeps I.bk) ((h2 x hn).trans hv) h) hd
/-- a module's constant, a class, a function, as a value -/
theorem pe_glob {x : Str} {v : V} {u : Value} {pos : Pos} (hg : Gl X x) (hm : X.mg x = some u) (r : RelV v u) (hd : (x == ("__debug__" : Str)) = false := by decide) : PE X (.Name x pos) (tC v) :=
  fun _ _ _ H _ I h => ld_glob I hg hm ⟨v, H, I, r, h⟩ hd
theorem pe_bltn {x : Str} {v : V} {u : Value} {pos : Pos} (hg : Gl X x) (hm : X.mg x = none) (hv : bootBuiltins x = some u) (r : RelV v u) (hn : x ≠ "__name__" := by decide) (hd : (x == ("__debug__" : Str)) = false := by decide) : PE X (.Name x pos) (tC v) :=
  fun _ _ _ H _ I h => ld_blt I hg hm hv ⟨v, H, I, r, h⟩ hn hd

/-! ### arithmetic -/
variable {a b : Expr} {ta tb : TE} {pos : Pos}
/-! ### comparisons -/
/-- a comparison as a value, as a test -/
def tB (t : TE) : TT := fun σ H Q => t σ H fun x H1 => ∃ c, x = .bl c ∧ Q c H1
/-- an expression whose value is a bool, as a test -/
theorem pt_val {e : Expr} {t : TE} (h : PE X e t) (he : ∀ whole, isTrue e X.env whole = (do let v ← whole; standAt e.pos; holding [v] (truthy v)) := by intro _; rfl) : PT X e (tB t) := by
  intro pins s σ H Q I hw
  refine isTrue_plain (thn (h pins s σ H _ I hw) fun v s1 ⟨x, H1, I1, r1, q1⟩ => ?_) (he _)
  obtain ⟨d, rfl, q⟩ := q1
  cases r1
  exact wpAny_truthy_bool ⟨H1, I1, q⟩

/-! ### and, or, not -/
variable {tA tB' : TT} {rest : List Expr}
def tAnd (t u : TT) : TT := fun σ H Q => t σ H fun c H1 => if c = true then u σ H1 Q else Q false H1
def tOr (t u : TT) : TT := fun σ H Q => t σ H fun c H1 => if c = true then Q true H1 else u σ H1 Q
def tNot (t : TT) : TT := fun σ H Q => t σ H fun c H1 => Q (!c) H1
theorem pw_and1 (ha : PT X a tA) : PW X (.BoolOp .And [a] pos) tA := by
  intro wh pins s σ H Q I h
  refine isTrue_and (thn (ha pins s σ H Q I h) fun c s1 e => ?_)
  cases c with
  | true => exact isTrue_and_nil e
  | false => exact e
theorem pw_or1 (ha : PT X a tA) : PW X (.BoolOp .Or [a] pos) tA := by
  intro wh pins s σ H Q I h
  refine isTrue_or (thn (ha pins s σ H Q I h) fun c s1 e => ?_)
  cases c with
  | false => exact isTrue_or_nil e
  | true => exact e
theorem pw_and (ha : PT X a tA) (hb : PW X (.BoolOp .And (b :: rest) pos) tB') : PW X (.BoolOp .And (a :: b :: rest) pos) (tAnd tA tB') := by
  intro wh pins s σ H Q I h
  refine isTrue_and (thn (ha pins s σ H _ I h) fun c s1 ⟨H1, I1, q1⟩ => ?_)
  cases c with
  | true => exact hb wh pins s1 σ H1 Q I1 q1
  | false => exact ⟨H1, I1, q1⟩
theorem pw_or (ha : PT X a tA) (hb : PW X (.BoolOp .Or (b :: rest) pos) tB') : PW X (.BoolOp .Or (a :: b :: rest) pos) (tOr tA tB') := by
  intro wh pins s σ H Q I h
  refine isTrue_or (thn (ha pins s σ H _ I h) fun c s1 ⟨H1, I1, q1⟩ => ?_)
  cases c with
  | true => exact ⟨H1, I1, q1⟩
  | false => exact hb wh pins s1 σ H1 Q I1 q1
theorem pt_not (ha : PT X a tA) : PT X (.UnaryOp .Not a pos) (tNot tA) := by
  intro pins s σ H Q I h
  exact isTrue_not (ha pins s σ H (fun c H1 => Q (!c) H1) I h)
/-- .. as values (bools) -/
def tAndV (ta tb : TE) : TE := fun σ H Q => ta σ H fun x H1 => ∃ c, x = .bl c ∧ if c = true then tb σ H1 Q else Q (.bl false) H1
theorem pe_one {op} {t : TE} (h : PE X a t) : PE X (.BoolOp op [a] pos) t := fun pins s σ H Q I hw => BoolOp_one (h pins s σ H Q I hw)
theorem pe_and (ha : PE X a ta) (hb : PE X (.BoolOp .And (b :: rest) pos) tb) : PE X (.BoolOp .And (a :: b :: rest) pos) (tAndV ta tb) := by
  intro pins s σ H Q I h
  refine BoolOp_and (thn (ha pins s σ H _ I h) fun v s1 ⟨x, H1, I1, r1, q1⟩ => ?_)
  obtain ⟨c, rfl, q1⟩ := q1
  cases r1
  refine wpAny_truthy_bool ?_
  cases c with
  | true => exact hb pins s1 σ H1 Q I1 q1
  | false => exact ⟨.bl false, H1, I1, rfl, q1⟩
/-- a if t else b -/
def tIf (t : TT) (ta tb : TE) : TE := fun σ H Q => t σ H fun c H1 => if c = true then ta σ H1 Q else tb σ H1 Q
theorem pe_ifExp {c : Expr} (hc : PT X c tA) (ha : PE X a ta) (hb : PE X b tb) : PE X (.IfExp c a b pos) (tIf tA ta tb) := by
  intro pins s σ H Q I h
  refine wpAny_IfExp (thn (hc pins s σ H _ I h) fun d s1 ⟨H1, I1, q1⟩ => ?_)
  cases d with
  | true => exact ha pins s1 σ H1 Q I1 q1
  | false => exact hb pins s1 σ H1 Q I1 q1
end
end L2

namespace L2
open PySem PySem.Spec PyProof.Rows

/-! ### a list, a tuple that is read: tracked, frozen, or an object of the module -/
def SqL (K : PySem.W.Frag) (H : Hp) (a : Addr) (xs : List V) : Prop :=
  Rd H a (.lst xs) ∨
    ∃ (o : Obj) (its : Array Value) (n : Nat), K.lookup a = some o ∧ o.cls = .type "list" ∧ o.dict = none ∧ o.data = .seq its n ∧ its.size ≤ sizeLine ∧ Vals xs its.toList
def SqT (K : PySem.W.Frag) (H : Hp) (a : Addr) (xs : List V) : Prop :=
  Rd H a (.tup xs) ∨
    ∃ (o : Obj) (its : Array Value) (n : Nat), K.lookup a = some o ∧ o.cls = .type "tuple" ∧ o.data = .seq its n ∧ its.size ≤ sizeLine ∧ Vals xs its.toList
def absV : Value → Option V
  | .none => some .non
  | .bool b => some (.bl b)
  | .int i _ => some (.int i)
  | .str x _ => some (.str x)
  | .bytes b _ => some (.byt b)
  | .float b _ => some (.flt b)
  | .ref a => some (.ref a)
  | .type n => some (.ty n)
  | _ => none
theorem RelV.abs {x : V} {u : Value} (r : RelV x u) : absV u = some x := by
  cases x with
  | non => cases r; rfl
  | bl _ => cases r; rfl
  | int _ => obtain ⟨t, rfl⟩ := r; rfl
  | str _ => obtain ⟨t, rfl⟩ := r; rfl
  | byt _ => obtain ⟨t, rfl⟩ := r; rfl
  | flt _ => obtain ⟨t, rfl⟩ := r; rfl
  | ref _ => cases r; rfl
  | ty _ => cases r; rfl
theorem RelV.inj {x y : V} {u : Value} (r : RelV x u) (q : RelV y u) : x = y := Option.some.inj (r.abs.symm.trans q.abs)
theorem Vals.inj : ∀ {xs ys : List V} {us : List Value}, Vals xs us → Vals ys us → xs = ys
  | _, _, _, .nil, .nil => rfl
  | _, _, _, .cons r t, .cons r' t' => by rw [r.inj r', Vals.inj t t']
section
variable {X : Cx} {pins : List (Addr × Obj)} {σ : St} {H : Hp} {s : Shared} {a : Addr} {xs ys : List V}
theorem SqL.of {K : PySem.W.Frag} (h : H a = some (.lst xs)) : SqL K H a xs := .inl (.inl h)
theorem SqT.of {K : PySem.W.Frag} (h : H a = some (.tup xs)) : SqT K H a xs := .inl (.inl h)
theorem Inv.list (I : Inv X pins σ H s) (h : SqL X.K H a xs) : ∃ its : List Value, Vals xs its ∧ PlainL s.heap a its.toArray ∧ xs.length ≤ sizeLine := by
  rcases h with h | ⟨o, its, n, hk, hc, hd, hs, hz, r⟩
  · obtain ⟨z, its, n, r, e⟩ := h.ok I.hok
    exact ⟨its, r, ⟨_, n, e, rfl, rfl, rfl⟩, z⟩
  · refine ⟨its.toList, r, ⟨o, n, I.kIn a o hk, hc, hd, by simpa using hs⟩, ?_⟩
    have e := r.length
    simp only [Array.length_toList] at e
    omega
theorem Inv.tuple (I : Inv X pins σ H s) (h : SqT X.K H a xs) : ∃ its : List Value, Vals xs its ∧ IsTup s.heap a its.toArray ∧ xs.length ≤ sizeLine := by
  rcases h with h | ⟨o, its, n, hk, hc, hs, hz, r⟩
  · obtain ⟨z, its, r, p⟩ := h.ok I.hok
    exact ⟨its, r, p.tup, z⟩
  · refine ⟨its.toList, r, ⟨o, I.kIn a o hk, hc, n, by simpa using hs⟩, ?_⟩
    have e := r.length
    simp only [Array.length_toList] at e
    omega
theorem Inv.list_inj (I : Inv X pins σ H s) (h : SqL X.K H a xs) (h' : SqL X.K H a ys) : xs = ys := by
  obtain ⟨its, r, ⟨o, n, e, _, _, d⟩, _⟩ := I.list h
  obtain ⟨its', r', ⟨o', n', e', _, _, d'⟩, _⟩ := I.list h'
  rw [e] at e'; cases e'
  rw [d] at d'
  injection d' with d1 _
  have : its = its' := by simpa using congrArg Array.toList d1
  subst this
  exact r.inj r'
theorem Inv.tuple_inj (I : Inv X pins σ H s) (h : SqT X.K H a xs) (h' : SqT X.K H a ys) : xs = ys := by
  obtain ⟨its, r, ⟨o, e, _, n, d⟩, _⟩ := I.tuple h
  obtain ⟨its', r', ⟨o', e', _, n', d'⟩, _⟩ := I.tuple h'
  rw [e] at e'; cases e'
  rw [d] at d'
  injection d' with d1 _
  have : its = its' := by simpa using congrArg Array.toList d1
  subst this
  exact r.inj r'
end

/-! ### another wish about exceptions -/
abbrev Cx.wish (X : Cx) (E : Value → Shared → Prop) : Cx := { X with xe := E }
/-- no exception leaves -/
abbrev Cx.nox (X : Cx) : Cx := X.wish fun _ _ => False
theorem Cx.Ok.wish {X : Cx} (ok : X.Ok) (E : Value → Shared → Prop) : (X.wish E).Ok :=
  ⟨ok.mod, ok.kind, ok.glob, ok.blt, ok.above, ok.inj, ok.has, ok.cab, ok.hd, ok.frames, ok.stk, ok.exf, ok.bs, ok.bsz, ok.noex, ok.exfs, ok.funs, ok.frf⟩
theorem Cx.Ok.unwish {X : Cx} {E : Value → Shared → Prop} (ok : (X.wish E).Ok) : X.Ok :=
  ⟨ok.mod, ok.kind, ok.glob, ok.blt, ok.above, ok.inj, ok.has, ok.cab, ok.hd, ok.frames, ok.stk, ok.exf, ok.bs, ok.bsz, ok.noex, ok.exfs, ok.funs, ok.frf⟩
section
variable {X : Cx} {pins : List (Addr × Obj)} {σ : St} {H : Hp} {s : Shared} {E : Value → Shared → Prop}
theorem Inv.wish (I : Inv X pins σ H s) (E : Value → Shared → Prop) : Inv (X.wish E) pins σ H s := ⟨I.ok.wish E, I.os, I.bare, I.base, I.loc, I.cell, I.free, I.freeC, I.pin, I.hok, I.len⟩
theorem Inv.unwish (I : Inv (X.wish E) pins σ H s) : Inv X pins σ H s := ⟨I.ok.unwish, I.os, I.bare, I.base, I.loc, I.cell, I.free, I.freeC, I.pin, I.hok, I.len⟩
theorem SP.unwish {D : Ends} {f : Flow} {s' : Shared} (h : SP (X.wish E) pins D f s') : SP X pins D f s' := by
  cases f with
  | next => obtain ⟨σ', H', I, q⟩ := h; exact ⟨σ', H', I.unwish, q⟩
  | brk => obtain ⟨σ', H', I, q⟩ := h; exact ⟨σ', H', I.unwish, q⟩
  | cont => obtain ⟨σ', H', I, q⟩ := h; exact ⟨σ', H', I.unwish, q⟩
  | ret u => obtain ⟨v, σ', H', I, r, q⟩ := h; exact ⟨v, σ', H', I.unwish, r, q⟩
theorem PE.nox {e : Expr} {t : TE} (h : PE X.nox e t) : PE X e t := fun pins s σ H Q I hw =>
  wpAny_mono (h pins s σ H Q (I.wish _) hw) (fun _ _ ⟨v, H', I', r, q⟩ => ⟨v, H', I'.unwish, r, q⟩) fun _ _ z => False.elim z
theorem PT.nox {e : Expr} {t : TT} (h : PT X.nox e t) : PT X e t := fun pins s σ H Q I hw =>
  wpAny_mono (h pins s σ H Q (I.wish _) hw) (fun _ _ ⟨H', I', q⟩ => ⟨H', I'.unwish, q⟩) fun _ _ z => False.elim z
theorem PSs.nox {st : List Stmt} {t : TS} (h : PSs X.nox st t) : PSs X st t := fun pins s σ H D I hw =>
  wpAny_mono (h pins s σ H D (I.wish _) hw) (fun _ _ q => q.unwish) fun _ _ z => False.elim z
end

/-! ### blocks and small statements -/
section
variable {X : Cx} {st : Stmt} {rest : List Stmt} {t u : TS} {e : Expr} {te : TE} {pos : Pos}
def tNext : TS := fun D σ H => D.nx σ H
def tSeq (t u : TS) : TS := fun D σ H => t { D with nx := u D } σ H
theorem pss_nil : PSs X [] tNext := fun _ _ σ H _ I h => wpAny_execs_nil ⟨σ, H, I, h⟩
theorem pss_cons (h1 : PS X st t) (h2 : PSs X rest u) : PSs X (st :: rest) (tSeq t u) := by
  intro pins s σ H D I h
  refine wpAny_execs_cons (thn (h1 pins s σ H { D with nx := u D } I h) fun f s1 q => ?_)
  cases f with
  | next =>
    obtain ⟨σ', H', I', q⟩ := q
    exact h2 pins s1 σ' H' D I' q
  | ret v => exact q
  | brk => exact q
  | cont => exact q
theorem pss_one (h1 : PS X st t) : PSs X [st] t := by
  intro pins s σ H D I h
  refine wpAny_execs_cons (thn (h1 pins s σ H D I h) fun f s1 q => ?_)
  cases f with
  | next => exact wpAny_execs_nil q
  | ret v => exact q
  | brk => exact q
  | cont => exact q
/-- in a def's body nothing is shown -/
theorem Inv.quiet {pins : List (Addr × Obj)} {σ : St} {H : Hp} {s : Shared} (I : Inv X pins σ H s) : interactive X.env = false := by simp [interactive, I.ok.kind]
/-- an expression whose value is dropped -/
def tDrop (te : TE) : TS := fun D σ H => te σ H fun _ H1 => D.nx σ H1
theorem ps_expr (he : PE X e te) (hs : swapsWith e none pos.line X.env = pure false := by rfl) : PS X (.Expr e pos) (tDrop te) := by
  intro pins s σ H D I h
  exact wpAny_Expr_any (thn (he pins s σ H _ I h) fun v s1 ⟨x, H1, I1, r1, q1⟩ => ⟨σ, H1, I1, q1⟩) I.quiet hs
def tRet (te : TE) : TS := fun D σ H => te σ H D.rt
theorem ps_ret (he : PE X e te) : PS X (.Return (some e) pos) (tRet te) := by
  intro pins s σ H D I h
  exact wpAny_Return_some (thn (he pins s σ H _ I h) fun v s1 ⟨x, H1, I1, r1, q1⟩ => ⟨x, σ, H1, I1, r1, q1⟩)
def tIfS (c : TT) (t u : TS) : TS := fun D σ H => c σ H fun b H1 => if b = true then t D σ H1 else u D σ H1
theorem ps_if {c : Expr} {a b : List Stmt} {tc : TT} (hc : PT X c tc) (ha : PSs X a t) (hb : PSs X b u) : PS X (.If c a b pos) (tIfS tc t u) := by
  intro pins s σ H D I h
  refine wpAny_If (thn (hc pins s σ H _ I h) fun d s1 ⟨H1, I1, q1⟩ => ?_)
  cases d with
  | true => exact ha pins s1 σ H1 D I1 q1
  | false => exact hb pins s1 σ H1 D I1 q1
/-- code that the proof never comes to -/
def tNever : TS := fun _ _ _ => False
theorem ps_never : PS X st tNever := fun _ _ _ _ _ _ h => h.elim
end

/-! ### targets -/
abbrev TG := V → St → Hp → (St → Hp → Prop) → Prop
abbrev TGs := List V → St → Hp → (St → Hp → Prop) → Prop
def PG (X : Cx) (target : Expr) (t : TG) : Prop :=
  ∀ (pins : List (Addr × Obj)) (s : Shared) (σ : St) (H : Hp) (v : V) (u : Value) (Q : St → Hp → Prop), Inv X pins σ H s → RelV v u → t v σ H Q →
    wpAny (model X.prog X.w) X.A (assign target X.env u) (fun _ s' => ∃ σ' H', Inv X pins σ' H' s' ∧ Q σ' H') X.xe s
/-- several targets, one after another -/
def PGs (X : Cx) (ts : List Expr) (t : TGs) : Prop :=
  ∀ (pins : List (Addr × Obj)) (s : Shared) (σ : St) (H : Hp) (vs : List V) (us : List Value) (Q : St → Hp → Prop), Inv X pins σ H s → Vals vs us → t vs σ H Q →
    wpAny (model X.prog X.w) X.A (assignInOrder ((assignEach ts X.env).map (·.2)) us) (fun _ s' => ∃ σ' H', Inv X pins σ' H' s' ∧ Q σ' H') X.xe s
/-- o[i] = v, by values -/
abbrev TSet := V → V → V → Hp → (Hp → Prop) → Prop
def PSet (X : Cx) (t : TSet) : Prop :=
  ∀ (pins : List (Addr × Obj)) (s : Shared) (σ : St) (H : Hp) (o i v : V) (ov iv u : Value) (Q : Hp → Prop), Inv X pins σ H s → RelV o ov → RelV i iv → RelV v u → t o i v H Q →
    wpAny (model X.prog X.w) X.A (setItem ov iv u) (fun _ s' => ∃ H', Inv X pins σ H' s' ∧ Q H') X.xe s
section
variable {X : Cx} {pos : Pos}
def gName (i : Nat) : TG := fun v σ H Q => Q (σ.set i (some v)) H
theorem pg_name {i : Nat} {x : Str} (hN : X.N.Nodup) (hi : X.N[i]? = some x) (hx : Loc X.env.scope x) (hf : X.fn x = true ∨ X.env.scope.names.lookup x = some .local := by first | exact .inl rfl | exact .inr rfl | assumption) : PG X (.Name x pos) (gName i) := by
  intro pins s σ H v u Q I r h
  exact wpAny_assign_Name (store_ok I hN hi hx r (fun s' I' => ⟨_, H, I', h⟩) hf)
def gNil : TGs := fun vs σ H Q => vs = [] ∧ Q σ H
def gCons (t : TG) (u : TGs) : TGs := fun vs σ H Q => ∃ v r, vs = v :: r ∧ t v σ H fun σ' H' => u r σ' H' Q
theorem pgs_nil : PGs X [] gNil := by
  intro pins s σ H vs us Q I r h
  obtain ⟨e, h⟩ := h
  subst e
  cases r
  exact assignInOrder_nil ⟨σ, H, I, h⟩
theorem pgs_cons {e : Expr} {es : List Expr} {t : TG} {u : TGs} (h1 : PG X e t) (h2 : PGs X es u)
    (hs : (assignEach (e :: es) X.env).map (·.2) = assign e X.env :: (assignEach es X.env).map (·.2) := by rfl) : PGs X (e :: es) (gCons t u) := by
  intro pins s σ H vs us Q I r h
  obtain ⟨v, vr, e1, h⟩ := h
  subst e1
  cases r with
  | cons r rr =>
    rw [hs]
    refine assignInOrder_cons (thn (h1 pins s σ H _ _ _ I r h) fun _ s1 ⟨σ1, H1, I1, q1⟩ => ?_)
    exact h2 pins s1 σ1 H1 _ _ Q I1 rr q1
/-- (a, b, ..) = a tuple of that length -/
def gTup (K : PySem.W.Frag) (n : Nat) (t : TGs) : TG := fun v σ H Q => ∃ a xs, v = .ref a ∧ SqT K H a xs ∧ xs.length = n ∧ t xs σ H Q
theorem pg_tup {es : List Expr} {k : Nat} {t : TGs} {n : Nat} (hc : X.calm = true) (h : PGs X es t)
    (hn : (assignEach es X.env).length = n := by rfl) (hst : (assignEach es X.env).findIdx? (·.1) = none := by rfl) : PG X (.Tuple es k pos) (gTup X.K n t) := by
  intro pins s σ H v u Q I r hw
  obtain ⟨a, xs, e1, hq, hl, hw⟩ := hw
  subst e1
  cases r
  obtain ⟨its, rv, ht, hz⟩ := I.tuple hq
  refine assign_Tuple_tuple (I.ok.hd hc) ht (by simp [hn, ← hl, rv.length]) hst fun h' hx => ?_
  have I1 : Inv X pins σ H { s with heap := h' } := I.kept (t' := s.toks) fun b o e => hx b o (Nat.ne_of_lt (Heap.lt_size e)) e
  exact h pins _ σ H xs _ Q I1 (by simpa using rv) hw
/-- o[i] = .. -/
def gSub (to ti : TE) (t : TSet) : TG := fun v σ H Q => to σ H fun o H1 => ti σ H1 fun i H2 => t o i v H2 fun H3 => Q σ H3
theorem pg_sub {o i : Expr} {to ti : TE} {t : TSet} (ho : PE X o to) (hi : PE X i ti) (hs : PSet X t)
    (ha : ∀ v, assign (.Subscript o i pos) X.env v = (do
      let ov ← holding [v] (eval o X.env)
      let iv ← holding [v, ov] (eval i X.env)
      standAt pos
      holding [v, ov, iv] (setItem ov iv v)
      release [v, ov, iv] []) := by intro _; rfl) : PG X (.Subscript o i pos) (gSub to ti t) := by
  intro pins s σ H v u Q I r h
  rw [ha]
  refine wpAny_bind (wpAny_holding (thn (ho pins s σ H _ I h) fun ov s1 ⟨x, H1, I1, r1, q1⟩ => ?_))
  refine wpAny_bind (wpAny_holding (thn (hi pins s1 σ H1 _ I1 q1) fun iv s2 ⟨y, H2, I2, r2, q2⟩ => ?_))
  refine wpAny_bind (wpAny_standAt (wpAny_bind (wpAny_holding (thn (hs pins s2 σ H2 x y v ov iv u _ I2 r1 r2 r q2) fun _ s3 ⟨H3, I3, q3⟩ => ?_))))
  exact wpAny_release ⟨σ, H3, I3, q3⟩
/-- target = value -/
def tAsg (te : TE) (g : TG) : TS := fun D σ H => te σ H fun x H1 => g x σ H1 D.nx
theorem ps_asg {tg e : Expr} {te : TE} {g : TG} (he : PE X e te) (hg : PG X tg g) (hs : swapsWithSole [tg] e pos.line X.env = pure false := by rfl) (hw : swappedStores [tg] e X.env = pure none := by rfl)
    (h1 : (assignEach [tg] X.env).map (·.2) = [assign tg X.env] := by rfl) : PS X (.Assign [tg] e pos) (tAsg te g) := by
  intro pins s σ H D I h
  refine wpAny_Assign_stores (thn (he pins s σ H _ I h) fun v s1 ⟨x, H1, I1, r1, q1⟩ => ?_) hs hw
  rw [h1]
  exact thn (hg pins s1 σ H1 x v _ I1 r1 q1) fun _ s2 q => q
/-- name = value -/
theorem ps_set {i : Nat} {x : Str} {e : Expr} {te : TE} {pos' : Pos} (hN : X.N.Nodup) (hi : X.N[i]? = some x) (hx : Loc X.env.scope x) (he : PE X e te) (hs : swapsWith e (some (.Name x pos')) pos.line X.env = pure false := by rfl) (hf : X.fn x = true ∨ X.env.scope.names.lookup x = some .local := by first | exact .inl rfl | exact .inr rfl | assumption) :
    PS X (.Assign [.Name x pos'] e pos) (tAsg te (gName i)) := by
  intro pins s σ H D I h
  refine wpAny_Assign_Name (thn (he pins s σ H _ I h) fun v s1 ⟨y, H1, I1, r1, q1⟩ => ?_) hs
  exact store_ok I1 hN hi hx r1 (fun s2 I2 => ⟨_, H1, I2, q1⟩) hf
end

/-! ### while -/
section
variable {X : Cx} {pos : Pos}
/-- the invariant W with its measure -/
def tWhile (c : TT) (tb : TS) : TS := fun D σ H => ∃ W : Nat → St → Hp → Prop, (∃ m, W m σ H) ∧ ∀ m σ H, W m σ H →
  c σ H fun b H1 => if b = true then ∃ N : St → Hp → Prop, (∀ σ' H', N σ' H' → ∃ m', m' < m ∧ W m' σ' H') ∧ tb { D with nx := N, ct := N, bk := D.nx } σ H1 else D.nx σ H1
theorem ps_while {c : Expr} {body : List Stmt} {tc : TT} {tb : TS} (hp : PassesOwn (model X.prog X.w) X.A X.env X.xe) (hc : PT X c tc) (hb : PSs X body tb) : PS X (.While c body [] pos) (tWhile tc tb) := by
  intro pins s σ H D I h
  obtain ⟨W, ⟨m0, w0⟩, turn⟩ := h
  refine wpAny_While (codeAny_whileLoop (fun n s' => ∃ σ' H', Inv X pins σ' H' s' ∧ W n σ' H') ?_ m0 ⟨σ, H, I, w0⟩)
  rintro n s1 ⟨σ1, H1, I1, w1⟩
  refine wpAny_passesOwn hp (thn (hc pins s1 σ1 H1 _ I1 (turn n σ1 H1 w1)) fun b s2 ⟨H2, I2, q2⟩ => ?_)
  cases b with
  | true =>
    obtain ⟨N, hN, q2⟩ := q2
    rw [if_pos rfl]
    refine wpAny_passesOwn hp (thn (hb pins s2 σ1 H2 _ I2 q2) fun f s3 q3 => ?_)
    cases f with
    | next =>
      obtain ⟨σ3, H3, I3, n3⟩ := q3
      obtain ⟨m', hm, w3⟩ := hN σ3 H3 n3
      exact ⟨m', hm, σ3, H3, I3, w3⟩
    | cont =>
      obtain ⟨σ3, H3, I3, n3⟩ := q3
      obtain ⟨m', hm, w3⟩ := hN σ3 H3 n3
      exact ⟨m', hm, σ3, H3, I3, w3⟩
    | brk => exact q3
    | ret v => exact q3
  | false =>
    rw [if_neg Bool.false_ne_true]
    exact wpAny_execs_nil ⟨σ1, H2, I2, q2⟩
end

/-! ### what a loop or a comprehension walks -/
/-- at turn i: it yields x (the heap may grow), or it stops -/
structure It where
  go : Nat → Hp → Prop
  yld : Nat → Hp → V → Hp → Prop
  stop : Nat → Hp → Prop
/-- the iterator's own objects may turn: they are not the frame's, not pinned, younger than the entry (or a comprehension's own) -/
def FpOk (X : Cx) (pins : List (Addr × Obj)) (H : Hp) (b : Addr) : Prop :=
  H b = none ∧ b ≠ X.env.locals ∧ b ∉ X.fs ∧ (b ∈ X.ex ∨ X.s₀.heap.objs.size ≤ b) ∧ (∀ x c, X.env.cells.lookup x = some c → c ≠ b) ∧ ∀ p ∈ X.pn ++ pins, p.1 ≠ b
theorem Inv.fpOk {X : Cx} {pins : List (Addr × Obj)} {σ : St} {H H' : Hp} {s : Shared} {b : Addr} (I : Inv X pins σ H s) (hb : s.heap.objs.size ≤ b) (hn : H' b = none) : FpOk X pins H' b := by
  refine ⟨hn, Nat.ne_of_gt (Nat.lt_of_lt_of_le I.lt hb), I.nofs hb, .inr (Nat.le_trans I.sz hb), fun x c e z => ?_, fun p hp z => ?_⟩
  · obtain ⟨v, q⟩ := I.cell x c e
    exact absurd (Nat.lt_of_lt_of_le q.lt (by rw [z]; exact hb)) (Nat.lt_irrefl _)
  · exact absurd (Nat.lt_of_lt_of_le (Heap.lt_size (I.pin p hp).1) (by rw [z]; exact hb)) (Nat.lt_irrefl _)
structure Turn (P : Program) (w : World) (K : PySem.W.Frag) (tg : Expr) (J : It) (fp : List Addr) (it : Addr) (tn : Nat → Heap → Prop) : Prop where
  mem : it ∈ fp
  obj : ∀ i h, tn i h → ∀ b ∈ fp, ∃ o, h.get? b = some o ∧ ∀ v, o.data ≠ .cell v
  keep : ∀ i h h', tn i h → (∀ b ∈ fp, ∀ o, h.get? b = some o → h'.get? b = some o) → tn i h'
  item : ∀ (X : Cx), X.prog = P → X.w = w → X.K = K → X.calm = true → ∀ (i : Nat) (pins : List (Addr × Obj)) (s : Shared) (σ : St) (H : Hp) (E : Value → Shared → Prop), Inv X pins σ H s → (∀ b ∈ fp, FpOk X pins H b) → tn i s.heap → J.go i H →
    wpAny (model P w) X.A (pyNext (.ref it)) (fun r s1 => ∃ u, r = some u ∧
      wpAny (model P w) X.A (letOwnedTupleGo tg (.ref it) u) (fun _ s2 => ∃ x H', Inv X pins σ H' s2 ∧ RelV x u ∧ J.yld i H x H' ∧ tn (i + 1) s2.heap ∧ ∀ b ∈ fp, H' b = none) E s1) E s
  done : ∀ (X : Cx), X.prog = P → X.w = w → X.K = K → X.calm = true → ∀ (i : Nat) (pins : List (Addr × Obj)) (s : Shared) (σ : St) (H : Hp) (E : Value → Shared → Prop), Inv X pins σ H s → (∀ b ∈ fp, FpOk X pins H b) → tn i s.heap → J.stop i H →
    wpAny (model P w) X.A (pyNext (.ref it)) (fun r s1 => r = none ∧ Inv X pins σ H s1) E s
  self : ∀ (A : Around) (i : Nat) (s : Shared) (Q : Value → Shared → Prop) (E : Value → Shared → Prop), tn i s.heap → Q (.ref it) s → wpAny (model P w) A (pyIter (.ref it)) Q E s
abbrev TI := St → Hp → (It → Hp → Prop) → Prop
/-- an iterator has come -/
def PIE (X : Cx) (pins : List (Addr × Obj)) (σ : St) (tg : Expr) (R : It → Hp → Prop) (itv : Value) (s2 : Shared) : Prop :=
  ∃ (it : Addr) (fp : List Addr) (tn : Nat → Heap → Prop) (J : It) (H' : Hp), itv = .ref it ∧ Inv X pins σ H' s2 ∧ Turn X.prog X.w X.K tg J fp it tn ∧ tn 0 s2.heap ∧ (∀ b ∈ fp, FpOk X pins H' b) ∧ R J H'
def PI (X : Cx) (tg iter : Expr) (wi : TI) : Prop :=
  ∀ (pins : List (Addr × Obj)) (s : Shared) (σ : St) (H : Hp) (R : It → Hp → Prop), Inv X pins σ H s → wi σ H R →
    wpAny (model X.prog X.w) X.A (eval iter X.env) (fun v s1 => wpAny (model X.prog X.w) X.A (pyIter v) (PIE X pins σ tg R) X.xe s1) X.xe s

/-- the step ahead of the store is nothing for an iterator that keeps no tuple -/
theorem go_of {M : Model} {A : Around} {E : Value → Shared → Prop} {s : Shared} {tg : Expr} {it : Addr} {u : Value} {o : Obj} {n : String} {vs : Array Value} {Q : Unit → Shared → Prop} (ho : s.heap.get? it = some o) (hc : o.cls = .type n) (hd : o.data = .fields vs)
    (hn : ["enumerate", "zip", "dict_itemiterator", "dict_reverseitemiterator", "odict_iterator", "itertools.zip_longest", "itertools.pairwise"].contains n = false) (hQ : Q () s) : wpAny M A (letOwnedTupleGo tg (.ref it) u) Q E s := by
  unfold letOwnedTupleGo
  cases tg <;> first
    | exact wpAny_pure hQ
    | (cases u <;> first
        | exact wpAny_pure hQ
        | (refine wpAny_bind (wpAny_load ho ?_)
           rw [hc, hd]
           show wpAny M A (if (["enumerate", "zip", "dict_itemiterator", "dict_reverseitemiterator", "odict_iterator", "itertools.zip_longest", "itertools.pairwise"].contains n && vs[0]? == some (rawInt _)) = true then _ else _) Q E s
           rw [if_neg (by intro h; rw [hn, Bool.false_and] at h; cases h)]
           exact wpAny_pure hQ))

/-- the list at a, as it stands at each turn (a loop may append to it) -/
def Itl (K : PySem.W.Frag) (a : Addr) : It :=
  ⟨fun i H => ∃ xs x, SqL K H a xs ∧ xs[i]? = some x, fun i H x H' => H' = H ∧ ∀ xs, SqL K H a xs → xs[i]? = some x, fun i H => ∃ xs, SqL K H a xs ∧ xs.length ≤ i⟩
/-- lo, lo + 1, .. (n of them) -/
def Itr (lo : Int) (n : Nat) : It := ⟨fun i _ => i < n, fun i H x H' => H' = H ∧ x = .int (lo + i), fun i _ => n ≤ i⟩
theorem turn_list {P : Program} {w : World} {K : PySem.W.Frag} {tg : Expr} (a it : Addr) : Turn P w K tg (Itl K a) [it] it (fun i h => h.IsListIter it a i) where
  mem := by simp
  obj := fun i h st b hb => by
    have e : b = it := by simpa using hb
    subst e
    obtain ⟨o, e, c, d⟩ := st
    exact ⟨o, e, fun v z => by rw [d] at z; cases z⟩
  keep := fun i h h' st k => st.at fun o e => k it (by simp) o e
  item := by
    intro X hP hw hK hc i pins s σ H E I hf st hg
    subst hP hw hK
    obtain ⟨xs, x, hq, hx⟩ := hg
    obtain ⟨its, rv, p, hz⟩ := I.list hq
    obtain ⟨u, hu, ru⟩ := rv.get hx
    obtain ⟨f0, f1, f2, f3, f4, f5⟩ := hf it (by simp)
    refine wpAny_pyNext_list_item st p.isList (x := u) (by simpa using hu) fun h' st' sb => ?_
    have I1 : Inv X pins σ H { s with heap := h' } := I.turned (t' := s.toks) (fun b o hb e => (sb.2 b hb).trans e) f0 f1 f3 f4 f5
    obtain ⟨o, e, c, d⟩ := id st'
    exact ⟨u, rfl, go_of (s := { s with heap := h' }) e c d (by decide) ⟨x, H, I1, ru, ⟨rfl, fun ys hy => by rw [I.list_inj hy hq]; exact hx⟩, st', fun b hb => (hf b hb).1⟩⟩
  done := by
    intro X hP hw hK hc i pins s σ H E I hf st hg
    subst hP hw hK
    obtain ⟨xs, hq, hx⟩ := hg
    obtain ⟨its, rv, p, hz⟩ := I.list hq
    obtain ⟨f0, f1, f2, f3, f4, f5⟩ := hf it (by simp)
    have hl := rv.length
    exact wpAny_pyNext_list_end (I.ok.hd hc) st p.isList (by simp; omega) fun h' eb => ⟨rfl, I.turned (t' := s.toks) (fun b o hb e => eb b o hb e) f0 f1 f3 f4 f5⟩
  self := fun _ _ _ _ _ st h => wpAny_pyIter_listiter st h
theorem turn_range {P : Program} {w : World} {K : PySem.W.Frag} {tg : Expr} (it : Addr) (lo : Int) (n : Nat) : Turn P w K tg (Itr lo n) [it] it (fun i h => IsRangeIter h it (lo + (i : Nat) * 1) ((n : Int) - (i : Nat)) 1) where
  mem := by simp
  obj := fun i h st b hb => by
    have e : b = it := by simpa using hb
    subst e
    exact ⟨_, st, fun v z => by
      have z' : Data.fields _ = Data.cell v := z
      cases z'⟩
  keep := fun i h h' st k => k it (by simp) _ st
  item := by
    intro X hP hw hK hc i pins s σ H E I hf st hg
    subst hP hw hK
    obtain ⟨f0, f1, f2, f3, f4, f5⟩ := hf it (by simp)
    have W := Walks.range (prog := X.prog) (w := X.w) (I.ok.hd hc) it lo 1 n
    refine W.item i s _ _ hg st fun v h' tk hv st' kk => ?_
    obtain ⟨t, rfl⟩ := hv
    have I1 : Inv X pins σ H { s with heap := h', toks := tk } := I.turned (fun b o hb e => kk b o (by simpa using hb) e) f0 f1 f3 f4 f5
    refine ⟨_, rfl, go_of (s := { s with heap := h', toks := tk }) (n := "range_iterator") st' rfl rfl (by decide) ⟨.int (lo + i), H, I1, ⟨t, ?_⟩, ⟨rfl, rfl⟩, st', fun b hb => (hf b hb).1⟩⟩
    rw [Int.mul_one]
  done := by
    intro X hP hw hK hc i pins s σ H E I hf st hg
    subst hP hw hK
    obtain ⟨f0, f1, f2, f3, f4, f5⟩ := hf it (by simp)
    exact wpAny_pyNext_range_end (I.ok.hd hc) st (by have : n ≤ i := hg; omega) fun h' eb => ⟨rfl, I.turned (t' := s.toks) (fun b o hb e => eb b o hb e) f0 f1 f3 f4 f5⟩
  self := fun _ _ _ _ _ st h => wpAny_pyIter_rangeiter st h
end L2

namespace L2
open PySem PySem.Spec PyProof.Rows
section
variable {X : Cx} {tg : Expr}
def iList (K : PySem.W.Frag) (tl : TE) : TI := fun σ H R => tl σ H fun x H1 => ∃ a, x = .ref a ∧ (∃ xs, SqL K H1 a xs) ∧ R (Itl K a) H1
theorem pi_list {l : Expr} {tl : TE} (hl : PE X l tl) : PI X tg l (iList X.K tl) := by
  intro pins s σ H R I h
  refine thn (hl pins s σ H _ I h) fun v s1 ⟨x, H1, I1, r1, q1⟩ => ?_
  obtain ⟨a, e, ⟨xs, hq⟩, q⟩ := q1
  subst e
  cases r1
  obtain ⟨its, rv, p, hz⟩ := I1.list hq
  refine wpAny_pyIter_list p.isList ?_
  refine ⟨s1.heap.objs.size, [s1.heap.objs.size], _, _, H1, rfl, I1.kept (t' := s1.toks) fun b o e => Heap.get?_push_of_some _ e, turn_list a _, ⟨_, Heap.get?_push_size _ rfl, rfl, rfl⟩, fun b hb => ?_, q⟩
  have e : b = s1.heap.objs.size := by simpa using hb
  subst e
  exact I1.fpOk (Nat.le_refl _) (I1.hok.fresh (Nat.le_refl _))
/-- a range object just made, walked -/
theorem range_it {pins : List (Addr × Obj)} {σ : St} {H : Hp} {s : Shared} {R : It → Hp → Prop} {E : Value → Shared → Prop} {lo hi : Int} {t u v : Tok} {tk : Nat} (I : Inv X pins σ H s) (h1 : -(2 ^ 62) ≤ lo) (h2 : lo < 2 ^ 62) (h3 : -(2 ^ 62) ≤ hi) (h4 : hi < 2 ^ 62)
    (q : R (Itr lo (hi - lo).toNat) H) : wpAny (model X.prog X.w) X.A (pyIter (.ref s.heap.objs.size)) (PIE X pins σ tg R) E { s with heap := s.heap.push { cls := .type "range", data := .fields #[.int lo t, .int hi u, .int 1 v] }, toks := tk } := by
  refine wpAny_pyIter_range (IsRange.new ..) (small_one h1 h2 h3 h4) ?_
  have I1 : Inv X pins σ H { s with heap := s.heap.push { cls := .type "range", data := .fields #[.int lo t, .int hi u, .int 1 v] }, toks := tk } := I.kept fun b o e => Heap.get?_push_of_some _ e
  refine ⟨(s.heap.push { cls := .type "range", data := .fields #[.int lo t, .int hi u, .int 1 v] }).objs.size, [(s.heap.push { cls := .type "range", data := .fields #[.int lo t, .int hi u, .int 1 v] }).objs.size], _, _, H, rfl,
    I1.kept (t' := tk) fun b o e => Heap.get?_push_of_some _ e, turn_range _ lo (hi - lo).toNat, ?_, fun b hb => ?_, q⟩
  · have e1 : lo + ((0 : Nat) : Int) * 1 = lo := by simp
    have e2 : (((hi - lo).toNat : Nat) : Int) - ((0 : Nat) : Int) = Builtin.Range.rangeSize lo hi 1 := by rw [rangeSize_one]; split <;> omega
    show IsRangeIter _ _ (lo + ((0 : Nat) : Int) * 1) ((((hi - lo).toNat : Nat) : Int) - ((0 : Nat) : Int)) 1
    rw [e1, e2]
    exact Heap.get?_push_size _ rfl
  · have e : b = (s.heap.push { cls := .type "range", data := .fields #[.int lo t, .int hi u, .int 1 v] }).objs.size := by simpa using hb
    subst e
    exact I1.fpOk (Nat.le_refl _) (I1.hok.fresh (Nat.le_refl _))
def iRng1 (ta : TA) : TI := fun σ H R => ta σ H fun vs H1 => ∃ j : Int, vs = [.int j] ∧ -(2 ^ 62) ≤ j ∧ j < 2 ^ 62 ∧ R (Itr 0 j.toNat) H1
theorem pi_range1 {a : Expr} {ta : TA} {p pos : Pos} (hg : Gl X "range") (hm : X.mg "range" = none) (ha : PA X [a] ta) (hs : starEach [a] X.env = [(false, eval a X.env)] := by rfl) : PI X tg (.Call (.Name "range" p) [a] [] pos) (iRng1 ta) := by
  intro pins s σ H R I h
  refine Call_ (ld_blt I hg hm boot_range (PyProof.Rows.callWith_type1 (thn (ha pos pins s σ H _ I h) fun us s1 ⟨vs, H1, I1, r1, q1⟩ => ?_) hs rfl))
  obtain ⟨j, e, q1, q2, q⟩ := q1
  subst e
  cases r1 with
  | cons r rr =>
    cases rr
    obtain ⟨t, rfl⟩ := r
    exact call_range_1 (range_it I1 (by omega) (by omega) q1 q2 (by simpa using q))
/-! ### for -/
/-- W: the invariant by the turn and a measure; N: what the body is to reach -/
def tFor (wi : TI) (g : TG) (tb : TS) : TS := fun D σ H => wi σ H fun J H1 => ∃ W : Nat → Nat → St → Hp → Prop, (∃ m, W 0 m σ H1) ∧ ∀ i m σ H, W i m σ H →
  (J.stop i H ∧ D.nx σ H) ∨ (J.go i H ∧ ∃ N : St → Hp → Prop, (∀ σ' H', N σ' H' → ∃ m', m' < m ∧ W (i + 1) m' σ' H') ∧ ∀ x H', J.yld i H x H' → g x σ H' fun σ2 H2 => tb { D with nx := N, ct := N, bk := D.nx } σ2 H2)
/-- the records at fp as they stand -/
def pinsAt (fp : List Addr) (h : Heap) : List (Addr × Obj) := fp.filterMap fun b => (h.get? b).map fun o => (b, o)
theorem mem_pinsAt {fp : List Addr} {h : Heap} {b : Addr} {o : Obj} (hb : b ∈ fp) (e : h.get? b = some o) : (b, o) ∈ pinsAt fp h := List.mem_filterMap.mpr ⟨b, hb, by rw [e]; rfl⟩
theorem of_pinsAt {fp : List Addr} {h : Heap} {p : Addr × Obj} (hp : p ∈ pinsAt fp h) : p.1 ∈ fp ∧ h.get? p.1 = some p.2 := by
  obtain ⟨b, hb, e⟩ := List.mem_filterMap.mp hp
  cases q : h.get? b with
  | none => rw [q] at e; cases e
  | some o =>
    rw [q] at e
    have e' : (b, o) = p := Option.some.inj e
    subst e'
    exact ⟨hb, q⟩
theorem Inv.pinned {pins : List (Addr × Obj)} {σ : St} {H : Hp} {s : Shared} {fp : List Addr} (I : Inv X pins σ H s) (hf : ∀ b ∈ fp, FpOk X pins H b) (ho : ∀ b ∈ fp, ∃ o, s.heap.get? b = some o ∧ ∀ v, o.data ≠ .cell v) : Inv X (pins ++ pinsAt fp s.heap) σ H s :=
  I.pins_of fun p hp => (List.mem_append.mp hp).elim (fun z => I.pin p (List.mem_append_right _ z)) fun z => by
    obtain ⟨hb, e⟩ := of_pinsAt z
    obtain ⟨f0, f1, f2, _⟩ := hf p.1 hb
    obtain ⟨o, e', d⟩ := ho p.1 hb
    rw [e] at e'; cases e'
    exact ⟨e, f0, f1, f2, d⟩
theorem Inv.unpinned {pins pl : List (Addr × Obj)} {σ : St} {H : Hp} {s : Shared} (I : Inv X (pins ++ pl) σ H s) : Inv X pins σ H s := I.pins_of fun p hp => I.pin p (List.mem_append_right _ (List.mem_append_left _ hp))
theorem ps_for {iter : Expr} {body : List Stmt} {wi : TI} {g : TG} {tb : TS} {pos : Pos} (hp : PassesOwn (model X.prog X.w) X.A X.env X.xe) (hc : X.calm = true) (hi : PI X tg iter wi) (hg : PG X tg g) (hb : PSs X body tb)
    (hs : ∀ x, foldedSetIterable iter X.env x = pure x := by intro _; rfl) : PS X (.For tg iter body [] pos) (tFor wi g tb) := by
  intro pins s σ H D I h
  refine wpAny_For (thn (hi pins s σ H _ I h) fun v s1 h1 => thn h1 fun itv s2 h2 => ?_) hs
  obtain ⟨it, fp, tn, J, H2, e, I2, T, st2, f2, W, ⟨m0, w0⟩, turn⟩ := h2
  subst e
  -- what stays true of the iterator's objects through the loop
  have stat : ∀ {H' : Hp}, (∀ b ∈ fp, H' b = none) → ∀ b ∈ fp, FpOk X pins H' b := fun hn b hb => ⟨hn b hb, (f2 b hb).2⟩
  refine codeAny_forLoop_any (fun n s' => ∃ i σ' H', Inv X pins σ' H' s' ∧ tn i s'.heap ∧ (∀ b ∈ fp, H' b = none) ∧ W i n σ' H') ?_ m0 ⟨0, σ, H2, I2, st2, fun b hb => (f2 b hb).1, w0⟩
  rintro n s3 ⟨i, σ3, H3, I3, st3, fr3, w3⟩
  rcases turn i n σ3 H3 w3 with ⟨stop, qn⟩ | ⟨go, N, hN, step⟩
  · refine wpAny_passesOwn hp (thn (T.done X rfl rfl rfl hc i pins s3 σ3 H3 X.xe I3 (stat fr3) st3 stop) fun r s4 ⟨hr, I4⟩ => ?_)
    subst hr
    exact wpAny_execs_nil ⟨σ3, H3, I4, qn⟩
  · refine wpAny_passesOwn hp (thn (T.item X rfl rfl rfl hc i pins s3 σ3 H3 X.xe I3 (stat fr3) st3 go) fun r s4 ⟨u, hr, h4⟩ => ?_)
    subst hr
    refine wpAny_passesOwn hp (thn h4 fun _ s5 ⟨x, H5, I5, r5, y5, st5, fr5⟩ => ?_)
    have I5' := I5.pinned (stat fr5) (T.obj _ _ st5)
    refine wpAny_passesOwn hp (thn (hg _ s5 σ3 H5 x u _ I5' r5 (step x H5 y5)) fun _ s6 ⟨σ6, H6, I6, q6⟩ => ?_)
    refine wpAny_passesOwn hp (thn (hb _ s6 σ6 H6 _ I6 q6) fun f s7 q7 => ?_)
    have again : ∀ {σ7 : St} {H7 : Hp}, Inv X (pins ++ pinsAt fp s5.heap) σ7 H7 s7 → N σ7 H7 → ∃ m, m < n ∧ ∃ i σ' H', Inv X pins σ' H' s7 ∧ tn i s7.heap ∧ (∀ b ∈ fp, H' b = none) ∧ W i m σ' H' := fun {σ7 H7} I7 n7 => by
      obtain ⟨m', hm, w7⟩ := hN σ7 H7 n7
      refine ⟨m', hm, i + 1, σ7, H7, I7.unpinned, T.keep _ _ _ st5 fun b hb o e => (I7.pin (b, o) (List.mem_append_right _ (List.mem_append_right _ (mem_pinsAt hb e)))).1, fun b hb => ?_, w7⟩
      obtain ⟨o, e, d⟩ := T.obj _ _ st5 b hb
      exact (I7.pin (b, o) (List.mem_append_right _ (List.mem_append_right _ (mem_pinsAt hb e)))).2.1
    cases f with
    | next => obtain ⟨σ7, H7, I7, n7⟩ := q7; exact again I7 n7
    | cont => obtain ⟨σ7, H7, I7, n7⟩ := q7; exact again I7 n7
    | brk => obtain ⟨σ7, H7, I7, q7⟩ := q7; exact ⟨σ7, H7, I7.unpinned, q7⟩
    | ret v => obtain ⟨x7, σ7, H7, I7, r7, q7⟩ := q7; exact ⟨x7, σ7, H7, I7.unpinned, r7, q7⟩
end

/-! ### the forms one uses -/
/-- over a list that the body leaves as it is -/
theorem for_list {K : PySem.W.Frag} {a : Addr} {xs : List V} {g : TG} {tb : TS} {D : Ends} {σ : St} {H : Hp} (Pv : Nat → St → Hp → Prop) (h0 : Pv 0 σ H) (hl : ∀ i σ H, i ≤ xs.length → Pv i σ H → SqL K H a xs)
    (hs : ∀ i x σ H, xs[i]? = some x → Pv i σ H → g x σ H fun σ2 H2 => tb { D with nx := Pv (i + 1), ct := Pv (i + 1), bk := D.nx } σ2 H2) (hd : ∀ σ H, Pv xs.length σ H → D.nx σ H) :
    ∃ W : Nat → Nat → St → Hp → Prop, (∃ m, W 0 m σ H) ∧ ∀ i m σ H, W i m σ H →
      ((Itl K a).stop i H ∧ D.nx σ H) ∨ ((Itl K a).go i H ∧ ∃ N : St → Hp → Prop, (∀ σ' H', N σ' H' → ∃ m', m' < m ∧ W (i + 1) m' σ' H') ∧ ∀ x H', (Itl K a).yld i H x H' → g x σ H' fun σ2 H2 => tb { D with nx := N, ct := N, bk := D.nx } σ2 H2) := by
  refine ⟨fun i m σ H => m = xs.length - i ∧ i ≤ xs.length ∧ Pv i σ H, ⟨xs.length, by simp, Nat.zero_le _, h0⟩, ?_⟩
  rintro i m σ H ⟨rfl, hi, p⟩
  have q := hl i σ H hi p
  by_cases hlt : i < xs.length
  · refine .inr ⟨⟨xs, xs[i], q, by simp [hlt]⟩, Pv (i + 1), fun σ' H' p' => ⟨xs.length - (i + 1), by omega, rfl, hlt, p'⟩, fun x H' y => ?_⟩
    obtain ⟨e, y⟩ := y
    subst e
    exact hs i x σ _ (y xs q) p
  · have e : i = xs.length := by omega
    subst e
    exact .inl ⟨⟨xs, q, Nat.le_refl _⟩, hd σ H p⟩
theorem for_range {lo : Int} {n : Nat} {g : TG} {tb : TS} {D : Ends} {σ : St} {H : Hp} (Pv : Nat → St → Hp → Prop) (h0 : Pv 0 σ H)
    (hs : ∀ i σ H, i < n → Pv i σ H → g (.int (lo + i)) σ H fun σ2 H2 => tb { D with nx := Pv (i + 1), ct := Pv (i + 1), bk := D.nx } σ2 H2) (hd : ∀ σ H, Pv n σ H → D.nx σ H) :
    ∃ W : Nat → Nat → St → Hp → Prop, (∃ m, W 0 m σ H) ∧ ∀ i m σ H, W i m σ H →
      ((Itr lo n).stop i H ∧ D.nx σ H) ∨ ((Itr lo n).go i H ∧ ∃ N : St → Hp → Prop, (∀ σ' H', N σ' H' → ∃ m', m' < m ∧ W (i + 1) m' σ' H') ∧ ∀ x H', (Itr lo n).yld i H x H' → g x σ H' fun σ2 H2 => tb { D with nx := N, ct := N, bk := D.nx } σ2 H2) := by
  refine ⟨fun i m σ H => m = n - i ∧ i ≤ n ∧ Pv i σ H, ⟨n, by simp, Nat.zero_le _, h0⟩, ?_⟩
  rintro i m σ H ⟨rfl, hi, p⟩
  by_cases hlt : i < n
  · refine .inr ⟨hlt, Pv (i + 1), fun σ' H' p' => ⟨n - (i + 1), by omega, rfl, hlt, p'⟩, fun x H' y => ?_⟩
    obtain ⟨e, y⟩ := y
    subst e y
    exact hs i σ _ hlt p
  · have e : i = n := by omega
    subst e
    exact .inl ⟨Nat.le_refl _, hd σ H p⟩
end L2

namespace L2
open PySem PySem.Spec PyProof.Rows

abbrev R2 := V → V → Hp → VK → Prop
/-- a two-place operation on values: f is binaryOp op, inplaceOp op or compareOp op -/
def OpR (X : Cx) (f : Value → Value → Sem Value) (r : R2) : Prop :=
  ∀ (pins : List (Addr × Obj)) (s : Shared) (σ : St) (H : Hp) (x y : V) (v u : Value) (Q : VK), Inv X pins σ H s → RelV x v → RelV y u → r x y H Q →
    wpAny (model X.prog X.w) X.A (f v u) (EP X pins σ Q) X.xe s
/-- a one-place operation -/
def UnR (X : Cx) (f : Value → Sem Value) (r : V → Hp → VK → Prop) : Prop :=
  ∀ (pins : List (Addr × Obj)) (s : Shared) (σ : St) (H : Hp) (x : V) (v : Value) (Q : VK), Inv X pins σ H s → RelV x v → r x H Q →
    wpAny (model X.prog X.w) X.A (f v) (EP X pins σ Q) X.xe s
/-- a call of a value that is known (a builtin, a type) with values -/
def CallR (X : Cx) (f : Value) (r : List V → Hp → VK → Prop) : Prop :=
  ∀ (pins : List (Addr × Obj)) (s : Shared) (σ : St) (H : Hp) (xs : List V) (us : List Value) (Q : VK), Inv X pins σ H s → Vals xs us → r xs H Q →
    wpAny (model X.prog X.w) X.A (call f us) (EP X pins σ Q) X.xe s
def tOp (r : R2) (ta tb : TE) : TE := fun σ H Q => ta σ H fun x H1 => tb σ H1 fun y H2 => r x y H2 Q
/-- ints in, under C, and a value out -/
def rI (C : Int → Int → Prop) (g : Int → Int → V) : R2 := fun x y H Q => ∃ i j, x = .int i ∧ y = .int j ∧ C i j ∧ Q (g i j) H
def rI0 (g : Int → Int → V) : R2 := fun x y H Q => ∃ i j, x = .int i ∧ y = .int j ∧ Q (g i j) H
section
variable {X : Cx} {a b c : Expr} {ta tb tc : TE} {pos : Pos}

theorem binT (ha : PE X a ta) (hb : PE X b tb) {pins : List (Addr × Obj)} {s : Shared} {σ : St} {H : Hp} {R : V → V → Hp → Prop} (I : Inv X pins σ H s)
    (h : ta σ H fun x H1 => tb σ H1 fun y H2 => R x y H2) {Q : Value → Shared → Prop} {f : Value → Value → Sem Value}
    (hf : ∀ v u s2 x y H2, Inv X pins σ H2 s2 → RelV x v → RelV y u → R x y H2 → wpAny (model X.prog X.w) X.A (f v u) Q X.xe s2) :
    wpAny (model X.prog X.w) X.A (eval a X.env) (fun v s₁ => wpAny (model X.prog X.w) X.A (eval b X.env) (fun u s₂ => wpAny (model X.prog X.w) X.A (f v u) Q X.xe s₂) X.xe s₁) X.xe s := by
  refine thn (ha pins s σ H _ I h) fun v s1 ⟨x, H1, I1, r1, q1⟩ => ?_
  refine thn (hb pins s1 σ H1 _ I1 q1) fun u s2 ⟨y, H2, I2, r2, q2⟩ => ?_
  exact hf v u s2 x y H2 I2 r1 r2 q2

theorem pe_op {op : Operator} {r : R2} (ho : OpR X (binaryOp op) r) (ha : PE X a ta) (hb : PE X b tb) : PE X (.BinOp a op b pos) (tOp r ta tb) := by
  intro pins s σ H Q I h
  exact wpAny_BinOp (binT ha hb I h fun v u s2 x y H2 I2 rx ry q => ho pins s2 σ H2 x y v u Q I2 rx ry q)
/-! ### ints -/
theorem opI {f : Value → Value → Sem Value} {C : Int → Int → Prop} {g : Int → Int → Int}
    (rule : ∀ (i j : Int) (t u : Tok) (s : Shared) (Q : Value → Shared → Prop) (E : Value → Shared → Prop), C i j → Q (.int (g i j) s.toks) { s with toks := s.toks + 1 } → wpAny (model X.prog X.w) X.A (f (.int i t) (.int j u)) Q E s) :
    OpR X f (rI C fun i j => .int (g i j)) := by
  intro pins s σ H x y v u Q I rx ry h
  obtain ⟨i, j, rfl, rfl, hc, q⟩ := h
  obtain ⟨t, rfl⟩ := rx
  obtain ⟨t', rfl⟩ := ry
  exact rule i j t t' s _ _ hc ⟨.int (g i j), H, I.tok _, ⟨_, rfl⟩, q⟩
theorem opI0 {f : Value → Value → Sem Value} {g : Int → Int → Int}
    (rule : ∀ (i j : Int) (t u : Tok) (s : Shared) (Q : Value → Shared → Prop) (E : Value → Shared → Prop), Q (.int (g i j) s.toks) { s with toks := s.toks + 1 } → wpAny (model X.prog X.w) X.A (f (.int i t) (.int j u)) Q E s) :
    OpR X f (rI0 fun i j => .int (g i j)) := by
  intro pins s σ H x y v u Q I rx ry h
  obtain ⟨i, j, rfl, rfl, q⟩ := h
  obtain ⟨t, rfl⟩ := rx
  obtain ⟨t', rfl⟩ := ry
  exact rule i j t t' s _ _ ⟨.int (g i j), H, I.tok _, ⟨_, rfl⟩, q⟩
theorem opB0 {f : Value → Value → Sem Value} {g : Int → Int → Bool}
    (rule : ∀ (i j : Int) (t u : Tok) (s : Shared) (Q : Value → Shared → Prop) (E : Value → Shared → Prop), Q (.bool (g i j)) s → wpAny (model X.prog X.w) X.A (f (.int i t) (.int j u)) Q E s) :
    OpR X f (rI0 fun i j => .bl (g i j)) := by
  intro pins s σ H x y v u Q I rx ry h
  obtain ⟨i, j, rfl, rfl, q⟩ := h
  obtain ⟨t, rfl⟩ := rx
  obtain ⟨t', rfl⟩ := ry
  exact rule i j t t' s _ _ ⟨.bl (g i j), H, I, rfl, q⟩

def CDiv (i j : Int) : Prop := 0 < j ∧ j < 1073741824
def CMul (i j : Int) : Prop := (-(2 ^ 64) < i ∧ i < 2 ^ 64) ∨ (-(2 ^ 64) < j ∧ j < 2 ^ 64)
theorem CMul.ok {i j : Int} (h : CMul i j) : IntMulOk i j := by
  rcases h with ⟨h1, h2⟩ | ⟨h1, h2⟩
  · exact .of_left (intBits_le_64 h1 h2)
  · exact .of_right (intBits_le_64 h1 h2)
theorem op_add : OpR X (binaryOp .Add) (rI0 fun i j => .int (i + j)) := opI0 fun _ _ _ _ _ _ _ q => add_int q
theorem op_mul : OpR X (binaryOp .Mult) (rI CMul fun i j => .int (i * j)) := opI fun _ _ _ _ _ _ _ hc q => mul_int q hc.ok
/-- // by a positive divisor -/
theorem op_fdiv : OpR X (binaryOp .FloorDiv) (rI CDiv fun i j => .int (i / j)) := opI fun i j _ _ _ _ _ hc q => by
  have h1 : (0 : Int) < j := hc.1
  have h2 : j < 1073741824 := hc.2
  exact floordiv_int (by omega) (by rw [Int.fdiv_eq_ediv_of_nonneg i (by omega)]; exact q) (.inl (PyProof.noPylong_small (by omega)))
/-- % by a positive divisor of any size -/
theorem op_mod : OpR X (binaryOp .Mod) (rI (fun _ j => 0 < j) fun i j => .int (i % j)) := opI fun i j _ _ _ _ _ hc q => by
  have h1 : (0 : Int) < j := hc
  exact mod_int' (by omega) (by rw [Int.fmod_eq_emod_of_nonneg i (by omega)]; exact q)
/-! ### bools among ints: n += (a < b) -/
end

/-! ### comparisons -/
/-- the scalars that == tells apart as data does -/
def scal : V → V → Bool
  | .non, .non => true | .non, .int _ => true | .int _, .non => true | .non, .bl _ => true | .bl _, .non => true | .non, .str _ => true | .str _, .non => true
  | .int _, .int _ => true | .bl _, .bl _ => true | .str _, .str _ => true | .byt _, .byt _ => true
  | .int _, .str _ => true | .str _, .int _ => true | .bl _, .str _ => true | .str _, .bl _ => true
  | _, _ => false
def rEq : R2 := fun x y H Q => scal x y = true ∧ Q (.bl (decide (x = y))) H
def rNe : R2 := fun x y H Q => scal x y = true ∧ Q (.bl (!decide (x = y))) H

theorem dec_int {i j : Int} : decide (V.int i = V.int j) = (i == j) := by
  rw [Bool.eq_iff_iff]
  simp
theorem dec_bl {i j : Bool} : decide (V.bl i = V.bl j) = (i == j) := by
  rw [Bool.eq_iff_iff]
  simp
theorem dec_str {i j : Str} : decide (V.str i = V.str j) = (i == j) := by
  rw [Bool.eq_iff_iff]
  simp
theorem dec_byt {i j : Array UInt8} : decide (V.byt i = V.byt j) = (i.toList == j.toList) := by
  rw [Bool.eq_iff_iff]
  cases i
  cases j
  simp

section
variable {X : Cx} {a b c : Expr} {ta tb tc : TE} {pos : Pos}
theorem fin_bl {pins : List (Addr × Obj)} {σ : St} {H : Hp} {s : Shared} {Q : VK} {k k' : Bool} (I : Inv X pins σ H s) (q : Q (.bl k) H) (e : k = k') : EP X pins σ Q (.bool k') s := by
  subst e
  exact ⟨.bl k, H, I, rfl, q⟩
theorem op_eq : OpR X (compareOp .Eq) rEq := by
  intro pins s σ H x y v u Q I rx ry h
  obtain ⟨hs, q⟩ := h
  cases x with
  | non =>
    cases rx
    cases y with
    | non => cases ry; exact PySem.EqNone.eq_none_none (fin_bl I q (by simp))
    | bl j => cases ry; exact PySem.EqNone.eq_none_bool (fin_bl I q (by simp))
    | int j => obtain ⟨t', rfl⟩ := ry; exact PySem.EqNone.eq_none_int (fin_bl I q (by simp))
    | str j => obtain ⟨t', rfl⟩ := ry; exact PySem.EqNone.eq_none_str (fin_bl I q (by simp))
    | _ => exact absurd (show false = true from hs) Bool.false_ne_true
  | bl i =>
    cases rx
    cases y with
    | non => cases ry; exact PySem.EqNone.eq_bool_none (fin_bl I q (by simp))
    | bl j => cases ry; exact eq_bool (fin_bl I q dec_bl)
    | str j => obtain ⟨t', rfl⟩ := ry; exact PySem.EqMixed.eq_bool_str (fin_bl I q (by simp))
    | _ => exact absurd (show false = true from hs) Bool.false_ne_true
  | int i =>
    obtain ⟨t, rfl⟩ := rx
    cases y with
    | non => cases ry; exact PySem.EqNone.eq_int_none (fin_bl I q (by simp))
    | int j => obtain ⟨t', rfl⟩ := ry; exact eq_int (fin_bl I q dec_int)
    | str j => obtain ⟨t', rfl⟩ := ry; exact PySem.EqMixed.eq_int_str (fin_bl I q (by simp))
    | _ => exact absurd (show false = true from hs) Bool.false_ne_true
  | str i =>
    obtain ⟨t, rfl⟩ := rx
    cases y with
    | non => cases ry; exact PySem.EqNone.eq_str_none (fin_bl I q (by simp))
    | bl j => cases ry; exact PySem.EqMixed.eq_str_bool (fin_bl I q (by simp))
    | int j => obtain ⟨t', rfl⟩ := ry; exact PySem.EqMixed.eq_str_int (fin_bl I q (by simp))
    | str j => obtain ⟨t', rfl⟩ := ry; exact eq_str (fin_bl I q dec_str)
    | _ => exact absurd (show false = true from hs) Bool.false_ne_true
  | byt i =>
    obtain ⟨t, rfl⟩ := rx
    cases y with
    | byt j => obtain ⟨t', rfl⟩ := ry; exact PySem.W.eq_bytes (fin_bl I q dec_byt)
    | _ => exact absurd (show false = true from hs) Bool.false_ne_true
  | _ => cases y <;> exact absurd (show false = true from hs) Bool.false_ne_true
theorem op_ne : OpR X (compareOp .NotEq) rNe := by
  intro pins s σ H x y v u Q I rx ry h
  obtain ⟨hs, q⟩ := h
  cases x with
  | non =>
    cases rx
    cases y with
    | non => cases ry; exact PySem.EqNone.ne_none_none (fin_bl I q (by simp))
    | bl j => cases ry; exact PySem.EqNone.ne_none_bool (fin_bl I q (by simp))
    | int j => obtain ⟨t', rfl⟩ := ry; exact PySem.EqNone.ne_none_int (fin_bl I q (by simp))
    | str j => obtain ⟨t', rfl⟩ := ry; exact PySem.EqNone.ne_none_str (fin_bl I q (by simp))
    | _ => exact absurd (show false = true from hs) Bool.false_ne_true
  | bl i =>
    cases rx
    cases y with
    | non => cases ry; exact PySem.EqNone.ne_bool_none (fin_bl I q (by simp))
    | bl j => cases ry; exact ne_bool (fin_bl I q (congrArg not dec_bl))
    | str j => obtain ⟨t', rfl⟩ := ry; exact PySem.EqMixed.ne_bool_str (fin_bl I q (by simp))
    | _ => exact absurd (show false = true from hs) Bool.false_ne_true
  | int i =>
    obtain ⟨t, rfl⟩ := rx
    cases y with
    | non => cases ry; exact PySem.EqNone.ne_int_none (fin_bl I q (by simp))
    | int j => obtain ⟨t', rfl⟩ := ry; exact ne_int (fin_bl I q (congrArg not dec_int))
    | str j => obtain ⟨t', rfl⟩ := ry; exact PySem.EqMixed.ne_int_str (fin_bl I q (by simp))
    | _ => exact absurd (show false = true from hs) Bool.false_ne_true
  | str i =>
    obtain ⟨t, rfl⟩ := rx
    cases y with
    | non => cases ry; exact PySem.EqNone.ne_str_none (fin_bl I q (by simp))
    | bl j => cases ry; exact PySem.EqMixed.ne_str_bool (fin_bl I q (by simp))
    | int j => obtain ⟨t', rfl⟩ := ry; exact PySem.EqMixed.ne_str_int (fin_bl I q (by simp))
    | str j => obtain ⟨t', rfl⟩ := ry; exact ne_str (fin_bl I q (congrArg not dec_str))
    | _ => exact absurd (show false = true from hs) Bool.false_ne_true
  | byt i =>
    obtain ⟨t, rfl⟩ := rx
    cases y with
    | byt j => obtain ⟨t', rfl⟩ := ry; exact PySem.W.ne_bytes (fin_bl I q (congrArg not dec_byt))
    | _ => exact absurd (show false = true from hs) Bool.false_ne_true
  | _ => cases y <;> exact absurd (show false = true from hs) Bool.false_ne_true

theorem op_lt : OpR X (compareOp .Lt) (rI0 fun i j => .bl (decide (i < j))) := opB0 fun _ _ _ _ _ _ _ q => lt_int q
theorem op_gt : OpR X (compareOp .Gt) (rI0 fun i j => .bl (decide (j < i))) := opB0 fun _ _ _ _ _ _ _ q => gt_int q
theorem op_lt_str : OpR X (compareOp .Lt) (fun x y H Q => ∃ i j, x = .str i ∧ y = .str j ∧ Q (.bl (decide (i.cps.toList < j.cps.toList))) H) := by
  intro pins s σ H x y v u Q I rx ry h
  obtain ⟨i, j, rfl, rfl, q⟩ := h
  obtain ⟨t, rfl⟩ := rx
  obtain ⟨t', rfl⟩ := ry
  exact lt_str (fin_bl I q rfl)
/-- the one string within the other -/
theorem op_in_str : OpR X (compareOp .In) (fun x y H Q => ∃ i j, x = .str i ∧ y = .str j ∧ Q (.bl (!(Builtin.Str.occurrences j i 0 j.length 1).isEmpty)) H) := by
  intro pins s σ H x y v u Q I rx ry h
  obtain ⟨i, j, rfl, rfl, q⟩ := h
  obtain ⟨t, rfl⟩ := rx
  obtain ⟨t', rfl⟩ := ry
  exact in_str (fin_bl I q rfl)

theorem op_notN : OpR X (compareOp .IsNot) (fun x y H Q => y = .non ∧ Q (.bl (!decide (x = .non))) H) := by
  intro pins s σ H x y v u Q I rx ry h
  obtain ⟨rfl, q⟩ := h
  cases ry
  refine isnot_none_gen (fin_bl I q ?_)
  cases x <;> first
    | (cases rx; rfl)
    | (obtain ⟨t, rfl⟩ := rx; rfl)

theorem op_notin_str : OpR X (compareOp .NotIn) (fun x y H Q => ∃ i j, x = .str i ∧ y = .str j ∧ Q (.bl (!(!(Builtin.Str.occurrences j i 0 j.length 1).isEmpty))) H) := by
  intro pins s σ H x y v u Q I rx ry h
  obtain ⟨i, j, rfl, rfl, q⟩ := h
  obtain ⟨t, rfl⟩ := rx
  obtain ⟨t', rfl⟩ := ry
  exact notIn_str (fin_bl I q rfl)
/-- two rules for one operation: by cases -/
theorem OpR.or {f : Value → Value → Sem Value} {r r' : R2} (h : OpR X f r) (h' : OpR X f r') : OpR X f (fun x y H Q => r x y H Q ∨ r' x y H Q) := by
  intro pins s σ H x y v u Q I rx ry q
  rcases q with q | q
  · exact h pins s σ H x y v u Q I rx ry q
  · exact h' pins s σ H x y v u Q I rx ry q

theorem nomark (b : Expr) {op : CmpOp} (h : op ≠ .In := by decide) (h2 : op ≠ .NotIn := by decide) : behindInMarks op b = false := by
  have e1 : (op == CmpOp.In) = false := by cases op <;> first | rfl | exact absurd rfl h
  have e2 : (op == CmpOp.NotIn) = false := by cases op <;> first | rfl | exact absurd rfl h2
  cases b <;> simp [behindInMarks, e1, e2]
/-- a comparison as a value; hm: nomark b, or (for in, not in) by with_unfolding_all rfl -/
theorem pe_cmpR {op : CmpOp} {r : R2} (ho : OpR X (compareOp op) r) (ha : PE X a ta) (hb : PE X b tb) (hm : behindInMarks op b = false) : PE X (.Compare a [op] [b] pos) (tOp r ta tb) := by
  intro pins s σ H Q I h
  exact wpAny_Compare1 (binT ha hb I h fun v u s2 x y H2 I2 rx ry q => ho pins s2 σ H2 x y v u Q I2 rx ry q) hm
/-- a reading of a value as a test -/
def tTest (t : TE) : TT := fun σ H Q => t σ H fun x H' => ∃ k, x = .bl k ∧ Q k H'
theorem pt_cmpR {op : CmpOp} {r : R2} (ho : OpR X (compareOp op) r) (ha : PE X a ta) (hb : PE X b tb) (hm : behindInMarks op b = false) : PT X (.Compare a [op] [b] pos) (tTest (tOp r ta tb)) := by
  intro pins s σ H Q I h
  refine wpAny_isTrue_Compare1 (thn (ha pins s σ H _ I h) fun v s1 ⟨x, H1, I1, r1, q1⟩ => thn (hb pins s1 σ H1 _ I1 q1) fun u s2 ⟨y, H2, I2, r2, q2⟩ =>
    thn (ho pins s2 σ H2 x y v u _ I2 r1 r2 q2) fun c s3 ⟨z, H3, I3, r3, k, e, q3⟩ => ?_) hm
  subst e
  cases r3
  exact wpAny_truthy_bool ⟨H3, I3, q3⟩
/-! ### truth -/
theorem line63 : (sizeLine : Nat) < 2 ^ 63 := by rw [sizeLine_eq]; decide
/-! ### strs and bytes -/
theorem op_add_str : OpR X (binaryOp .Add) (fun x y H Q => ∃ i j, x = .str i ∧ y = .str j ∧ i.length + j.length ≤ sizeLine ∧ Q (.str (i ++ j)) H) := by
  intro pins s σ H x y v u Q I rx ry h
  obtain ⟨i, j, rfl, rfl, hz, q⟩ := h
  obtain ⟨t, rfl⟩ := rx
  obtain ⟨t', rfl⟩ := ry
  exact add_str (fun t' tk => ⟨.str (i ++ j), H, I.tok _, ⟨_, rfl⟩, q⟩) hz
/-! ### scalar builtins, by CallR -/
theorem vals1 {x : V} {us : List Value} (r : Vals [x] us) : ∃ u, us = [u] ∧ RelV x u := by
  cases r with
  | cons r1 r2 => cases r2; exact ⟨_, rfl, r1⟩
theorem vals2 {x y : V} {us : List Value} (r : Vals [x, y] us) : ∃ u w', us = [u, w'] ∧ RelV x u ∧ RelV y w' := by
  cases r with
  | cons r1 r2 =>
    cases r2 with
    | cons r3 r4 => cases r4; exact ⟨_, _, rfl, r1, r3⟩
theorem call_min2 (hc : X.calm = true) : CallR X (.builtin "min") (fun xs H Q => ∃ i j, xs = [.int i, .int j] ∧ Q (.int (if j < i then j else i)) H) := by
  intro pins s σ H xs us Q I r h
  obtain ⟨i, j, rfl, q⟩ := h
  obtain ⟨u, w', rfl, ⟨t, rfl⟩, ⟨t', rfl⟩⟩ := vals2 r
  refine min_two_ints (I.ok.hd hc) fun h' tk k => ⟨_, H, I.kept k, ?_, q⟩
  by_cases hj : j < i
  · rw [if_pos hj, if_pos hj]; exact ⟨_, rfl⟩
  · rw [if_neg hj, if_neg hj]; exact ⟨_, rfl⟩
theorem call_int1 : CallR X (.type "int") (fun xs H Q => (∃ i, xs = [.int i] ∧ Q (.int i) H) ∨ ∃ k, xs = [.bl k] ∧ Q (.int (if k then 1 else 0)) H) := by
  intro pins s σ H xs us Q I r h
  rcases h with ⟨i, rfl, q⟩ | ⟨k, rfl, q⟩
  · obtain ⟨u, rfl, t, rfl⟩ := vals1 r
    exact call_int_int ⟨.int i, H, I, ⟨_, rfl⟩, q⟩
  · obtain ⟨u, rfl, r1⟩ := vals1 r
    cases r1
    exact call_int_bool ⟨.int (if k then 1 else 0), H, I.tok _, ⟨_, rfl⟩, q⟩
theorem call_str_int : CallR X (.type "str") (fun xs H Q => ∃ i, xs = [.int i] ∧ i.natAbs.log2 < 1920 ∧ Q (.str (toString i)) H) := by
  intro pins s σ H xs us Q I r h
  obtain ⟨i, rfl, hz, q⟩ := h
  obtain ⟨u, rfl, t, rfl⟩ := vals1 r
  exact PySem.P.str_of_int hz ⟨.str _, H, I.tok _, ⟨_, rfl⟩, q⟩
end
end L2

namespace L2
open PySem PySem.Spec PyProof.Rows

/-! ### an instance, its attributes a map -/
structure ObjM (h : Heap) (x dx C : Addr) (mA : Str → Option Value) : Prop where
  obj : h.get? x = some (PySem.W.instObj C dx)
  ns : h.Ns1 dx mA
  ne : dx ≠ x

theorem lookIn_ns {h : Heap} {dx : Addr} {mA : Str → Option Value} (n : h.Ns1 dx mA) : ∃ od, h.get? dx = some od ∧ ∀ name, PySem.W.lookIn name od = some (mA name) := by
  obtain ⟨o, es, ep, ho, hd, hk, _, hm⟩ := n
  refine ⟨o, ho, fun name => ?_⟩
  have e := hm name
  unfold nsFind findBy at e
  rw [← Array.find?_toList] at e
  unfold PySem.W.lookIn
  rw [hd]
  dsimp only
  split
  · rename_i y q
    rw [q] at e
    exact congrArg some e
  · rename_i q
    rw [q] at e
    have a : es.toList.any (·.refKey) = false := by
      rw [List.any_eq_false]
      intro y hy
      obtain ⟨z, t, hkey⟩ := hk y (Array.mem_toList_iff.mp hy)
      simp [DictEntry.refKey, hkey]
    have a' : ¬ es.toList.any (·.refKey) = true := by rw [a]; exact Bool.false_ne_true
    rw [if_neg a']
    exact congrArg some e

theorem ObjM.look {h : Heap} {x dx C : Addr} {mA : Str → Option Value} (I : ObjM h x dx C mA) : ∃ od, PySem.W.InstAt h x (PySem.W.instObj C dx) C (some od) ∧ ∀ name, PySem.W.lookIn name od = some (mA name) :=
  let ⟨od, ho, hl⟩ := lookIn_ns I.ns
  ⟨od, ⟨I.obj, rfl, rfl, ho⟩, hl⟩

section
variable {prog : Program} {w : World} {A : Around} {E : Value → Shared → Prop} {s : Shared} {K : PySem.W.Frag} {x dx C f : Addr} {mA : Str → Option Value} {name : Str} {v : Value}

end

/-! ### the attributes as a list of pairs -/
def putF (f : Str) (v : V) : List (Str × V) → List (Str × V)
  | [] => [(f, v)]
  | (g, x) :: r => if g = f then (g, v) :: r else (g, x) :: putF f v r
theorem RelO.some_of {v : V} {o : Option Value} (r : RelO (some v) o) : ∃ u, o = some u ∧ RelV v u := by
  cases o with
  | none => exact (show False from r).elim
  | some u => exact ⟨u, rfl, r⟩
theorem RelO.none_of {o : Option Value} (r : RelO none o) : o = none := by
  cases o with
  | none => rfl
  | some u => exact (show False from r).elim
section
variable {P : Program} {w : World} {H H' : Hp} {h h' : Heap} {a C dx : Addr} {fs fs' : List (Str × V)}
theorem ins_get (hok : HOk P w H h) (e : H a = some (.ins C dx fs)) : ∃ mA, ObjM h a dx C mA ∧ (∀ f, RelO (fs.lookup f) (mA f)) ∧ PySem.Within mA (fs.map (·.1)) ∧ fs.length ≤ 1000 ∧ H dx = some (.own a) := by
  obtain ⟨d, z, ne, ob, mA, n, r, q⟩ := (show ObjOk P w H h a (.ins C dx fs) from hok a _ e)
  exact ⟨mA, ⟨ob, n, ne⟩, r, q, z, d⟩
end

/-! ### what of the text a class must have -/
structure Cls (K : PySem.W.Frag) (C : Addr) : Prop where
  pg : PySem.W.plainGet K C Str.empty = true
  hd : PySem.W.hasDictIn K C = true
  po : PySem.W.plainOver K C = true
  sa : PySem.W.findIn K (.ref C) "__setattr__" = some (some (.builtin "object.__setattr__"))
theorem Cls.get {K : PySem.W.Frag} {C : Addr} (c : Cls K C) (f : Str) : PySem.W.plainGet K C f = true := c.pg
/-- no class of it has the name -/
def NoAttr (K : PySem.W.Frag) (C : Addr) (f : Str) : Prop := PySem.W.findIn K (.ref C) f = some none
/-- a constant of the class -/
structure Con (K : PySem.W.Frag) (C : Addr) (f : Str) (v : V) (u : Value) : Prop where
  at_ : PySem.W.findIn K (.ref C) f = some (some u)
  rel : RelV v u
  get : PySem.W.specialIn K u "__get__" = some none
  cp : PySem.W.copiedNames.contains f = false
/-- a method: a plain def of the class or of one above it -/
structure Meth (K : PySem.W.Frag) (C : Addr) (m : Str) (f : Addr) : Prop where
  at_ : PySem.W.findIn K (.ref C) m = some (some (.ref f))
  fn : PySem.W.isFn K (.ref f) = true
  kp : PySem.W.keepIn K (.ref f) = true

section
variable {X : Cx} {pins : List (Addr × Obj)} {σ : St} {H : Hp} {s : Shared} {a C dx : Addr} {fs : List (Str × V)} {f : Str} {v : V} {A : Around} {E : Value → Shared → Prop}

/-- a new instance, tracked, without attributes -/
theorem Inv.made (I : Inv X pins σ H s) : Inv X pins σ (upd (upd H s.heap.objs.size (.own (s.heap.objs.size + 1))) (s.heap.objs.size + 1) (.ins C s.heap.objs.size []))
    { s with heap := (s.heap.push PySem.W.emptyDict).push (PySem.W.instObj C s.heap.objs.size) } := by
  have e1 : (s.heap.push PySem.W.emptyDict).get? s.heap.objs.size = some PySem.W.emptyDict := Heap.get?_push_size s.heap rfl
  have e2 : ((s.heap.push PySem.W.emptyDict).push (PySem.W.instObj C s.heap.objs.size)).get? (s.heap.objs.size + 1) = some (PySem.W.instObj C s.heap.objs.size) := by
    have := Heap.get?_push_size (s.heap.push PySem.W.emptyDict) (o := PySem.W.instObj C s.heap.objs.size) rfl
    rwa [Heap.size_push] at this
  have e3 : (s.heap.push PySem.W.emptyDict).Ns s.heap.objs.size (fun _ => none) := ⟨PySem.W.emptyDict, #[], _, e1, rfl, (fun e he => absurd he (by simp)), fun _ => rfl⟩
  have I1 := I.laid (a := s.heap.objs.size) (o := .own (s.heap.objs.size + 1)) (h' := s.heap.push PySem.W.emptyDict) (t' := s.toks) (fun b u q => Heap.get?_push_of_some _ q) (Nat.le_refl _) ⟨_, e1⟩
  refine I1.laid (a := s.heap.objs.size + 1) (o := .ins C s.heap.objs.size []) (t' := s.toks) (fun b u q => Heap.get?_push_of_some _ q) (Nat.le_of_eq (Heap.size_push _ _)) ?_
  have ne : s.heap.objs.size ≠ s.heap.objs.size + 1 := Nat.ne_of_lt (Nat.lt_succ_self _)
  refine ⟨by rw [upd_ne ne, upd_same], Nat.zero_le _, ne, e2, fun _ => none, (Heap.Ns1.of_empty e3).at fun o q => Heap.get?_push_of_some _ q, fun _ => True.intro, fun y hy => absurd rfl hy⟩

end

/-! ### readings and rules -/
section
variable {X : Cx} {o e value : Expr} {f : Str} {pos pos' tpos : Pos} {ta tv : TE}
end

/-! ### isinstance -/
section
variable {X : Cx} {pins : List (Addr × Obj)} {σ : St} {H : Hp} {s : Shared} {A : Around} {E : Value → Shared → Prop} {Q : Value → Shared → Prop} {c : Value} {b : Bool}
/-- the type of a value, as the fragment's deciders take it; for an instance its class -/
inductive TyOf (K : PySem.W.Frag) (H : Hp) : V → Value → Prop where
  | non : TyOf K H .non (.type "NoneType")
  | bl (x : Bool) : TyOf K H (.bl x) (.type "bool")
  | int (i : Int) : TyOf K H (.int i) (.type "int")
  | str (x : Str) : TyOf K H (.str x) (.type "str")
  | flt (x : UInt64) : TyOf K H (.flt x) (.type "float")
  | lst {a : Addr} {xs : List V} (e : H a = some (.lst xs)) : TyOf K H (.ref a) (.type "list")
  | frz {a : Addr} {o : Obj} {xs : List V} (e : H a = some (.frz o (.lst xs))) : TyOf K H (.ref a) (.type "list")
  | tup {a : Addr} {xs : List V} (e : H a = some (.tup xs)) : TyOf K H (.ref a) (.type "tuple")
  | dK {a : Addr} {kvs : List (Key × V)} (e : H a = some (.dK kvs)) : TyOf K H (.ref a) (.type "dict")
  | dT {a : Addr} {kvs : List (List Key × V)} (e : H a = some (.dT kvs)) : TyOf K H (.ref a) (.type "dict")
  | ins {a C dx : Addr} {fs : List (Str × V)} (e : H a = some (.ins C dx fs)) (cl : Cls K C) (ha : PySem.W.findIn K (.ref C) "__class__" = some (some (.builtin "object.__class__")))
      (hn : PySem.W.specialIn K (.builtin "object.__class__") "__get__" = some (some (.builtin "getset_descriptor.__get__"))) (htk : PySem.W.takesIn K (.builtin "object.__class__") = some true)
      (hm : PySem.W.mroIn K C (.type "object") = some true) : TyOf K H (.ref a) (.ref C)
/-- isinstance(x, c) for one class c, a built-in or an own one: kitOne's answer -/
theorem isinst_ok {x : V} {u t : Value} (I : Inv X pins σ H s) (rx : RelV x u) (ty : TyOf X.K H x t) (e : PySem.W.kitOne X.K t c = some b) (h : ∀ tk, Q (.bool b) { s with toks := tk }) :
    wpAny (model X.prog X.w) A (call (.builtin "isinstance") [u, c]) Q E s := by
  cases ty with
  | non => cases (show u = Value.none from rx); exact PySem.W.kia_one PySem.W.kitx_none I.kIn True.intro e (fun z => nomatch z) h
  | bl y => cases (show u = Value.bool y from rx); exact PySem.W.kia_one PySem.W.kitx_bool I.kIn True.intro e (fun z => nomatch z) h
  | int i => obtain ⟨t, q⟩ := (show ∃ t, u = Value.int i t from rx); cases q; exact PySem.W.kia_one PySem.W.kitx_int I.kIn True.intro e (fun z => nomatch z) h
  | str y => obtain ⟨t, q⟩ := (show ∃ t, u = Value.str y t from rx); cases q; exact PySem.W.kia_one PySem.W.kitx_str I.kIn True.intro e (fun z => nomatch z) h
  | flt y => obtain ⟨t, q⟩ := (show ∃ t, u = Value.float y t from rx); cases q; exact PySem.W.kia_one PySem.W.kitx_float I.kIn True.intro e (fun z => nomatch z) h
  | @lst a xs ea =>
    cases (show u = Value.ref a from rx)
    obtain ⟨_, _, n, _, h1⟩ := (show ObjOk X.prog X.w H s.heap a (.lst xs) from I.hok a _ ea)
    exact PySem.W.kia_one PySem.W.kitx_list I.kIn ⟨_, h1, rfl⟩ e (fun z => nomatch z) h
  | @frz a ob xs ea =>
    cases (show u = Value.ref a from rx)
    obtain ⟨_, _, _, n, _, h1⟩ := (show ObjOk X.prog X.w H s.heap a (.frz ob (.lst xs)) from I.hok a _ ea)
    exact PySem.W.kia_one PySem.W.kitx_list I.kIn ⟨_, h1, rfl⟩ e (fun z => nomatch z) h
  | @tup a xs ea =>
    cases (show u = Value.ref a from rx)
    obtain ⟨_, _, _, p⟩ := (show ObjOk X.prog X.w H s.heap a (.tup xs) from I.hok a _ ea)
    obtain ⟨o, h1, h2, _⟩ := p
    exact PySem.W.kia_one PySem.W.kitx_tuple I.kIn ⟨o, h1, h2⟩ e (fun z => nomatch z) h
  | @dK a kvs ea =>
    cases (show u = Value.ref a from rx)
    obtain ⟨_, _, vs, _, p⟩ := (show ObjOk X.prog X.w H s.heap a (.dK kvs) from I.hok a _ ea)
    obtain ⟨o, es, ep, h1, h2, _⟩ := p
    exact PySem.W.kia_one PySem.W.kitx_dict I.kIn ⟨o, h1, h2.1⟩ e (fun z => nomatch z) h
  | @dT a kvs ea =>
    cases (show u = Value.ref a from rx)
    obtain ⟨_, _, xs, _, o, es, ep, h1, h2, _⟩ := (show ObjOk X.prog X.w H s.heap a (.dT kvs) from I.hok a _ ea)
    exact PySem.W.kia_one PySem.W.kitx_dict I.kIn ⟨o, h1, h2.1⟩ e (fun z => nomatch z) h
  | @ins a C dx fs ea cl ha hn htk hm =>
    cases (show u = Value.ref a from rx)
    obtain ⟨mA, O, _⟩ := ins_get I.hok ea
    obtain ⟨od, J, _⟩ := O.look
    exact PySem.W.kia_one (PySem.W.kitx_own (cl.get _) cl.hd ha hn htk hm) I.kIn J e (fun z => nomatch z) h
end
end L2

namespace L2
open PySem PySem.Spec PyProof.Rows

/-! ### room -/
structure Room (k : Nat) (A : Around) : Prop where
  hd : A.handled = none
  dp : A.depth + 3 * k + 5 < recursionLimit
  un : A.units + 16 * k + 200 < cLine
theorem Room.mono {j k : Nat} {A : Around} (r : Room k A) (h : j ≤ k) : Room j A := ⟨r.hd, by have := r.dp; omega, by have := r.un; omega⟩
theorem Room.deeper {k : Nat} {A : Around} (r : Room (k + 1) A) (env : Env) : Room k (A.deeper env) :=
  ⟨r.hd, by have := r.dp; show A.depth + 1 + 3 * k + 5 < _; omega, by have := r.un; show A.units + 3 + 16 * k + 200 < _; omega⟩
theorem Room.in1 {k : Nat} {A : Around} (r : Room (k + 1) A) : Room k A.in1 :=
  ⟨r.hd, by have := r.dp; show A.depth + 3 * k + 5 < _; omega, by have := r.un; show A.units + 1 + 16 * k + 200 < _; omega⟩
theorem Room.depth {k : Nat} {A : Around} (r : Room k A) : A.depth < recursionLimit := by have := r.dp; omega
theorem Room.units {k : Nat} {A : Around} (r : Room k A) : A.units + 64 < cLine := by have := r.un; omega
/-! ### argument lists and displays -/
def tNil : TA := fun _ H Q => Q [] H
def tCons (ta : TE) (tr : TA) : TA := fun σ H Q => ta σ H fun x H1 => tr σ H1 fun xs H2 => Q (x :: xs) H2
section
variable {X : Cx} {e : Expr} {es : List Expr} {te : TE} {t : TA} {pos : Pos}
theorem pa_nil : PA X [] tNil := fun _ _ _ _ H Q I h => Calls.spliced_nil ⟨[], H, I, .nil, h⟩
theorem pa_cons (ha : PE X e te) (hr : PA X es t) (hs : starEach (e :: es) X.env = (false, eval e X.env) :: starEach es X.env := by rfl) : PA X (e :: es) (tCons te t) := by
  intro pos pins s σ H Q I h
  rw [hs]
  show wpAny _ _ (spliced ((false, eval e X.env) :: backTo pos (starEach es X.env))) _ _ s
  refine Calls.spliced_cons (thn (ha pins s σ H _ I h) fun u s1 ⟨x, H1, I1, r1, q1⟩ => ?_)
  exact thn (hr pos pins s1 σ H1 _ I1 q1) fun us s2 ⟨xs, H2, I2, r2, q2⟩ => ⟨x :: xs, H2, I2, .cons r1 r2, q2⟩

/-- a tuple, a list of written items -/
def tTup (t : TA) : TE := fun σ H Q => t σ H fun xs H1 => xs.length ≤ sizeLine ∧ ∀ p, H1 p = none → Q (.ref p) (upd H1 p (.tup xs))
def tLst (t : TA) : TE := fun σ H Q => t σ H fun xs H1 => xs.length ≤ sizeLine ∧ ∀ p, H1 p = none → Q (.ref p) (upd H1 p (.lst xs))
theorem pe_tup {x1} (h : PA X es t) : PE X (.Tuple es x1 pos) (tTup t) := by
  intro pins s σ H Q I hq
  refine wpAny_Tuple_spliced (thn (h pos pins s σ H _ I hq) fun us s1 ⟨xs, H1, I1, r, z, q⟩ => ⟨by rw [← r.length]; exact z, ?_⟩)
  have hf : H1 s1.heap.objs.size = none := I1.hok.fresh (Nat.le_refl _)
  refine ⟨.ref s1.heap.objs.size, upd H1 s1.heap.objs.size (.tup xs), I1.laid (t' := s1.toks) (fun b u e => Heap.get?_push_of_some _ e) (Nat.le_refl _) ?_, rfl, q _ hf⟩
  exact ⟨z, us, r, ⟨_, Heap.get?_push_size _ rfl, rfl, rfl, _, rfl⟩⟩
theorem pe_lst (h : PA X es t) : PE X (.List es pos) (tLst t) := by
  intro pins s σ H Q I hq
  refine wpAny_List_spliced (thn (h pos pins s σ H _ I hq) fun us s1 ⟨xs, H1, I1, r, z, q⟩ => ⟨by rw [← r.length]; exact z, ?_⟩)
  have hf : H1 s1.heap.objs.size = none := I1.hok.fresh (Nat.le_refl _)
  refine ⟨.ref s1.heap.objs.size, upd H1 s1.heap.objs.size (.lst xs), I1.laid (t' := s1.toks) (fun b u e => Heap.get?_push_of_some _ e) (Nat.le_refl _) ?_, rfl, q _ hf⟩
  exact ⟨z, us, 0, r, Heap.get?_push_size _ rfl⟩
end

/-! ### what a def promises -/
/-- a def's promise: the bound arguments in the parameters' order, the heap, the wanted end, the wanted exception -/
abbrev Sp := List V → Hp → VK → XK → Prop
/-- how an exception lies behind a call (file 08 gives it): the callers' frames, abstract heap and state ahead of the call, the wish, the exception, the state -/
abbrev CXT := List Env → Hp → Shared → XK → Value → Shared → Prop

/-- the state at a call -/
structure Env0 (P : Program) (w : World) (K : PySem.W.Frag) (mg : Str → Option Value) (base : Heap) (A : Around) (outer : List Env) (s : Shared) (H : Hp) : Prop where
  frames : A.frames = some outer
  mod : Mod K mg base
  bs : ∀ b o, base.get? b = some o → s.heap.get? b = some o ∧ H b = none
  bsz : base.objs.size ≤ s.heap.objs.size
  funs : s.heap.FunFrames base outer
  frf : ∀ b ∈ frs outer, H b = none
  hok : HOk P w H s.heap
  bare : AllBare s.gens
/-- a call's end -/
def CE (outer : List Env) (P : Program) (w : World) (H : Hp) (s : Shared) (Q : VK) (u : Value) (s' : Shared) : Prop :=
  ∃ v H', s'.os = s.os ∧ AllBare s'.gens ∧ Un (frs outer) [] H H' s.heap s'.heap ∧ HOk P w H' s'.heap ∧ RelV v u ∧ Q v H'
def CR (CX : CXT) (outer : List Env) (P : Program) (w : World) (H : Hp) (s : Shared) (Q : VK) (E : XK) (r : Result) (s' : Shared) : Prop :=
  match r with
  | .ok (.ret u) => CE outer P w H s Q u s'
  | .ok _ => False
  | .error e => CX outer H s E e s'
structure FnOk (P : Program) (w : World) (K : PySem.W.Frag) (mg : Str → Option Value) (base : Heap) (CX : CXT) (k : Nat) (f : Addr) (fd : FuncData) (ps : List Str) (sp : Sp) : Prop where
  len : ∀ vs H Q E, sp vs H Q E → vs.length = ps.length
  run : ∀ (A : Around) (outer : List Env) (s : Shared) (H : Hp) (args : Args) (us : List Value) (vs : List V) (Q : VK) (E : XK), Room k A → Env0 P w K mg base A outer s H → BindsTo s fd args (ps.zip us) → Vals vs us → sp vs H Q E →
    codeAny (model P w) A (.call (.ref f) args) (CR CX outer P w H s Q E) s
theorem FnOk.mono {P : Program} {w : World} {K : PySem.W.Frag} {mg : Str → Option Value} {base : Heap} {CX : CXT} {j k : Nat} {f : Addr} {fd : FuncData} {ps : List Str} {sp : Sp} (F : FnOk P w K mg base CX j f fd ps sp) (h : j ≤ k) :
    FnOk P w K mg base CX k f fd ps sp := ⟨F.len, fun A outer s H args us vs Q E hr => F.run A outer s H args us vs Q E (hr.mono h)⟩
theorem Env0.in1 {P : Program} {w : World} {K : PySem.W.Frag} {mg : Str → Option Value} {base : Heap} {A : Around} {outer : List Env} {s : Shared} {H : Hp} (e : Env0 P w K mg base A outer s H) :
    Env0 P w K mg base A.in1 outer s H := ⟨e.frames, e.mod, e.bs, e.bsz, e.funs, e.frf, e.hok, e.bare⟩

section
variable {X : Cx} {pins : List (Addr × Obj)} {σ : St} {H : Hp} {s s' : Shared}
/-- from a body: what a callee wants -/
theorem Inv.env0 (I : Inv X pins σ H s) : Env0 X.prog X.w X.K X.mg X.base X.A X.stack s H :=
  ⟨I.ok.frames, I.ok.mod, I.bs, Nat.le_trans I.ok.bsz I.sz, I.stack, I.stkFree, I.hok, I.bare⟩
/-- behind a call -/
theorem Inv.after {Q : VK} {u : Value} (I : Inv X pins σ H s) (h : CE X.stack X.prog X.w H s Q u s') : EP X pins σ Q u s' := by
  obtain ⟨v, H', os, bare, un, hok, r, q⟩ := h
  obtain ⟨hh, g, d, t, os'⟩ := s'
  obtain rfl : os' = s.os := os
  exact ⟨v, H', I.call (h' := hh) (g' := g) (d' := d) (t' := t) (ch := []) un hok bare (fun b z => absurd z (by simp)), r, q⟩
end

/-! ### calls -/
/-- f(..): the written arguments, then the defaults dvs; E: what is wanted of an exception -/
def tCall (sp : Sp) (dvs : List V) (E : XK) (t : TA) : TE := fun σ H Q => t σ H fun vs H1 => sp (vs ++ dvs) H1 Q E
/-- how the parameters are bound: us the positional arguments, kw the keywords' values by name, ds the defaults that fill up -/
def Binds (K : PySem.W.Frag) (fd : FuncData) (ps : List Str) (ds : List Value) : Prop :=
  ∀ (s : Shared) (us : List Value), K.In s.heap → (us ++ ds).length = ps.length → BindsTo s fd ⟨us, []⟩ (ps.zip (us ++ ds))
/-- every parameter is given -/
theorem Binds.all {K : PySem.W.Frag} {fd : FuncData} {ps : List Str} (h : ∀ us : List Value, us.length = ps.length → bindArgs fd ⟨us, []⟩ = pure (ps.zip us)) : Binds K fd ps [] := fun s us _ hl => by
  rw [List.append_nil] at hl ⊢
  exact .of_eq (h us hl)

/-- an exception of a callee reaches what this body wants of exceptions -/
def Passes (CX : CXT) (X : Cx) (E : XK) : Prop := ∀ (pins : List (Addr × Obj)) (σ : St) (H : Hp) (s : Shared) (e : Value) (s' : Shared), Inv X pins σ H s → CX X.stack H s E e s' → X.xe e s'

section
variable {X : Cx} {CX : CXT} {k : Nat} {f C : Addr} {fd : FuncData} {ps : List Str} {sp : Sp} {dvs : List V} {ds : List Value} {E : XK} {x m : Str} {p pos apos : Pos} {e o : Expr} {es : List Expr} {ta : TE} {t : TA}

/-- the callee runs -/
theorem run_fn {pins : List (Addr × Obj)} {σ : St} {H : Hp} {s : Shared} {Q : VK} {us : List Value} {vs : List V} (F : FnOk X.prog X.w X.K X.mg X.base CX k f fd ps sp) (hr : Room k X.A) (hb : Binds X.K fd ps ds) (hd : Vals dvs ds) (hx : Passes CX X E)
    (I : Inv X pins σ H s) (r : Vals vs us) (h : sp (vs ++ dvs) H Q E) : wpAny (model X.prog X.w) X.A (call (.ref f) us) (EP X pins σ Q) X.xe s := by
  have r2 : Vals (vs ++ dvs) (us ++ ds) := r.append hd
  have hl : (us ++ ds).length = ps.length := by rw [← r2.length]; exact F.len _ _ _ _ h
  refine wpAny_call (codeAny_mono (F.run X.A X.stack s H ⟨us, []⟩ (us ++ ds) (vs ++ dvs) Q E hr I.env0 (hb s us I.kIn hl) r2 h) fun r s' hq => ?_)
  cases r with
  | error e => exact hx pins σ H s e s' I hq
  | ok fl =>
    cases fl with
    | ret u => exact I.after hq
    | next => exact False.elim hq
    | brk => exact False.elim hq
    | cont => exact False.elim hq

theorem pe_call (F : FnOk X.prog X.w X.K X.mg X.base CX k f fd ps sp) (hr : Room k X.A) (hg : Gl X x) (hm : X.mg x = some (.ref f)) (hk : PySem.W.keepIn X.K (.ref f) = true) (hb : Binds X.K fd ps ds) (hd : Vals dvs ds) (hx : Passes CX X E)
    (ha : PA X (e :: es) t) (hdb : (x == ("__debug__" : Str)) = false := by decide) (he : starEach (e :: es) X.env = (false, eval e X.env) :: starEach es X.env := by rfl) (hpl : (backTo pos (starEach es X.env)).any (·.1) = false := by rfl) :
    PE X (.Call (.Name x p) (e :: es) [] pos) (tCall sp dvs E t) := by
  intro pins s σ H Q I h
  refine wpAny_Call_Name_kw (ld_glob I hg hm ?_ hdb)
  refine PySem.W.callWith_K (h₀ := X.base) I.ok.mod.kin hk (thn (ha pos pins s σ H _ I h) fun us s1 ⟨vs, H1, I1, r, q⟩ => ⟨I1.kIn, ?_⟩) he hpl
  exact run_fn F hr hb hd hx I1 r q
/-- what a class must have to be made -/
structure Mk (K : PySem.W.Frag) (C f : Addr) : Prop where
  makes : PySem.W.makesIn K C = true
  init : PySem.W.findIn K (.ref C) "__init__" = some (some (.ref f))
  fn : PySem.W.isFn K (.ref f) = true
  kp : PySem.W.keepIn K (.ref C) = true

end

/-! ### keywords -/
section
variable {X : Cx} {CX : CXT} {k : Nat} {f C : Addr} {fd : FuncData} {ps ks : List Str} {sp : Sp} {E : XK} {x m : Str} {p pos apos kpos : Pos} {e o : Expr} {es : List Expr} {kws : List Keyword} {te ta : TE} {t tk : TA} {nm : Option Str}
/-- how a call with keywords binds: g puts the positional values us and the keywords' values ws (names ks) in the parameters' order, defaults among them -/
structure KBinds (K : PySem.W.Frag) (fd : FuncData) (ps ks : List Str) (g : List Value → List Value → List Value) (gV : List V → List V → List V) : Prop where
  to : ∀ (s : Shared) (us ws : List Value), K.In s.heap → (g us ws).length = ps.length → BindsTo s fd ⟨us, ks.zip ws⟩ (ps.zip (g us ws))
  rel : ∀ {vs : List V} {us : List Value} {zs : List V} {ws : List Value}, Vals vs us → Vals zs ws → Vals (gV vs zs) (g us ws)
variable {g : List Value → List Value → List Value} {gV : List V → List V → List V}
end

/-! ### a def's body keeps its promise -/
/-- names: the parameters first -/
structure FnScope (N P : List Str) (sc : Scope) : Prop where
  kind : sc.kind = .function
  co : sc.isCoroutine = false
  gen : sc.isGenerator = false
  nd : N.Nodup
  pre : N.take P.length = P
  par : ∀ x ∈ P, sc.names.lookup x = some .local ∨ sc.names.lookup x = some .cell
  nofree : ∀ y ∈ sc.names, y.2 ≠ .free

theorem bindL_out {kindOf : Str → Option NameKind} {x : Str} : ∀ {binds : List (Str × Value)} {m : Str → Option Value}, (∀ v, (x, v) ∉ binds) → bindL kindOf binds m x = m x
  | [], _, _ => rfl
  | (n, v) :: r, m, h => by
    unfold bindL
    rw [bindL_out fun w hw => h w (List.mem_cons_of_mem _ hw)]
    split
    · have : x ≠ n := by rintro rfl; exact h v List.mem_cons_self
      simp [this]
    · rfl
theorem bindC_out {kindOf : Str → Option NameKind} {x : Str} : ∀ {binds : List (Str × Value)} {m : Str → Option Value}, (∀ v, (x, v) ∉ binds) → bindC kindOf binds m x = m x
  | [], _, _ => rfl
  | (n, v) :: r, m, h => by
    unfold bindC
    rw [bindC_out fun w hw => h w (List.mem_cons_of_mem _ hw)]
    split
    · rfl
    · have : x ≠ n := by rintro rfl; exact h v List.mem_cons_self
      simp [this]
theorem bindL_get {kindOf : Str → Option NameKind} {x : Str} {v : Value} : ∀ {P : List Str} {vs : List Value} {i : Nat} {m : Str → Option Value}, P.Nodup → P[i]? = some x → vs[i]? = some v → kindOf x = some .local →
    bindL kindOf (P.zip vs) m x = some v
  | [], _, _, _, _, h, _, _ => by simp at h
  | _ :: _, [], _, _, _, _, h, _ => by simp at h
  | p :: P, w :: vs, 0, m, nd, h1, h2, hk => by
    simp at h1 h2; subst h1; subst h2
    show bindL kindOf ((p, w) :: P.zip vs) m p = _
    unfold bindL
    rw [bindL_out fun v hv => (List.nodup_cons.mp nd).1 (List.of_mem_zip hv).1, if_pos hk]
    simp
  | p :: P, w :: vs, i + 1, m, nd, h1, h2, hk => by
    show bindL kindOf ((p, w) :: P.zip vs) m x = _
    unfold bindL
    exact bindL_get (i := i) (List.nodup_cons.mp nd).2 (by simpa using h1) (by simpa using h2) hk
theorem bindC_get {kindOf : Str → Option NameKind} {x : Str} {v : Value} : ∀ {P : List Str} {vs : List Value} {i : Nat} {m : Str → Option Value}, P.Nodup → P[i]? = some x → vs[i]? = some v → kindOf x ≠ some .local →
    bindC kindOf (P.zip vs) m x = some v
  | [], _, _, _, _, h, _, _ => by simp at h
  | _ :: _, [], _, _, _, _, h, _ => by simp at h
  | p :: P, w :: vs, 0, m, nd, h1, h2, hk => by
    simp at h1 h2; subst h1; subst h2
    show bindC kindOf ((p, w) :: P.zip vs) m p = _
    unfold bindC
    rw [bindC_out fun v hv => (List.nodup_cons.mp nd).1 (List.of_mem_zip hv).1, if_neg hk]
    simp
  | p :: P, w :: vs, i + 1, m, nd, h1, h2, hk => by
    show bindC kindOf ((p, w) :: P.zip vs) m x = _
    unfold bindC
    exact bindC_get (i := i) (List.nodup_cons.mp nd).2 (by simpa using h1) (by simpa using h2) hk

/-- the names' values at the entry -/
def start (N : List Str) (vs : List V) : St := vs.map some ++ List.replicate (N.length - vs.length) none

/-- the context of a def's body, at its entry; an exception leaves the frame, then lies as CX says -/
def cxOf (CX : CXT) (P : Program) (w : World) (K : PySem.W.Frag) (mg : Str → Option Value) (base : Heap) (N : List Str) (qual : Str) (scope : Scope) (f : Addr) (cd : Value) (A : Around) (outer : List Env) (s : Shared) (H : Hp) (E : XK) : Cx where
  prog := P
  w := w
  K := K
  mg := mg
  base := base
  A := A.deeper (envOfC qual scope s.heap.objs.size f cd)
  N := N
  s₀ := s
  H₀ := H
  env := envOfC qual scope s.heap.objs.size f cd
  outer := outer
  stack := envOfC qual scope s.heap.objs.size f cd :: outer
  ex := []
  calm := true
  fn := fun _ => true
  pn := []
  xe := fun e s' => wpAny (model P w) (A.deeper (envOfC qual scope s.heap.objs.size f cd)) (leaving (envOfC qual scope s.heap.objs.size f cd) e) (fun _ s'' => CX outer H s E e s'') (fun e' s'' => CX outer H s E e' s'') s'

theorem cell_has {sc : Scope} {n : Nat} {x : Str} (h : sc.names.lookup x = some .cell) : ∃ c, (cellsFrom n sc.names []).lookup x = some c := by
  have q := PySem.W.cellsFrom_some sc.names n [] (.inl h)
  exact Option.isSome_iff_exists.mp q

theorem inv_start {CX : CXT} {P : Program} {w : World} {K : PySem.W.Frag} {mg : Str → Option Value} {base : Heap} {N ps : List Str} {qual : Str} {scope : Scope} {f : Addr} {cd : Value} {A : Around} {outer : List Env} {s s1 : Shared} {H : Hp} {E : XK} {us : List Value} {vs : List V}
    (S : FnScope N ps scope) (hd : A.handled = none) (e0 : Env0 P w K mg base A outer s H) (hl : vs.length = ps.length) (r : Vals vs us)
    (x : InCallC s s.heap.objs.size (bindL (envOfC qual scope s.heap.objs.size f cd).kindOf (ps.zip us) fun _ => none) (cellsFrom (s.heap.objs.size + 1) scope.names []) (bindC (envOfC qual scope s.heap.objs.size f cd).kindOf (ps.zip us) fun _ => none) s1) :
    Inv (cxOf CX P w K mg base N qual scope f cd A outer s H E) [] (start N vs) H s1 := by
  have hpl : ps.length ≤ N.length := by have := congrArg List.length S.pre; rw [List.length_take] at this; omega
  obtain ⟨h1, tk, rfl, hk⟩ := x.done
  have noA : ∀ b : Addr, b ∉ (cxOf CX P w K mg base N qual scope f cd A outer s H E).ex := fun b z => absurd (show b ∈ ([] : List Addr) from z) (by simp)
  refine ⟨⟨e0.mod, S.kind, rfl, rfl, Nat.le_refl _, fun y z c h1 h2 => ?_, fun y hy => ?_, fun y c _ h => ?_, fun _ => hd, Around.frames_deeper e0.frames, .inr ⟨rfl, rfl⟩, fun b z => absurd z (noA b), e0.bs, e0.bsz, fun b _ _ => noA b, fun b z => absurd z (noA b), e0.funs, e0.frf⟩,
    rfl, e0.bare, Un.kept hk, ⟨_, x.toInCall.ns, fun i y v h1 h2 h3 => ?_⟩, fun y c h => ⟨_, x.cell y c h⟩, e0.hok.fresh (Nat.le_refl _), fun y c h => ?_, fun p hp => absurd (show p ∈ ([] : List (Addr × Obj)) from hp) (by simp), e0.hok.kept hk, ?_⟩
  · exact name_of_addr x.apart (PySem.mem_of_lookup h1) (PySem.mem_of_lookup h2)
  · have hy : scope.names.lookup y = some .cell ∨ scope.names.lookup y = some .free := hy
    rcases hy with hy | hy
    · exact cell_has hy
    · exact absurd rfl (S.nofree _ (PySem.mem_of_lookup hy))
  · exact Nat.le_of_lt (x.above y c (PySem.mem_of_lookup h))
  · have hi : i < vs.length := by
      unfold start at h2
      by_cases hi : i < vs.length
      · exact hi
      · rw [List.getElem?_append_right (by simpa using hi)] at h2
        rw [List.getElem?_replicate] at h2
        split at h2 <;> cases h2
    have ha : vs[i]? = some v := by
      unfold start at h2
      rw [List.getElem?_append_left (by simpa using hi), List.getElem?_map] at h2
      cases e : vs[i]? with
      | none => rw [e] at h2; cases h2
      | some a => rw [e] at h2; cases h2; rfl
    obtain ⟨u, hu, rv⟩ := r.get ha
    have hp : ps[i]? = some y := by
      rw [← S.pre, List.getElem?_take_of_lt (by omega)]; exact h1
    have ndP : ps.Nodup := by rw [← S.pre]; exact S.nd.sublist (List.take_sublist _ _)
    refine ⟨u, rv, ?_⟩
    rcases S.par y (List.mem_of_getElem? hp) with k | k
    · exact .inl ⟨k, bindL_get ndP hp hu k⟩
    · obtain ⟨c, e⟩ := cell_has (n := s.heap.objs.size + 1) k
      refine .inr ⟨.inl k, c, e, ?_⟩
      have q := x.cell y c e
      rw [bindC_get ndP hp hu (by show scope.names.lookup y ≠ _; rw [k]; decide)] at q
      exact q
  · exact e0.hok.fresh (Nat.le_of_lt (x.above y c (PySem.mem_of_lookup h)))
  · unfold start
    show _ = N.length
    rw [List.length_append, List.length_map, List.length_replicate]
    omega

/-- THE RULE: a def (or a method) of the text, by its body. The body's reading t is chosen for each entry; it is run at the parameters' values -/
theorem fn_of {CX : CXT} {P : Program} {w : World} {K : PySem.W.Frag} {mg : Str → Option Value} {base : Heap} {k : Nat} {f : Addr} {name qual : Str} {params : Arguments} {body : List Stmt} {scope : Scope} {dV kV doc pm cdv ct oc : Value} {an od : Option Addr}
    {osl : Array (Option Value)} {N ps : List Str} {sp : Sp} (lk : K.lookup f = some ⟨oc, od, .func (PySem.W.fnOf name qual params body scope dV kV doc pm an cdv ct), osl⟩) (hcd : PySem.W.codeIn K cdv qual = true) (S : FnScope N ps scope)
    (len : ∀ vs H Q E, sp vs H Q E → vs.length = ps.length)
    (hbody : ∀ (A : Around) (outer : List Env) (s : Shared) (H : Hp) (vs : List V) (Q : VK) (E : XK), Room k (A.deeper (envOfC qual scope s.heap.objs.size f cdv)) → sp vs H Q E →
      ∃ t, PSs (cxOf CX P w K mg base N qual scope f cdv A outer s H E) body t ∧ t { nx := fun _ H' => Q .non H', rt := Q } (start N vs) H) :
    FnOk P w K mg base CX (k + 1) f (PySem.W.fnOf name qual params body scope dV kV doc pm an cdv ct) ps sp := by
  refine ⟨len, fun A outer s H args us vs Q E hr e0 hb r hsp => ?_⟩
  have hl := len _ _ _ _ hsp
  have KX : K.In s.heap := e0.mod.kin.keeps fun b o e => (e0.bs b o e).1
  have lim : s.heap.NoLimit := e0.mod.nolimit.keeps fun b o e => (e0.bs b o e).1
  have hkind : ∀ y ∈ ps.zip us, scope.names.lookup y.1 = some .local ∨ (scope.names.lookup y.1 = some .cell ∧ ((cellsFrom (s.heap.objs.size + 1) scope.names []).lookup y.1).isSome = true) := fun ⟨n, v⟩ hy => by
    rcases S.par n (List.of_mem_zip hy).1 with q | q
    · exact .inl q
    · exact .inr ⟨q, PySem.W.cellsFrom_some _ _ _ (.inl q)⟩
  refine codeAny_call_function hr.depth (KX _ _ lk) rfl S.co S.gen rfl (PySem.W.codeRec_of KX hcd) (hb _ _ _ _ ?_)
  refine wpAny_newFunctionEnv_cells S.kind hkind fun env he s1 x => ?_
  subst he
  refine ⟨lim.keeps x.toInCall.keep, codeAny_func ?_⟩
  obtain ⟨t, ht, hq⟩ := hbody A outer s H vs Q E (hr.deeper _) hsp
  have I : Inv (cxOf CX P w K mg base N qual scope f cdv A outer s H E) [] (start N vs) H s1 := inv_start S hr.hd e0 hl r x
  refine wpAny_mono (ht [] s1 (start N vs) H _ I hq) (fun fl s' hs => ?_) fun e s' hs => hs
  have fin : ∀ {σ' : St} {H' : Hp} {v : V} {u : Value}, Inv (cxOf CX P w K mg base N qual scope f cdv A outer s H E) [] σ' H' s' → RelV v u → Q v H' → CE outer P w H s Q u s' :=
    fun {σ' H' v u} J rv q => ⟨v, H', J.os, J.bare, J.base, J.hok, rv, q⟩
  cases fl with
  | ret u =>
    obtain ⟨v, σ', H', J, rv, q⟩ := hs
    exact fin J rv q
  | next =>
    obtain ⟨σ', H', J, q⟩ := hs
    exact fin (v := V.non) (u := Value.none) J rfl q
  | brk =>
    obtain ⟨_, _, _, q⟩ := hs
    exact False.elim q
  | cont =>
    obtain ⟨_, _, _, q⟩ := hs
    exact False.elim q
end L2

namespace L2
open PySem PySem.Spec PyProof.Rows
section
variable {X : Cx} {x : Str} {p pos : Pos} {e : Expr} {es : List Expr} {t : TA} {id T : String} {r : List V → Hp → VK → Prop}

def tCB (r : List V → Hp → VK → Prop) (t : TA) : TE := fun σ H Q => t σ H fun vs H1 => r vs H1 Q
/-- f(e, ..), f a built-in function -/
theorem pe_callB (hc : CallR X (.builtin id) r) (hg : Gl X x) (hm : X.mg x = none) (hv : bootBuiltins x = some (.builtin id)) (ha : PA X (e :: es) t) (hn : x ≠ "__name__" := by decide) (hdb : (x == ("__debug__" : Str)) = false := by decide)
    (he : starEach (e :: es) X.env = (false, eval e X.env) :: starEach es X.env := by rfl) (hpl : (backTo pos (starEach es X.env)).any (·.1) = false := by rfl) : PE X (.Call (.Name x p) (e :: es) [] pos) (tCB r t) := by
  intro pins s σ H Q I h
  refine wpAny_Call_Name_kw (ld_blt I hg hm hv ?_ hn hdb)
  exact PyProof.Rows.callWith_builtin1 (thn (ha pos pins s σ H _ I h) fun us s1 ⟨vs, H1, I1, r1, q1⟩ => hc pins s1 σ H1 vs us Q I1 r1 q1) he hpl
/-- T(e, ..), T a built-in type -/
theorem pe_callTy (hc : CallR X (.type T) r) (hg : Gl X x) (hm : X.mg x = none) (hv : bootBuiltins x = some (.type T)) (ha : PA X (e :: es) t) (hn : x ≠ "__name__" := by decide) (hdb : (x == ("__debug__" : Str)) = false := by decide)
    (he : starEach (e :: es) X.env = (false, eval e X.env) :: starEach es X.env := by rfl) (hpl : (backTo pos (starEach es X.env)).any (·.1) = false := by rfl) : PE X (.Call (.Name x p) (e :: es) [] pos) (tCB r t) := by
  intro pins s σ H Q I h
  refine wpAny_Call_Name_kw (ld_blt I hg hm hv ?_ hn hdb)
  exact PyProof.Rows.callWith_type1 (thn (ha pos pins s σ H _ I h) fun us s1 ⟨vs, H1, I1, r1, q1⟩ => hc pins s1 σ H1 vs us Q I1 r1 q1) he hpl
end
end L2

namespace HT
open PySem PyProof.Rows

theorem rcLt_int (A : Around) (s : Shared) (a : Int) (t : Tok) (c : Int) (u : Tok) (prog : Program) (w : World) (E : Value → Shared → Prop) (Q : Value → Shared → Prop) (h : Q (.bool (decide (a < c))) s) :
    wpAny (model prog w) A (richCompare .Lt (.int a t) (.int c u)) Q E s :=
  (PyProof.Rows.lt_int h : wpAny (model prog w) A (compareOp .Lt (.int a t) (.int c u)) Q E s)

section
open PySem.SeqAt
open PySem.AutoSeq1 (wpAny_loadPart')
open PySem.MeetsSeq PySem.MeetsSeq2 PySem.MeetsSeq3

end

section
variable {prog : Program} {w : World} {A : Around} {E : Value → Shared → Prop} {s : Shared}

/-! ### t[a:b], not the whole -/
/-- a slice's bound as a place among n (d where it is left out) -/
def sIx (n d : Nat) : Option Int → Nat
  | none => d
  | some v => if v < 0 then (v + (n : Int)).toNat else min v.toNat n
theorem sIx_nat (n d k : Nat) : sIx n d (some (k : Int)) = min k n := by
  show (if (k : Int) < 0 then ((k : Int) + (n : Int)).toNat else min (k : Int).toNat n) = min k n
  rw [if_neg (by omega), Int.toNat_natCast]
end
end HT

namespace L2
open PySem PySem.Spec PyProof.Rows

/-! ### the parts of a slice -/
abbrev TO := St → Hp → (Option Int → Hp → Prop) → Prop
/-- a slice's part (left out, or an int) -/
def PO (X : Cx) (e : Option Expr) (t : TO) : Prop :=
  ∀ (pins : List (Addr × Obj)) (s : Shared) (σ : St) (H : Hp) (Q : Option Int → Hp → Prop), Inv X pins σ H s → t σ H Q →
    wpAny (model X.prog X.w) X.A (evalPart e X.env) (fun u s' => ∃ o H', Inv X pins σ H' s' ∧ IsPart u o ∧ Q o H') X.xe s
def tNoPart : TO := fun _ H Q => Q none H
def tPart (t : TE) : TO := fun σ H Q => t σ H fun x H1 => ∃ i, x = .int i ∧ Q (some i) H1

section
variable {X : Cx} {e : Expr} {te : TE} {lo hi : Option Expr} {tl th : TO} {pos p2 : Pos}

theorem po_none : PO X none tNoPart := by
  intro pins s σ H Q I h
  rw [evalPart_none]
  exact wpAny_pure ⟨none, H, I, .none, h⟩
theorem po_some (h : PE X e te) : PO X (some e) (tPart te) := by
  intro pins s σ H Q I hw
  rw [evalPart_some]
  refine thn (h pins s σ H _ I hw) fun u s1 ⟨x, H1, I1, r1, q1⟩ => ?_
  obtain ⟨i, rfl, q⟩ := q1
  obtain ⟨t, rfl⟩ := r1
  exact ⟨some i, H1, I1, .int i t, q⟩

/-- what a slice of a value is, by values: the slice object stands at sl -/
def SlR (X : Cx) (r : V → Option Int → Option Int → Hp → VK → Prop) : Prop :=
  ∀ (pins : List (Addr × Obj)) (s : Shared) (σ : St) (H : Hp) (x : V) (v vl vu : Value) (lo hi : Option Int) (sl : Addr) (Q : VK), Inv X pins σ H s → RelV x v → s.heap.IsSliceOf sl vl vu .none → IsPart vl lo → IsPart vu hi → r x lo hi H Q →
    ∃ T id, typeLookup (.type T) "__getitem__" = pure (some (.builtin id)) ∧ s.TypeIs v T ∧ wpAny (model X.prog X.w) X.A (getItem v (.ref sl)) (EP X pins σ Q) X.xe s
theorem SlR.or {r r' : V → Option Int → Option Int → Hp → VK → Prop} (h : SlR X r) (h' : SlR X r') : SlR X (fun x lo hi H Q => r x lo hi H Q ∨ r' x lo hi H Q) := by
  intro pins s σ H x v vl vu lo hi sl Q I rx hs pl pu q
  rcases q with q | q
  · exact h pins s σ H x v vl vu lo hi sl Q I rx hs pl pu q
  · exact h' pins s σ H x v vl vu lo hi sl Q I rx hs pl pu q
def tSl (r : V → Option Int → Option Int → Hp → VK → Prop) (te : TE) (tl th : TO) : TE := fun σ H Q => te σ H fun x H1 => tl σ H1 fun l H2 => th σ H2 fun u H3 => r x l u H3 Q
/-- a[lo:hi], any a -/
theorem pe_slice {r : V → Option Int → Option Int → Hp → VK → Prop} (hr : SlR X r) (he : PE X e te) (hl : PO X lo tl) (hu : PO X hi th) : PE X (.Subscript e (.Slice lo hi none p2) pos) (tSl r te tl th) := by
  intro pins s σ H Q I h
  refine Subscript_ (thn (he pins s σ H _ I h) fun v s1 ⟨x, H1, I1, r1, q1⟩ => ?_)
  refine wpAny_Slice (thn (hl pins s1 σ H1 _ I1 q1) fun vl s2 ⟨l, H2, I2, pl, q2⟩ => thn (hu pins s2 σ H2 _ I2 q2) fun vu s3 ⟨u, H3, I3, pu, q3⟩ => ?_)
  rw [evalPart_none]
  refine wpAny_pure ?_
  have I4 : Inv X pins σ H3 { s3 with heap := s3.heap.push { cls := .type "slice", data := .fields #[vl, vu, .none] } } := I3.kept (t' := s3.toks) fun b ob q => Heap.get?_push_of_some _ q
  obtain ⟨T, id, hT, ht, hg⟩ := hr pins { s3 with heap := s3.heap.push { cls := .type "slice", data := .fields #[vl, vu, .none] } } σ H3 x v vl vu l u s3.heap.objs.size Q I4 r1 (Heap.IsSliceOf.new ..) pl pu q3
  show wpAny (model X.prog X.w) X.A (subscriptTail e (.Slice lo hi none p2) v (.ref s3.heap.objs.size)) (EP X pins σ Q) X.xe { s3 with heap := s3.heap.push { cls := .type "slice", data := .fields #[vl, vu, .none] } }
  exact tail_any (ops := [.ref s3.heap.objs.size, v]) ht hT hg (by with_unfolding_all rfl)

/-- the items of xs[lo:hi] -/
def cutV (xs : List V) (lo hi : Option Int) : List V := (xs.drop (HT.sIx xs.length 0 lo)).take (HT.sIx xs.length xs.length hi - HT.sIx xs.length 0 lo)
theorem cutV_length (xs : List V) (lo hi : Option Int) : (cutV xs lo hi).length ≤ xs.length := by
  unfold cutV
  rw [List.length_take, List.length_drop]
  omega
/-! ### t < u, t + u -/
end
end L2

namespace L2
open PySem PySem.Spec PyProof.Rows

/-! ### places -/
/-- the place that an index of any sign means -/
def ixN (n : Nat) (i : Int) : Option Nat := if 0 ≤ i then (if i < n then some i.toNat else none) else if -(n : Int) ≤ i then some (i + n).toNat else none
def atI {α : Type} (xs : List α) (i : Int) : Option α := (ixN xs.length i).bind fun j => xs[j]?
theorem ixN_seq {n : Nat} {i : Int} {j : Nat} (h : ixN n i = some j) : seqIndex? i n = some j ∧ j < n ∧ -(n : Int) ≤ i ∧ i < n := by
  unfold ixN at h
  by_cases h0 : 0 ≤ i
  · rw [if_pos h0] at h
    by_cases h1 : i < n
    · rw [if_pos h1] at h
      have e : i.toNat = j := Option.some.inj h
      exact ⟨by rw [seqIndex_of h0 h1, e], by omega, by omega, h1⟩
    · rw [if_neg h1] at h; cases h
  · rw [if_neg h0] at h
    by_cases h1 : -(n : Int) ≤ i
    · rw [if_pos h1] at h
      have e : (i + n).toNat = j := Option.some.inj h
      exact ⟨by rw [seqIndex_neg (by omega) h1, e], by omega, h1, by omega⟩
    · rw [if_neg h1] at h; cases h
theorem atI_get {α : Type} {xs : List α} {i : Int} {v : α} (h : atI xs i = some v) : ∃ j, seqIndex? i xs.length = some j ∧ xs[j]? = some v ∧ j < xs.length ∧ -(xs.length : Int) ≤ i ∧ i < xs.length := by
  unfold atI at h
  cases e : ixN xs.length i with
  | none => rw [e] at h; cases h
  | some j =>
    rw [e] at h
    obtain ⟨h1, h2, h3, h4⟩ := ixN_seq e
    exact ⟨j, h1, h, h2, h3, h4⟩
theorem atI_nat {α : Type} {xs : List α} {j : Nat} {v : α} (h : xs[j]? = some v) : atI xs (j : Int) = some v := by
  have hj : j < xs.length := (List.getElem?_eq_some_iff.mp h).1
  have e : ixN xs.length (j : Int) = some j := by
    unfold ixN
    rw [if_pos (by omega), if_pos (by omega)]; simp
  unfold atI; rw [e]; exact h
/-! ### what may be subscripted -/
/-- what stands as an index of a plain subscript -/
def PlainIx (b : Expr) : Prop := ∀ o i, subscripted b false o i = operate [o, i] (getItem o i)
/-- a subscript by values -/
def IxR (X : Cx) (r : R2) : Prop :=
  ∀ (value slice : Expr) (pins : List (Addr × Obj)) (s : Shared) (σ : St) (H : Hp) (x y : V) (v u : Value) (Q : VK), Inv X pins σ H s → RelV x v → RelV y u → r x y H Q →
    subscripted slice false v u = operate [v, u] (getItem v u) → wpAny (model X.prog X.w) X.A (subscriptTail value slice v u) (EP X pins σ Q) X.xe s
/-- a call of a builtin's method by values: the receiver, the arguments -/
def MtR (X : Cx) (id : String) (r : V → List V → Hp → VK → Prop) : Prop :=
  ∀ (pins : List (Addr × Obj)) (s : Shared) (σ : St) (H : Hp) (x : V) (xs : List V) (v : Value) (us : List Value) (Q : VK), Inv X pins σ H s → RelV x v → Vals xs us → r x xs H Q →
    wpAny (model X.prog X.w) X.A (call (.builtin id) (v :: us)) (EP X pins σ Q) X.xe s
section
variable {X : Cx} {a b : Expr} {ta tb : TE} {pos : Pos}
theorem IxR.or {r r' : R2} (h : IxR X r) (h' : IxR X r') : IxR X (fun x y H Q => r x y H Q ∨ r' x y H Q) := by
  intro value slice pins s σ H x y v u Q I rx ry q hs
  rcases q with q | q
  · exact h value slice pins s σ H x y v u Q I rx ry q hs
  · exact h' value slice pins s σ H x y v u Q I rx ry q hs
theorem MtR.or {id : String} {r r' : V → List V → Hp → VK → Prop} (h : MtR X id r) (h' : MtR X id r') : MtR X id (fun x xs H Q => r x xs H Q ∨ r' x xs H Q) := by
  intro pins s σ H x xs v us Q I rx rs q
  rcases q with q | q
  · exact h pins s σ H x xs v us Q I rx rs q
  · exact h' pins s σ H x xs v us Q I rx rs q
/-- a[b] -/
theorem pe_ix {r : R2} (hr : IxR X r) (ha : PE X a ta) (hb : PE X b tb) (hs : PlainIx b) : PE X (.Subscript a b pos) (tOp r ta tb) := by
  intro pins s σ H Q I h
  exact Subscript_ (binT ha hb I h fun v u s2 x y H2 I2 rx ry q => hr a b pins s2 σ H2 x y v u Q I2 rx ry q (hs _ _))

def rIxL (K : PySem.W.Frag) : R2 := fun x y H Q => ∃ p xs i v, x = .ref p ∧ y = .int i ∧ SqL K H p xs ∧ atI xs i = some v ∧ Q v H
def rIxT (K : PySem.W.Frag) : R2 := fun x y H Q => ∃ p xs i v, x = .ref p ∧ y = .int i ∧ SqT K H p xs ∧ atI xs i = some v ∧ Q v H
def rIxS : R2 := fun x y H Q => ∃ z i c, x = .str z ∧ y = .int i ∧ z.length ≤ sizeLine ∧ atI z.cps.toList i = some c ∧ Q (.str ⟨#[c]⟩) H
theorem ix_list : IxR X (rIxL X.K) := by
  intro value slice pins s σ H x y v u Q I rx ry h hs
  obtain ⟨p, xs, i, z, rfl, rfl, hq, he, q⟩ := h
  cases rx
  obtain ⟨t, rfl⟩ := ry
  obtain ⟨its, r, pl, hz⟩ := I.list hq
  obtain ⟨j, h1, h2, h3, h4, h5⟩ := atI_get he
  obtain ⟨w, ew, rw'⟩ := r.get h2
  have hl := r.length
  have hn := line63
  have fin : EP X pins σ Q w s := ⟨z, H, I, rw', q⟩
  by_cases h0 : 0 ≤ i
  · have hj : i.toNat = j := by
      rw [seqIndex_of h0 h5] at h1
      exact Option.some.inj h1
    exact item_listR pl.isList h0 (by omega) (by rw [hj]; simpa using ew) fin hs
  · have hj : (i + (its.toArray.size : Int)).toNat = j := by
      rw [seqIndex_neg (by omega) h4] at h1
      rw [List.size_toArray, ← hl]
      exact Option.some.inj h1
    exact subscriptTail_builtinR (x := w) pl.isList.typeIs slot_list_getitem.lookup
      (wpAny_getItem_list_neg (Q := fun r s' => r = w ∧ EP X pins σ Q r s') pl.isList (by omega) (by rw [List.size_toArray] <;> omega) (by omega) (by rw [hj]; simpa using ew) ⟨rfl, fin⟩) hs
theorem ix_tup : IxR X (rIxT X.K) := by
  intro value slice pins s σ H x y v u Q I rx ry h hs
  obtain ⟨p, xs, i, z, rfl, rfl, hq, he, q⟩ := h
  cases rx
  obtain ⟨t, rfl⟩ := ry
  obtain ⟨its, r, pl, hz⟩ := I.tuple hq
  obtain ⟨j, h1, h2, h3, h4, h5⟩ := atI_get he
  obtain ⟨w, ew, rw'⟩ := r.get h2
  have hl := r.length
  have hn := line63
  have fin : EP X pins σ Q w s := ⟨z, H, I, rw', q⟩
  exact subscriptTail_builtinR (x := w) pl.typeIs slot_tuple_getitem.lookup
    (getItem_tuple (j := j) (Q := fun r s' => r = w ∧ EP X pins σ Q r s') pl (by omega) (by omega) (by rw [List.size_toArray, ← hl]; exact h1) (by simpa using ew) ⟨rfl, fin⟩) hs
theorem ix_str : IxR X rIxS := by
  intro value slice pins s σ H x y v u Q I rx ry h hs
  obtain ⟨z, i, c, rfl, rfl, hz, he, q⟩ := h
  obtain ⟨t, rfl⟩ := rx
  obtain ⟨t', rfl⟩ := ry
  obtain ⟨j, h1, h2, h3, h4, h5⟩ := atI_get he
  have hl : z.cps.toList.length = z.length := by simp [Str.length]
  rw [hl] at h1 h4 h5
  have hn := line63
  exact tail_any (typeIs_str s z t) slot_str_getitem.lookup (getItem_str (c := c) (by
    have e1 : decide (i < -(2 ^ 63 : Int)) = false := decide_eq_false (by omega)
    have e2 : decide (i ≥ 2 ^ 63) = false := decide_eq_false (by omega)
    rw [e1, e2, Bool.or_false]) (by rw [h1]; simpa using h2) ⟨.str ⟨#[c]⟩, H, I.tok _, ⟨_, rfl⟩, q⟩) hs
/-- list, tuple or str -/
def rIx (K : PySem.W.Frag) : R2 := fun x y H Q => rIxL K x y H Q ∨ rIxT K x y H Q ∨ rIxS x y H Q
theorem ix_seq : IxR X (rIx X.K) := ix_list.or (ix_tup.or ix_str)

/-! ### xs[i] = v, any sign -/
/-- the list's object behind a store -/
theorem mapSeq_set (its : List Value) (n j : Nat) (u : Value) : Obj.mapSeq (·.setIfInBounds j u) { cls := .type "list", data := .seq its.toArray n } = { cls := .type "list", data := .seq (its.set j u).toArray n } := by
  simp [Obj.mapSeq]
theorem Inv.lst {pins : List (Addr × Obj)} {σ : St} {H : Hp} {s : Shared} {p : Addr} {xs : List V} (I : Inv X pins σ H s) (h : H p = some (.lst xs)) :
    ∃ (its : List Value) (n : Nat), Vals xs its ∧ s.heap.get? p = some { cls := .type "list", data := .seq its.toArray n } ∧ xs.length ≤ sizeLine := by
  obtain ⟨z, its, n, r, e⟩ := I.hok p _ h
  exact ⟨its, n, r, e, z⟩
/-- the list at p is written by an update of its object -/
theorem Inv.lstUpd {pins : List (Addr × Obj)} {σ : St} {H : Hp} {s : Shared} {p : Addr} {xs ys : List V} {its its' : List Value} {n n' : Nat} {f : Obj → Obj} (I : Inv X pins σ H s) (h : H p = some (.lst xs))
    (ho : s.heap.get? p = some { cls := .type "list", data := .seq its.toArray n }) (hf : f { cls := .type "list", data := .seq its.toArray n } = { cls := .type "list", data := .seq its'.toArray n' }) (r : Vals ys its') (hz : ys.length ≤ sizeLine) (t : Nat) :
    Inv X pins σ (upd H p (.lst ys)) { s with heap := s.heap.update p f, toks := t } := by
  have e : (s.heap.update p f).get? p = some { cls := .type "list", data := .seq its'.toArray n' } := by
    rw [Heap.get?_update_self f ho (by rw [hf] <;> rfl), hf]
  refine I.write (x := p) (e := p) (by rw [h]; trivial) (.inl rfl) (fun b u hb q => (Heap.get?_update_other _ _ (Ne.symm hb)).trans q) ⟨_, e⟩ ?_
  exact ⟨hz, its', n', r, e⟩
def rSetL : V → V → V → Hp → (Hp → Prop) → Prop := fun o i v H Q => ∃ p xs k j, o = .ref p ∧ i = .int k ∧ H p = some (.lst xs) ∧ ixN xs.length k = some j ∧ Q (upd H p (.lst (xs.set j v)))
theorem set_list : PSet X rSetL := by
  intro pins s σ H o i v ov iv u Q I ro ri rv h
  obtain ⟨p, xs, k, j, rfl, rfl, hp, hj, q⟩ := h
  cases ro
  obtain ⟨t, rfl⟩ := ri
  obtain ⟨its, n, r, ho, hz⟩ := I.lst hp
  obtain ⟨h1, h2, h3, h4⟩ := ixN_seq hj
  have hl := r.length
  have hn := line63
  have I' : Inv X pins σ (upd H p (.lst (xs.set j v))) { s with heap := s.heap.update p (Obj.mapSeq (·.setIfInBounds j u)) } :=
    I.lstUpd hp ho (mapSeq_set its n j u) (r.set rv j) (by rw [List.length_set]; exact hz) s.toks
  by_cases h0 : 0 ≤ k
  · have hk : k.toNat = j := by
      rw [seqIndex_of h0 h4] at h1
      exact Option.some.inj h1
    exact PySem.W.ki_setAt ho h0 (by omega) (by rw [List.size_toArray, ← hl]; exact h4) (by rw [hk]; exact ⟨_, I', q⟩)
  · have hk : (k + (its.toArray.size : Int)).toNat = j := by
      rw [seqIndex_neg (by omega) h3] at h1
      rw [List.size_toArray, ← hl]
      exact Option.some.inj h1
    exact PySem.W.ki_setBack ho (by omega) (by rw [List.size_toArray, ← hl]; exact h3) (by omega) (by rw [hk]; exact ⟨_, I', q⟩)

/-! ### slices -/
theorem slice_bounds (lo hi : Option Int) (n : Nat) : (sliceBounds lo hi none n).1 = ((HT.sIx n 0 lo : Nat) : Int) ∧ (sliceBounds lo hi none n).2.1 = ((HT.sIx n n hi : Nat) : Int) ∧ (sliceBounds lo hi none n).2.2 = 1 := by
  refine ⟨?_, ?_, rfl⟩
  · cases lo with
    | none => simp [sliceBounds, HT.sIx]
    | some i =>
      simp only [sliceBounds, HT.sIx, Option.getD_none, show (1 : Int) > 0 by decide, if_true]
      by_cases h : i < 0
      · simp only [h, if_true] <;> omega
      · simp only [h, if_false] <;> omega
  · cases hi with
    | none => simp [sliceBounds, HT.sIx]
    | some i =>
      simp only [sliceBounds, HT.sIx, Option.getD_none, show (1 : Int) > 0 by decide, if_true]
      by_cases h : i < 0
      · simp only [h, if_true] <;> omega
      · simp only [h, if_false] <;> omega
theorem slicePick_cut (its : List Value) (lo hi : Option Int) : slicePick its.toArray lo hi none = ((its.drop (HT.sIx its.length 0 lo)).take (HT.sIx its.length its.length hi - HT.sIx its.length 0 lo)).toArray := by
  obtain ⟨h1, h2, h3⟩ := slice_bounds lo hi its.toArray.size
  unfold slicePick
  rw [h1, h2, h3]
  simp only [sliceRange_one, pick_run, List.size_toArray] <;> rfl
/-- xs[lo:hi] of a list: a new list -/
def rSlL (K : PySem.W.Frag) : V → Option Int → Option Int → Hp → VK → Prop := fun x lo hi H Q => ∃ a xs, x = .ref a ∧ SqL K H a xs ∧ ∀ p, H p = none → Q (.ref p) (upd H p (.lst (cutV xs lo hi)))
theorem sl_list : SlR X (rSlL X.K) := by
  intro pins s σ H x v vl vu lo hi sl Q I rx hs pl pu h
  obtain ⟨a, xs, rfl, hx, q⟩ := h
  cases rx
  obtain ⟨its, r, ht, hz⟩ := I.list hx
  have hlen := r.length
  refine ⟨"list", _, slot_list_getitem.lookup, ht.isList.typeIs, ?_⟩
  refine wpAny_getItem_list_slice ht.isList hs pl pu .none (by simp) ?_ (by rw [List.size_toArray] <;> omega)
  rw [slicePick_cut, ← hlen]
  refine ⟨.ref s.heap.objs.size, _, I.laid (t' := s.toks) (o := .lst (cutV xs lo hi)) (fun b ob q => Heap.get?_push_of_some _ q) (Nat.le_refl _) ?_, rfl, q _ (I.hok.fresh (Nat.le_refl _))⟩
  exact ⟨Nat.le_trans (cutV_length xs lo hi) hz, _, 0, (r.drop (HT.sIx xs.length 0 lo)).take (HT.sIx xs.length xs.length hi - HT.sIx xs.length 0 lo), Heap.get?_push_size _ rfl⟩

/-! ### in, not in: flat items -/
def flatV : V → Bool
  | .non => true
  | .bl _ => true
  | .int _ => true
  | .str _ => true
  | _ => false
/-- == of flat values -/
def eqV : V → V → Bool
  | .non, .non => true
  | .bl a, .bl b => a == b
  | .bl a, .int b => (if a then 1 else 0) == b
  | .int a, .bl b => a == (if b then 1 else 0)
  | .int a, .int b => a == b
  | .str a, .str b => a == b
  | _, _ => false
theorem eqAt_V {A : Around} {s : Shared} {y x : V} {u v : Value} (ry : RelV y u) (rx : RelV x v) (fy : flatV y = true) (fx : flatV x = true) : SeqAt.EqAt A s u v (eqV y x) := by
  cases y with
  | non =>
    cases ry
    cases x with
    | non => cases rx; exact SeqAt.EqAt.same _
    | bl b => cases rx; exact SeqAt.EqAt.none_bool b
    | int b => obtain ⟨t, rfl⟩ := rx; exact SeqAt.EqAt.none_int b t
    | str b => obtain ⟨t, rfl⟩ := rx; exact SeqAt.EqAt.none_str b t
    | _ => exact absurd (show false = true from fx) Bool.false_ne_true
  | bl a =>
    cases ry
    cases x with
    | non => cases rx; exact SeqAt.EqAt.bool_none a
    | bl b => cases rx; exact SeqAt.EqAt.bool_bool a b
    | int b => obtain ⟨t, rfl⟩ := rx; exact SeqAt.EqAt.bool_int a b t
    | str b => obtain ⟨t, rfl⟩ := rx; exact SeqAt.EqAt.bool_str a b t
    | _ => exact absurd (show false = true from fx) Bool.false_ne_true
  | int a =>
    obtain ⟨t', rfl⟩ := ry
    cases x with
    | non => cases rx; exact SeqAt.EqAt.int_none a t'
    | bl b => cases rx; exact SeqAt.EqAt.int_bool a t' b
    | int b => obtain ⟨t, rfl⟩ := rx; exact SeqAt.EqAt.int_int a t' b t
    | str b => obtain ⟨t, rfl⟩ := rx; exact SeqAt.EqAt.int_str a t' b t
    | _ => exact absurd (show false = true from fx) Bool.false_ne_true
  | str a =>
    obtain ⟨t', rfl⟩ := ry
    cases x with
    | non => cases rx; exact SeqAt.EqAt.str_none a t'
    | bl b => cases rx; exact SeqAt.EqAt.str_bool a t' b
    | int b => obtain ⟨t, rfl⟩ := rx; exact SeqAt.EqAt.str_int a t' b t
    | str b => obtain ⟨t, rfl⟩ := rx; exact SeqAt.EqAt.str_str a t' b t
    | _ => exact absurd (show false = true from fx) Bool.false_ne_true
  | _ => exact absurd (show false = true from fy) Bool.false_ne_true
/-- the items' answers, read off the values (a value's own answer does not lean on its token) -/
def eqU (x : V) (u : Value) : Bool := match u with
  | .none => eqV .non x
  | .bool b => eqV (.bl b) x
  | .int i _ => eqV (.int i) x
  | .str z _ => eqV (.str z) x
  | _ => false
theorem eqU_of {x y : V} {u : Value} (r : RelV y u) (f : flatV y = true) : eqU x u = eqV y x := by
  cases y with
  | non => cases r; rfl
  | bl b => cases r; rfl
  | int i => obtain ⟨t, rfl⟩ := r; rfl
  | str z => obtain ⟨t, rfl⟩ := r; rfl
  | _ => exact absurd (show false = true from f) Bool.false_ne_true
theorem any_eqU {x : V} : ∀ {xs : List V} {us : List Value}, Vals xs us → xs.all flatV = true → us.any (eqU x) = xs.any fun y => eqV y x
  | _, _, .nil, _ => rfl
  | y :: xs, u :: us, .cons r t, f => by
    rw [List.all_cons, Bool.and_eq_true] at f
    rw [List.any_cons, List.any_cons, eqU_of r f.1, any_eqU t f.2]
theorem mem_eqAt {A : Around} {s : Shared} {x : V} {v : Value} (rx : RelV x v) (fx : flatV x = true) : ∀ {xs : List V} {us : List Value}, Vals xs us → xs.all flatV = true → ∀ u ∈ us, SeqAt.EqAt A s u v (eqU x u)
  | _, _, .nil, _ => fun u hu => by cases hu
  | y :: xs, u :: us, .cons r t, f => fun u' hu => by
    rw [List.all_cons, Bool.and_eq_true] at f
    rcases List.mem_cons.mp hu with rfl | hu
    · rw [eqU_of r f.1]; exact eqAt_V r rx f.1 fx
    · exact mem_eqAt rx fx t f.2 u' hu
def inV (x : V) (xs : List V) : Bool := xs.any fun y => eqV y x
/-- x in a list or tuple of flat items -/
def rIn (K : PySem.W.Frag) (neg : Bool) : R2 := fun x y H Q => ∃ p xs, y = .ref p ∧ (SqL K H p xs ∨ SqT K H p xs) ∧ flatV x = true ∧ xs.all flatV = true ∧ Q (.bl (if neg then !inV x xs else inV x xs)) H
theorem op_in_seq : OpR X (compareOp .In) (rIn X.K false) := by
  intro pins s σ H x y v u Q I rx ry h
  obtain ⟨p, xs, rfl, hq, fx, fs, q⟩ := h
  cases ry
  rcases hq with hq | hq
  · obtain ⟨its, r, pl, hz⟩ := I.list hq
    refine SeqAt.in_listAt (eqU x) pl.isList (fun w hw => mem_eqAt rx fx r fs w (by simpa using hw)) ⟨.bl _, H, I, rfl, ?_⟩
    rw [show its.toArray.any (eqU x) = its.any (eqU x) by simp, any_eqU r fs]
    exact q
  · obtain ⟨its, r, pl, hz⟩ := I.tuple hq
    refine SeqAt.in_tupleAt (eqU x) pl (fun w hw => mem_eqAt rx fx r fs w (by simpa using hw)) ⟨.bl _, H, I, rfl, ?_⟩
    rw [show its.toArray.any (eqU x) = its.any (eqU x) by simp, any_eqU r fs]
    exact q
theorem op_notIn_seq : OpR X (compareOp .NotIn) (rIn X.K true) := by
  intro pins s σ H x y v u Q I rx ry h
  obtain ⟨p, xs, rfl, hq, fx, fs, q⟩ := h
  cases ry
  rcases hq with hq | hq
  · obtain ⟨its, r, pl, hz⟩ := I.list hq
    refine SeqAt.notIn_listAt (eqU x) pl.isList (fun w hw => mem_eqAt rx fx r fs w (by simpa using hw)) ⟨.bl _, H, I, rfl, ?_⟩
    rw [show its.toArray.any (eqU x) = its.any (eqU x) by simp, any_eqU r fs]
    exact q
  · obtain ⟨its, r, pl, hz⟩ := I.tuple hq
    refine SeqAt.notIn_tupleAt (eqU x) pl (fun w hw => mem_eqAt rx fx r fs w (by simpa using hw)) ⟨.bl _, H, I, rfl, ?_⟩
    rw [show its.toArray.any (eqU x) = its.any (eqU x) by simp, any_eqU r fs]
    exact q
/-! ### len, list(x), tuple(x) of any list or tuple that is read -/
theorem call_len_seq : CallR X (.builtin "len") (fun xs H Q => ∃ p ys, xs = [.ref p] ∧ (SqL X.K H p ys ∨ SqT X.K H p ys) ∧ Q (.int ys.length) H) := by
  intro pins s σ H xs us Q I r h
  obtain ⟨p, ys, rfl, hq, q⟩ := h
  obtain ⟨u, rfl, rx⟩ := vals1 r
  cases rx
  have hn := line63
  rcases hq with hq | hq
  · obtain ⟨its, r', pl, hz⟩ := I.list hq
    have hlen := r'.length
    exact Calls.call_len_list pl.isList (by simp only [List.size_toArray] <;> omega) ⟨.int ys.length, H, I.tok _, ⟨s.toks + 1, by rw [List.size_toArray, hlen]⟩, q⟩
  · obtain ⟨its, r', pl, hz⟩ := I.tuple hq
    have hlen := r'.length
    exact len_tuple pl (by simp only [List.size_toArray] <;> omega) ⟨.int ys.length, H, I.tok _, ⟨s.toks + 1, by rw [List.size_toArray, hlen]⟩, q⟩
theorem call_len_str : CallR X (.builtin "len") (fun xs H Q => ∃ z, xs = [.str z] ∧ z.length ≤ sizeLine ∧ Q (.int z.length) H) := by
  intro pins s σ H xs us Q I r h
  obtain ⟨z, rfl, hz, q⟩ := h
  obtain ⟨u, rfl, t, rfl⟩ := vals1 r
  have hn := line63
  exact len_str (by omega) ⟨.int z.length, H, I.tok _, ⟨_, rfl⟩, q⟩
theorem CallR.or {f : Value} {r r' : List V → Hp → VK → Prop} (h : CallR X f r) (h' : CallR X f r') : CallR X f (fun xs H Q => r xs H Q ∨ r' xs H Q) := by
  intro pins s σ H xs us Q I rs q
  rcases q with q | q
  · exact h pins s σ H xs us Q I rs q
  · exact h' pins s σ H xs us Q I rs q
theorem call_list_of : CallR X (.type "list") (fun xs H Q => ∃ p ys, xs = [.ref p] ∧ (SqL X.K H p ys ∨ SqT X.K H p ys) ∧ ∀ l, H l = none → Q (.ref l) (upd H l (.lst ys))) := by
  intro pins s σ H xs us Q I r h
  obtain ⟨p, ys, rfl, hq, q⟩ := h
  obtain ⟨u, rfl, rx⟩ := vals1 r
  cases rx
  have fin : ∀ (its : List Value), Vals ys its → ys.length ≤ sizeLine → ∀ (h' : Heap) (c' : Nat), (∀ b o', s.heap.get? b = some o' → h'.get? b = some o') →
      h'.get? s.heap.objs.size = some { cls := .type "list", dict := none, data := .seq its.toArray c', slots := #[] } → EP X pins σ Q (.ref s.heap.objs.size) { s with heap := h' } := fun its r' hz h' c' kp e =>
    ⟨.ref s.heap.objs.size, _, I.laid (t' := s.toks) kp (Nat.le_refl _) (show ObjOk X.prog X.w _ h' _ (.lst ys) from ⟨hz, its, c', r', e⟩), rfl, q _ (I.hok.fresh (Nat.le_refl _))⟩
  rcases hq with hq | hq
  · obtain ⟨its, r', pl, hz⟩ := I.list hq
    have hlen := r'.length
    obtain ⟨o, ho, hc, n, hd⟩ := pl.isList
    exact call_list_seq p (.inl rfl) ho hc hd (fun h' c' kp e => fin its r' hz h' c' kp e) (by simp only [List.size_toArray] <;> omega)
  · obtain ⟨its, r', pl, hz⟩ := I.tuple hq
    have hlen := r'.length
    obtain ⟨o, ho, hc, n, hd⟩ := pl
    exact call_list_seq p (.inr rfl) ho hc hd (fun h' c' kp e => fin its r' hz h' c' kp e) (by simp only [List.size_toArray] <;> omega)
theorem call_tuple_of : CallR X (.type "tuple") (fun xs H Q => ∃ p ys, xs = [.ref p] ∧ ((SqL X.K H p ys ∧ ∀ l, H l = none → Q (.ref l) (upd H l (.tup ys))) ∨ (SqT X.K H p ys ∧ Q (.ref p) H))) := by
  intro pins s σ H xs us Q I r h
  obtain ⟨p, ys, rfl, h⟩ := h
  obtain ⟨u, rfl, rx⟩ := vals1 r
  cases rx
  rcases h with ⟨hq, q⟩ | ⟨hq, q⟩
  · obtain ⟨its, r', pl, hz⟩ := I.list hq
    have hlen := r'.length
    refine call_tuple_list pl.isList (fun h' kp => ?_) (by simp only [List.size_toArray] <;> omega)
    have I1 : Inv X pins σ H { s with heap := h' } := I.kept (t' := s.toks) kp
    have I2 : Inv X pins σ (upd H h'.objs.size (.tup ys)) { s with heap := h'.push { cls := .type "tuple", data := .seq its.toArray } } :=
      I1.laid (t' := s.toks) (fun b o e => Heap.get?_push_of_some _ e) (Nat.le_refl _) (show ObjOk X.prog X.w _ _ _ (.tup ys) from ⟨hz, its, r', IsTupN.new _ _⟩)
    exact ⟨.ref h'.objs.size, _, I2, rfl, q _ (I1.hok.fresh (Nat.le_refl _))⟩
  · obtain ⟨its, r', pl, hz⟩ := I.tuple hq
    exact call_tuple_same pl ⟨.ref p, H, I, rfl, q⟩

/-! ### the call of a builtin's method: o.m(..) -/
/-- the value is of that builtin type -/
def tyV (K : PySem.W.Frag) (T : String) (x : V) (H : Hp) : Prop := match x with
  | .str _ => T = "str"
  | .int _ => T = "int"
  | .ref p => (T = "list" ∧ ∃ xs, SqL K H p xs) ∨ (T = "tuple" ∧ ∃ o, K.lookup p = some o ∧ o.cls = .type "tuple" ∧ o.dict = none) ∨
      (T = "dict" ∧ ((∃ kvs, H p = some (.dK kvs)) ∨ ∃ kvs, H p = some (.dT kvs))) ∨ (T = "set" ∧ ∃ S n, H p = some (.set S n))
  | _ => False
theorem tyV_is {pins : List (Addr × Obj)} {σ : St} {H : Hp} {s : Shared} {T : String} {x : V} {v : Value} (I : Inv X pins σ H s) (r : RelV x v) (ty : tyV X.K T x H) :
    s.TypeIs v T ∧ ∀ a, v = .ref a → ∃ ob, s.heap.get? a = some ob ∧ ob.dict = none := by
  cases x with
  | str z =>
    obtain ⟨t, rfl⟩ := r
    cases (show T = "str" from ty)
    exact ⟨typeIs_str s z t, fun _ e => nomatch e⟩
  | int i =>
    obtain ⟨t, rfl⟩ := r
    cases (show T = "int" from ty)
    exact ⟨typeIs_int s i t, fun _ e => nomatch e⟩
  | ref p =>
    cases r
    rcases ty with ⟨rfl, xs, hq⟩ | ⟨rfl, o, hk, hc, hd⟩ | ⟨rfl, hk⟩ | ⟨rfl, S, n, hk⟩
    · obtain ⟨its, _, pl, _⟩ := I.list hq
      refine ⟨pl.isList.typeIs, fun a e => ?_⟩
      cases e
      obtain ⟨o, n, e, c, hd, _⟩ := pl
      exact ⟨o, e, hd⟩
    · refine ⟨⟨o, I.kIn p o hk, hc⟩, fun a e => ?_⟩
      cases e
      exact ⟨o, I.kIn _ o hk, hd⟩
    · have z : ∃ o, s.heap.get? p = some o ∧ o.ExactDict := by
        rcases hk with ⟨kvs, hk⟩ | ⟨kvs, hk⟩
        · obtain ⟨_, _, _, _, o, _, _, e, ex, _⟩ := I.hok p _ hk
          exact ⟨o, e, ex⟩
        · obtain ⟨_, _, _, _, o, _, _, e, ex, _⟩ := I.hok p _ hk
          exact ⟨o, e, ex⟩
      obtain ⟨o, e, ex⟩ := z
      refine ⟨⟨o, e, ex.1⟩, fun a e2 => ?_⟩
      cases e2
      exact ⟨o, e, ex.2.1⟩
    · obtain ⟨o, _, _, _, e, ex, _⟩ := I.hok p _ hk
      refine ⟨⟨o, e, ex.1⟩, fun a e2 => ?_⟩
      cases e2
      exact ⟨o, e, ex.2.1⟩
  | _ => exact False.elim ty
def tBM0 (K : PySem.W.Frag) (T : String) (r : V → List V → Hp → VK → Prop) (to : TE) : TE := fun σ H Q => to σ H fun x H1 => tyV K T x H1 ∧ r x [] H1 Q
def tBM (K : PySem.W.Frag) (T : String) (r : V → List V → Hp → VK → Prop) (to : TE) (t : TA) : TE := fun σ H Q => to σ H fun x H1 => tyV K T x H1 ∧ t σ H1 fun xs H2 => r x xs H2 Q
variable {o e : Expr} {es : List Expr} {to : TE} {t : TA} {name : Str} {apos cpos : Pos} {T id : String} {r : V → List V → Hp → VK → Prop}
theorem pe_bm0 (pa : PlainAttrs T) (slot : Slot T name id) (hty : typeOf (.builtin id) = pure (.type "method_descriptor")) (hm : MtR X id r) (ho : PE X o to)
    (hbase : attributeBase o name X.env (eval o X.env) = eval o X.env := by rfl) (hline : (apos.endLine == cpos.line) = true := by rfl) : PE X (.Call (.Attribute o name apos) [] [] cpos) (tBM0 X.K T r to) := by
  intro pins s σ H Q I h
  refine wpAny_Call_method0_late hbase hline (thn (ho pins s σ H _ I h) fun v s1 ⟨x, H1, I1, r1, ty, q1⟩ => ?_)
  obtain ⟨h1, h2⟩ := tyV_is I1 r1 ty
  exact ⟨T, id, pa, slot, hty, h1, h2, Calls.callWith_builtin rfl (PySem.evalArgs_none (hm pins s1 σ H1 x [] v [] Q I1 r1 .nil q1))⟩
theorem pe_bm (pa : PlainAttrs T) (slot : Slot T name id) (hty : typeOf (.builtin id) = pure (.type "method_descriptor")) (hm : MtR X id r) (ho : PE X o to) (ha : PA X (e :: es) t)
    (hbase : attributeBase o name X.env (eval o X.env) = eval o X.env := by rfl)
    (hfew : ((backTo cpos (starEach (e :: es) X.env)).all (fun x => !x.1) && (backToKw cpos (keywordEach [] X.env)).all (fun x => x.1.isSome)
      && decide ((e :: es).length + ([] : List Keyword).length + (if ([] : List Keyword).isEmpty then 0 else 1) < 30)) = true := by rfl)
    (hline : (apos.endLine == cpos.line) = true := by rfl) (hs : starEach (e :: es) X.env = (false, eval e X.env) :: starEach es X.env := by rfl) (hplain : (backTo cpos (starEach es X.env)).any (·.1) = false := by rfl) :
    PE X (.Call (.Attribute o name apos) (e :: es) [] cpos) (tBM X.K T r to t) := by
  intro pins s σ H Q I h
  refine wpAny_Call_method_late hbase hfew hline rfl (thn (ho pins s σ H _ I h) fun v s1 ⟨x, H1, I1, r1, ty, q1⟩ => ?_)
  obtain ⟨h1, h2⟩ := tyV_is I1 r1 ty
  refine ⟨T, id, pa, slot, hty, h1, h2, ?_⟩
  have hA := ha cpos pins s1 σ H1 _ I1 q1
  rw [hs] at hA ⊢
  refine Calls.callWith_builtin (by show (false || (backTo cpos (starEach es X.env)).any (·.1)) = false; rw [hplain] <;> rfl) (Calls.evalArgs_plain ?_)
  exact thn hA fun us s2 ⟨vs, H2, I2, r2, q2⟩ => hm pins s2 σ H2 x vs v us Q I2 r1 r2 q2
/- xs.append(e), list.index on a module's tuple .. are MtR facts of 06m -/
end
end L2

namespace L2
open PySem PySem.Spec PyProof.Rows

def MtM (X : Cx) (id : String) (r : V → List V → Hp → VK → Prop) : Prop :=
  ∀ (pins : List (Addr × Obj)) (s : Shared) (σ : St) (H : Hp) (x : V) (xs : List V) (v : Value) (us : List Value) (Q : VK), Inv X pins σ H s → RelV x v → Vals xs us → r x xs H Q →
    wpAny (model X.prog X.w) X.A (call (.builtin id) (v :: us)) (EP X pins σ Q) X.xe s

/-! ### lists of values -/
theorem Vals.one : ∀ {x : V} {us : List Value}, Vals [x] us → ∃ u, us = [u] ∧ RelV x u
  | _, _, .cons r .nil => ⟨_, rfl, r⟩
theorem Vals.zero : ∀ {us : List Value}, Vals [] us → us = []
  | _, .nil => rfl
theorem Vals.eraseIdx : ∀ {xs : List V} {us : List Value} (i : Nat), Vals xs us → Vals (xs.eraseIdx i) (us.eraseIdx i)
  | _, _, _, .nil => .nil
  | _, _, 0, .cons _ t => t
  | _, _, i + 1, .cons r t => .cons r (Vals.eraseIdx i t)
theorem Vals.reverse {xs : List V} {us : List Value} (h : Vals xs us) : Vals xs.reverse us.reverse := by
  induction h with
  | nil => exact .nil
  | cons r t ih => rw [List.reverse_cons, List.reverse_cons]; exact Vals.append ih (.cons r .nil)
theorem Vals.rep {xs : List V} {us : List Value} (h : Vals xs us) : ∀ k : Nat, Vals (List.replicate k xs).flatten (List.replicate k us).flatten
  | 0 => .nil
  | k + 1 => by
    rw [List.replicate_succ, List.replicate_succ, List.flatten_cons, List.flatten_cons]
    exact Vals.append h (Vals.rep h k)
theorem foldl_rep (its : List Value) : ∀ (k : Nat) (acc : List Value),
    List.foldl (fun x1 x2 => x1 ++ x2) acc.toArray (List.replicate k its.toArray) = (acc ++ (List.replicate k its).flatten).toArray
  | 0, acc => by simp
  | k + 1, acc => by
    have e : acc.toArray ++ its.toArray = (acc ++ its).toArray := by simp
    have e2 : (acc ++ its) ++ (List.replicate k its).flatten = acc ++ (List.replicate (k + 1) its).flatten := by
      rw [List.replicate_succ, List.flatten_cons, List.append_assoc]
    rw [← e2, ← foldl_rep its k (acc ++ its), ← e, List.replicate_succ, List.foldl_cons]

section
variable {X : Cx} {pins : List (Addr × Obj)} {σ : St} {H : Hp} {s : Shared} {l b : Addr} {xs ys zs : List V}

/-! ### the two steps: a tracked list is rewritten, a new list is laid -/
theorem Inv.lset {its its' : List Value} {n : Nat} {f : Array Value → Array Value} {t' : Nat} (I : Inv X pins σ H s) (hH : H l = some (.lst xs))
    (e : s.heap.get? l = some { cls := .type "list", data := .seq its.toArray n }) (hf : f its.toArray = its'.toArray) (hv : Vals ys its') (hz : ys.length ≤ sizeLine) :
    Inv X pins σ (upd H l (.lst ys)) { s with heap := s.heap.update l (Obj.mapSeq f), toks := t' } := by
  have q := PySem.IsL.update e f
  rw [hf] at q
  refine I.write (x := l) (e := l) (by rw [hH]; exact trivial) (.inl rfl) (fun b' u hb hu => (Heap.get?_update_other s.heap (Obj.mapSeq f) (Ne.symm hb)).trans hu) ⟨_, q⟩ ?_
  exact ⟨hz, its', _, hv, q⟩
theorem Inv.lnew {its : List Value} {t' : Nat} (I : Inv X pins σ H s) (hv : Vals ys its) (hz : ys.length ≤ sizeLine) :
    Inv X pins σ (upd H s.heap.objs.size (.lst ys)) { s with heap := s.heap.push { cls := .type "list", data := .seq its.toArray }, toks := t' } :=
  I.laid (fun _ _ q => Heap.get?_push_of_some _ q) (Nat.le_refl _) ⟨hz, its, 0, hv, Heap.get?_push_size _ rfl⟩
theorem Inv.fresh (I : Inv X pins σ H s) : H s.heap.objs.size = none := I.hok.fresh (Nat.le_refl _)
theorem Inv.lstM (I : Inv X pins σ H s) (hH : H l = some (.lst xs)) : xs.length ≤ sizeLine ∧ ∃ (its : List Value) (n : Nat), Vals xs its ∧ xs.length = its.length ∧ s.heap.get? l = some { cls := .type "list", data := .seq its.toArray n } := by
  obtain ⟨z, its, n, r, e⟩ := I.hok l _ hH
  exact ⟨z, its, n, r, r.length, e⟩

theorem notLongL {n : Nat} (h : n ≤ sizeLine) : Builtin.List.listTooLong n = false := by
  unfold Builtin.List.listTooLong
  exact decide_eq_false (by omega)
end

section
variable {X : Cx}

/-! ### methods -/
def rAppend : V → List V → Hp → VK → Prop := fun x vs H Q => ∃ l xs y, x = .ref l ∧ vs = [y] ∧ H l = some (.lst xs) ∧ xs.length < sizeLine ∧ Q .non (upd H l (.lst (xs ++ [y])))
theorem mt_append : MtM X "list.append" rAppend := by
  intro pins s σ H x vs v us Q I rx rv h
  obtain ⟨l, xs, y, rfl, rfl, hH, hz, q⟩ := h
  cases rx
  obtain ⟨u, rfl, ru⟩ := rv.one
  obtain ⟨z, its, n, r, hl, e⟩ := I.lstM hH
  refine call_meets F.slot_list_append ⟨_, e, rfl⟩ F.entry_list_append (F.args_list_append_2 _ _) (PySem.list_append l its.toArray n u (by rw [List.size_toArray]; omega)) ⟨e, ?_⟩
  refine ⟨.non, _, I.lset (its' := its ++ [u]) hH e (by simp) (r.append (.cons ru .nil)) ?_, rfl, q⟩
  rw [List.length_append, List.length_singleton]
  omega

def rExtend : V → List V → Hp → VK → Prop := fun x vs H Q => ∃ l b xs zs, x = .ref l ∧ vs = [.ref b] ∧ H l = some (.lst xs) ∧ H b = some (.lst zs) ∧ xs.length + zs.length ≤ sizeLine ∧ Q .non (upd H l (.lst (xs ++ zs)))
theorem mt_extend : MtM X "list.extend" rExtend := by
  intro pins s σ H x vs v us Q I rx rv h
  obtain ⟨l, b, xs, zs, rfl, rfl, hH, hB, hz, q⟩ := h
  cases rx
  obtain ⟨u, rfl, ru⟩ := rv.one
  cases ru
  obtain ⟨z, its, n, r, hl, e⟩ := I.lstM hH
  obtain ⟨z2, its2, n2, r2, hl2, e2⟩ := I.lstM hB
  have hsz : its.toArray.size + its2.toArray.size ≤ sizeLine := by rw [List.size_toArray, List.size_toArray]; omega
  have hlong : ¬ (!its.toArray.isEmpty && Builtin.List.listTooLong (its.toArray.size + its2.toArray.size)) = true := by
    rw [notLongL hsz, Bool.and_false]
    exact Bool.false_ne_true
  refine call_meets F.slot_list_extend ⟨_, e, rfl⟩ F.entry_list_extend (F.args_list_extend_2 _ _)
    (AutoSeq1.list_extend_list_list_0 l its.toArray n b its2.toArray n2 hlong (by rw [List.size_toArray]; omega) (by omega)) ⟨e, e2, ?_⟩
  refine ⟨.non, _, I.lset (its' := its ++ its2) hH e (by simp) (r.append r2) ?_, rfl, q⟩
  rw [List.length_append]
  omega

def rClear : V → List V → Hp → VK → Prop := fun x vs H Q => ∃ l xs, x = .ref l ∧ vs = [] ∧ H l = some (.lst xs) ∧ Q .non (upd H l (.lst []))
theorem mt_clear : MtM X "list.clear" rClear := by
  intro pins s σ H x vs v us Q I rx rv h
  obtain ⟨l, xs, rfl, rfl, hH, q⟩ := h
  cases rx
  have hus := rv.zero
  subst hus
  obtain ⟨z, its, n, r, hl, e⟩ := I.lstM hH
  refine call_meets F.slot_list_clear ⟨_, e, rfl⟩ F.entry_list_clear (F.args_list_clear_1 _) (AutoSeq1.list_clear_list_0 l its.toArray n (by rw [List.size_toArray]; omega)) ⟨e, ?_⟩
  exact ⟨.non, _, I.lset (its' := []) (ys := []) hH e rfl .nil (Nat.zero_le _), rfl, q⟩

/-! ### list + list, list += list, list * int -/
def rCat : R2 := fun x y H Q => ∃ l b xs zs, x = .ref l ∧ y = .ref b ∧ H l = some (.lst xs) ∧ H b = some (.lst zs) ∧ xs.length + zs.length ≤ sizeLine ∧ ∀ p, H p = none → Q (.ref p) (upd H p (.lst (xs ++ zs)))
theorem op_cat : OpR X (binaryOp .Add) rCat := by
  intro pins s σ H x y v u Q I rx ry h
  obtain ⟨l, b, xs, zs, rfl, rfl, hH, hB, hz, q⟩ := h
  cases rx
  cases ry
  obtain ⟨z, its, n, r, hl, e⟩ := I.lstM hH
  obtain ⟨z2, its2, n2, r2, hl2, e2⟩ := I.lstM hB
  refine PySem.P.add_list e e2 ?_ (by rw [List.size_toArray, List.size_toArray]; omega)
  have ea : its.toArray ++ its2.toArray = (its ++ its2).toArray := by simp
  rw [ea]
  exact ⟨.ref _, _, I.lnew (t' := s.toks) (r.append r2) (by rw [List.length_append]; omega), rfl, q _ I.fresh⟩
/-- a list times an int (a negative one is nothing) -/
def rRep : R2 := fun x y H Q => ∃ l k xs, x = .ref l ∧ y = .int k ∧ H l = some (.lst xs) ∧ -(2 ^ 63) ≤ k ∧ k < 2 ^ 63 ∧ xs.length * k.toNat ≤ sizeLine ∧
  ∀ p, H p = none → Q (.ref p) (upd H p (.lst (List.replicate k.toNat xs).flatten))
theorem len_rep {α : Type} (xs : List α) (k : Nat) : (List.replicate k xs).flatten.length = k * xs.length := by
  induction k with
  | zero => simp
  | succ k ih => rw [List.replicate_succ, List.flatten_cons, List.length_append, ih, Nat.succ_mul, Nat.add_comm]
theorem op_rep : OpR X (binaryOp .Mult) rRep := by
  intro pins s σ H x y v u Q I rx ry h
  obtain ⟨l, k, xs, rfl, rfl, hH, h1, h2, hz, q⟩ := h
  cases rx
  obtain ⟨t, rfl⟩ := ry
  obtain ⟨z, its, n, r, hl, e⟩ := I.lstM hH
  have hlen : its.toArray.size * k.toNat ≤ sizeLine := by rw [List.size_toArray, ← hl]; exact hz
  have hcap : ¬ its.toArray.size * k.toNat > (2 ^ 63 - 1) / 8 := by
    have : (sizeLine : Nat) ≤ (2 ^ 63 - 1) / 8 := by decide
    omega
  have hfit : ¬ (!Builtin.List.listFitsIndex k) = true := by
    rw [fitsIndex_both h1 h2]
    exact Bool.false_ne_true
  have hlong : ¬ Builtin.List.listTooLong (its.toArray.size * k.toNat) = true := by
    rw [notLongL hlen]
    exact Bool.false_ne_true
  have hnew : List.foldl (fun x1 x2 => x1 ++ x2) #[] (List.replicate (if its.toArray.isEmpty = true then 0 else k.toNat) its.toArray) = (List.replicate k.toNat its).flatten.toArray := by
    have f0 : ∀ m : Nat, List.foldl (fun x1 x2 => x1 ++ x2) #[] (List.replicate m its.toArray) = (List.replicate m its).flatten.toArray := fun m => by
      have := foldl_rep its m []
      rw [List.nil_append] at this
      exact this
    rw [f0]
    cases its with
    | nil => simp
    | cons a r' => rw [if_neg (by simp)]
  refine wpAny_binaryOp_repeat_ref (T := "list") (U := "int") (by decide) ⟨_, e, rfl⟩ (fun s' => typeIs_int s' k t) noFill_list_mul F.fills_int_mul F.slot_int_rmul repeat_list F.slot_int_index.lookup
    (call_meets F.slot_int_rmul (typeIs_int s k t) F.entry_int_rmul (F.args_int_rmul_2 _ _) (int___rmul___int_list k t l its.toArray n)
      ⟨e, rfl, ⟨_, e, rfl⟩, call_meets F.slot_list_mul ⟨_, e, rfl⟩ F.entry_list_mul (F.args_list_mul_2 _ _) (AutoListH.list___mul___list_int_3 l its.toArray n k t hfit hcap hlong) ⟨e, ?_⟩⟩)
  rw [hnew]
  exact ⟨.ref _, _, I.lnew (t' := s.toks) (r.rep k.toNat) (by rw [len_rep, Nat.mul_comm]; exact hz), rfl, q _ I.fresh⟩

/-! ### del xs[i] -/
end

/-! ### xs[a:b] = ys -/
section
variable {prog : Program} {w : World} {A : Around} {E : Value → Shared → Prop} {s : Shared}
end

section
variable {X : Cx}
end
end L2

namespace L2
open PySem PySem.Spec PyProof.Rows

/-! ### lists of pairs as tables -/
section
variable {κ : Type} [DecidableEq κ]
def valV (kvs : List (κ × V)) (k : κ) : Option V := (kvs.find? fun kv => decide (kv.1 = k)).map (·.2)
/-- in its place, or at the end -/
def putK (kvs : List (κ × V)) (k : κ) (v : V) : List (κ × V) :=
  if (kvs.any fun kv => decide (kv.1 = k)) = true then kvs.map (fun kv => if kv.1 = k then (kv.1, v) else kv) else kvs ++ [(k, v)]
def dropK (kvs : List (κ × V)) (k : κ) : List (κ × V) := kvs.filter fun kv => decide (kv.1 ≠ k)

theorem valV_pos {p : κ × V} {r : List (κ × V)} {k : κ} (e : p.1 = k) : valV (p :: r) k = some p.2 := by simp [valV, List.find?_cons, e]
theorem valV_neg {p : κ × V} {r : List (κ × V)} {k : κ} (e : ¬ p.1 = k) : valV (p :: r) k = valV r k := by simp [valV, List.find?_cons, e]
theorem valV_any (k : κ) : ∀ kvs : List (κ × V), (kvs.any fun kv => decide (kv.1 = k)) = (valV kvs k).isSome
  | [] => rfl
  | p :: r => by
    rw [List.any_cons]
    by_cases e : p.1 = k
    · simp only [valV_pos e, decide_eq_true e, Bool.true_or, Option.isSome_some]
    · rw [valV_neg e, decide_eq_false e, Bool.false_or]; exact valV_any k r
theorem valV_map (k j : κ) (y : V) : ∀ kvs : List (κ × V), valV (kvs.map fun kv => if kv.1 = k then (kv.1, y) else kv) j = (valV kvs j).map fun x => if j = k then y else x
  | [] => rfl
  | p :: r => by
    have ih := valV_map k j y r
    rw [List.map_cons]
    by_cases h : p.1 = k
    · rw [if_pos h]
      by_cases e : p.1 = j
      · rw [valV_pos (p := (p.1, y)) e, valV_pos e, Option.map_some, if_pos (e.symm.trans h)]
      · rw [valV_neg (p := (p.1, y)) e, valV_neg e, ih]
    · rw [if_neg h]
      by_cases e : p.1 = j
      · rw [valV_pos (p := p) e, valV_pos e, Option.map_some, if_neg (fun z => h (e.trans z))]
      · rw [valV_neg (p := p) e, valV_neg e, ih]
theorem valV_snoc (k j : κ) (y : V) : ∀ kvs : List (κ × V), valV kvs k = none → valV (kvs ++ [(k, y)]) j = if j = k then some y else valV kvs j
  | [], _ => by
    by_cases e : k = j
    · rw [if_pos e.symm]; exact valV_pos (p := (k, y)) e
    · rw [if_neg (fun z => e z.symm)]; exact valV_neg (p := (k, y)) e
  | p :: r, hn => by
    rw [List.cons_append]
    have hk : ¬ p.1 = k := fun z => by rw [valV_pos z] at hn; cases hn
    rw [valV_neg hk] at hn
    have ih := valV_snoc k j y r hn
    by_cases e : p.1 = j
    · rw [valV_pos e, valV_pos e, if_neg (fun z => hk (e.trans z))]
    · rw [valV_neg e, valV_neg e, ih]
theorem valV_put (kvs : List (κ × V)) (k j : κ) (y : V) : valV (putK kvs k y) j = if j = k then some y else valV kvs j := by
  unfold putK
  by_cases a : (kvs.any fun kv => decide (kv.1 = k)) = true
  · rw [if_pos a, valV_map]
    rw [valV_any] at a
    by_cases e : j = k
    · obtain ⟨x, hx⟩ := Option.isSome_iff_exists.mp a
      rw [if_pos e, e, hx, Option.map_some, if_pos rfl]
    · rw [if_neg e]
      cases valV kvs j with
      | none => rfl
      | some x => rw [Option.map_some, if_neg e]
  · rw [if_neg a]
    refine valV_snoc k j y kvs ?_
    rw [valV_any] at a
    cases q : valV kvs k with
    | none => rfl
    | some x => rw [q] at a; exact (a rfl).elim
theorem length_putK (kvs : List (κ × V)) (k : κ) (v : V) : (putK kvs k v).length ≤ kvs.length + 1 := by
  unfold putK
  split
  · rw [List.length_map]; omega
  · rw [List.length_append, List.length_cons, List.length_nil]; omega
theorem RelO.isSome_eq {o : Option V} {u : Option Value} (r : RelO o u) : o.isSome = u.isSome := by
  cases o with
  | none => cases u with
    | none => rfl
    | some _ => exact (show False from r).elim
  | some _ => cases u with
    | none => exact (show False from r).elim
    | some _ => rfl
theorem RelO.getD {o : Option V} {u : Option Value} {d : V} {d' : Value} (r : RelO o u) (rd : RelV d d') : RelV (o.getD d) (u.getD d') := by
  cases o with
  | none => cases u with
    | none => exact rd
    | some _ => exact (show False from r).elim
  | some _ => cases u with
    | none => exact (show False from r).elim
    | some _ => exact r

/-- raw tables of the same keys -/
theorem KV.val {kvs : List (κ × V)} {vs : List (κ × Value)} (r : KV kvs vs) (k : κ) : RelO (valV kvs k) (valueAt vs k) := by
  unfold KV at r
  induction r with
  | nil => exact True.intro
  | @cons p q ps qs h t ih =>
    obtain ⟨h1, h2⟩ := h
    by_cases e : p.1 = k
    · have e' : q.1 = k := h1.symm.trans e
      have b : valueAt (q :: qs) k = some q.2 := by simp [valueAt, List.find?_cons, e']
      rw [valV_pos e, b]; exact h2
    · have e' : ¬ q.1 = k := fun z => e (h1.trans z)
      have b : valueAt (q :: qs) k = valueAt qs k := by simp [valueAt, List.find?_cons, e']
      rw [valV_neg e, b]; exact ih
theorem KV.any {kvs : List (κ × V)} {vs : List (κ × Value)} (r : KV kvs vs) (k : κ) : (kvs.any fun kv => decide (kv.1 = k)) = vs.any fun kv => decide (kv.1 = k) := by
  unfold KV at r
  induction r with
  | nil => rfl
  | cons h t ih => rw [List.any_cons, List.any_cons, ih, h.1]
theorem KV.repl {kvs : List (κ × V)} {vs : List (κ × Value)} (r : KV kvs vs) (k : κ) {y : V} {u : Value} (ry : RelV y u) :
    KV (kvs.map fun kv => if kv.1 = k then (kv.1, y) else kv) (vs.map fun kv => if kv.1 = k then (kv.1, u) else kv) := by
  unfold KV at r ⊢
  induction r with
  | nil => exact .nil
  | @cons p q ps qs h t ih =>
    rw [List.map_cons, List.map_cons]
    refine .cons ?_ ih
    obtain ⟨h1, h2⟩ := h
    by_cases e : p.1 = k
    · rw [if_pos e, if_pos (h1.symm.trans e)]; exact ⟨h1, ry⟩
    · rw [if_neg e, if_neg (fun z => e (h1.trans z))]; exact ⟨h1, h2⟩
theorem KV.put {kvs : List (κ × V)} {vs : List (κ × Value)} (r : KV kvs vs) (k : κ) {y : V} {u : Value} (ry : RelV y u) : KV (putK kvs k y) (stored vs k u) := by
  unfold putK stored
  rw [r.any k]
  by_cases e : (vs.any fun kv => decide (kv.1 = k)) = true
  · rw [if_pos e, if_pos e]; exact r.repl k ry
  · rw [if_neg e, if_neg e]; exact Paired.snoc r ⟨rfl, ry⟩
theorem KV.drop {kvs : List (κ × V)} {vs : List (κ × Value)} (r : KV kvs vs) (k : κ) : KV (dropK kvs k) (without vs k) := by
  unfold KV at r ⊢
  unfold dropK without
  induction r with
  | nil => exact .nil
  | @cons p q ps qs h t ih =>
    obtain ⟨h1, h2⟩ := h
    rw [List.filter_cons, List.filter_cons]
    by_cases e : p.1 = k
    · have a : ¬ decide (p.1 ≠ k) = true := by simp [e]
      have b : ¬ decide (q.1 ≠ k) = true := by simp [h1.symm.trans e]
      rw [if_neg a, if_neg b]; exact ih
    · have e' : ¬ q.1 = k := fun z => e (h1.trans z)
      have a : decide (p.1 ≠ k) = true := by simp [e]
      have b : decide (q.1 ≠ k) = true := by simp [e']
      rw [if_pos a, if_pos b]; exact .cons ⟨h1, h2⟩ ih
theorem KV.keys {kvs : List (κ × V)} {vs : List (κ × Value)} (r : KV kvs vs) : kvs.map (·.1) = vs.map (·.1) := by
  unfold KV at r
  induction r with
  | nil => rfl
  | cons h t ih => rw [List.map_cons, List.map_cons, ih, h.1]
theorem KV.length {kvs : List (κ × V)} {vs : List (κ × Value)} (r : KV kvs vs) : kvs.length = vs.length := Paired.length r
end


/-! ### a tracked dict, its keys ints and texts or tuples of these -/
theorem kV_is {P : Program} {w : World} {k : Key} {u : Value} (r : RelV (kV k) u) : (mixKind P w).is k u = true := by
  cases k with
  | inl i => obtain ⟨t, e⟩ := (show ∃ t, u = Value.int i t from r); subst e; exact mixKind_int P w i t
  | inr x => obtain ⟨t, e⟩ := (show ∃ t, u = Value.str x t from r); subst e; exact mixKind_str P w x t
theorem items_are {P : Program} {w : World} : ∀ {ks : List Key} {us : List Value}, Vals (ks.map kV) us → ItemsAre (mixKind P w) ks us
  | [], _, r => by rw [List.map_nil] at r; cases r; exact .nil
  | k :: ks, _, r => by
    rw [List.map_cons] at r
    cases r with
    | cons h t => exact .cons (kV_is h) (items_are t)

/-- raw entries of a dict with tuple keys -/
abbrev KT (H : Hp) : List (List Key × V) → List (List Key × Addr × Value) → Prop := Paired fun p q => p.1 = q.1 ∧ H q.2.1 = some (.tup (p.1.map kV)) ∧ RelV p.2 q.2.2
theorem KT.val {H : Hp} {kvs : List (List Key × V)} {xs : List (List Key × Addr × Value)} (r : KT H kvs xs) (k : List Key) : RelO (valV kvs k) ((atKey xs k).map (·.2)) := by
  induction r with
  | nil => exact True.intro
  | @cons p q ps qs h t ih =>
    obtain ⟨h1, _, h2⟩ := h
    by_cases e : p.1 = k
    · have e' : q.1 = k := h1.symm.trans e
      have b : atKey (q :: qs) k = some q.2 := by simp [atKey, List.find?_cons, e']
      rw [valV_pos e, b]; exact h2
    · have e' : ¬ q.1 = k := fun z => e (h1.trans z)
      have b : atKey (q :: qs) k = atKey qs k := by simp [atKey, List.find?_cons, e']
      rw [valV_neg e, b]; exact ih
theorem KT.repl {H : Hp} {kvs : List (List Key × V)} {xs : List (List Key × Addr × Value)} (r : KT H kvs xs) (k : List Key) {y : V} {u : Value} (ry : RelV y u) :
    KT H (kvs.map fun kv => if kv.1 = k then (kv.1, y) else kv) (xs.map (putAt k u)) := by
  induction r with
  | nil => exact .nil
  | @cons p q ps qs h t ih =>
    rw [List.map_cons, List.map_cons]
    refine .cons ?_ ih
    obtain ⟨h1, h2, h3⟩ := h
    unfold putAt
    by_cases e : p.1 = k
    · rw [if_pos e, if_pos (h1.symm.trans e)]; exact ⟨h1, h2, ry⟩
    · rw [if_neg e, if_neg (fun z => e (h1.trans z))]; exact ⟨h1, h2, h3⟩
theorem KT.put {H : Hp} {kvs : List (List Key × V)} {xs : List (List Key × Addr × Value)} (r : KT H kvs xs) (k : List Key) {b : Addr} {y : V} {u : Value} (hb : H b = some (.tup (k.map kV))) (ry : RelV y u) :
    KT H (putK kvs k y) (storedH xs k b u) := by
  have e : (kvs.any fun kv => decide (kv.1 = k)) = (atKey xs k).isSome := by
    rw [valV_any, (r.val k).isSome_eq, Option.isSome_map]
  unfold putK storedH
  rw [e]
  by_cases q : (atKey xs k).isSome = true
  · rw [if_pos q, if_pos q]; exact r.repl k ry
  · rw [if_neg q, if_neg q]; exact Paired.snoc r ⟨rfl, hb, ry⟩
theorem KT.keeps {H H' : Hp} {kvs : List (List Key × V)} {xs : List (List Key × Addr × Value)} (r : KT H kvs xs) (ht : ∀ b ys, H b = some (.tup ys) → H' b = some (.tup ys)) : KT H' kvs xs :=
  Paired.mapP r fun _ _ z => ⟨z.1, ht _ _ z.2.1, z.2.2⟩

section
variable {P : Program} {w : World} {H : Hp} {h : Heap} {a : Addr}
theorem rd_of {u : HO} (ok : HOk P w H h) (e : Rd H a u) : ObjOk P w H h a u := e.ok ok
theorem dk_rd {kvs : List (Key × V)} (ok : HOk P w H h) (e : Rd H a (.dK kvs)) : kvs.length ≤ sizeLine ∧ (a == sysModules) = false ∧ ∃ vs, KV kvs vs ∧ h.DictOf (mixKind P w) a vs :=
  show ObjOk P w H h a (.dK kvs) from rd_of ok e
theorem dk_of {kvs : List (Key × V)} (ok : HOk P w H h) (e : H a = some (.dK kvs)) : kvs.length ≤ sizeLine ∧ (a == sysModules) = false ∧ ∃ vs, KV kvs vs ∧ h.DictOf (mixKind P w) a vs := dk_rd ok (.inl e)
/-- a tracked tuple of ints and texts is a key -/
theorem key_of {ks : List Key} (ok : HOk P w H h) (e : H a = some (.tup (ks.map kV))) : (tupleKind (mixKind P w)).is h ks a := by
  obtain ⟨_, its, r, o, h1, h2, _, n, h3⟩ := (show ObjOk P w H h a (.tup (ks.map kV)) from ok a _ e)
  exact ⟨o, its.toArray, n, h1, h2, h3, by simpa using items_are r⟩
theorem dt_rd {kvs : List (List Key × V)} (ok : HOk P w H h) (e : Rd H a (.dT kvs)) : kvs.length ≤ sizeLine ∧ (a == sysModules) = false ∧
    ∃ xs, KT H kvs xs ∧ h.DictOfH (tupleKind (mixKind P w)) a xs := by
  obtain ⟨z, y, xs, r, o, es, ep, h1, h2, h3, h4, h5⟩ := (show ObjOk P w H h a (.dT kvs) from rd_of ok e)
  refine ⟨z, y, xs, r, o, es, ep, h1, h2, h3, h4, fun x hx => ?_, h5⟩
  have all : ∀ {l : List (List Key × V)} {m : List (List Key × Addr × Value)}, KT H l m → ∀ x ∈ m, (tupleKind (mixKind P w)).is h x.1 x.2.1 := by
    intro l m q
    induction q with
    | nil => intro x hx; exact nomatch hx
    | @cons p q ps qs hq t ih =>
      intro x hx
      rcases List.mem_cons.mp hx with e | hx
      · subst e
        exact key_of ok (by rw [← hq.1]; exact hq.2.1)
      · exact ih x hx
  exact all r x hx
theorem dt_of {kvs : List (List Key × V)} (ok : HOk P w H h) (e : H a = some (.dT kvs)) : kvs.length ≤ sizeLine ∧ (a == sysModules) = false ∧
    ∃ xs, KT H kvs xs ∧ h.DictOfH (tupleKind (mixKind P w)) a xs := dt_rd ok (.inl e)
end

/-- what the dict at a holds at the key y -/
def DGet (H : Hp) (a : Addr) (y : V) (r : Option V) : Prop :=
  (∃ kvs k, Rd H a (.dK kvs) ∧ y = kV k ∧ r = valV kvs k) ∨ ∃ kvs k b, Rd H a (.dT kvs) ∧ y = .ref b ∧ H b = some (.tup (k.map kV)) ∧ r = valV kvs k
/-- the heap behind a[y] = v -/
def DPut (H : Hp) (a : Addr) (y v : V) (H' : Hp) : Prop :=
  (∃ kvs k, H a = some (.dK kvs) ∧ y = kV k ∧ kvs.length < sizeLine ∧ H' = upd H a (.dK (putK kvs k v))) ∨
  ∃ kvs k b, H a = some (.dT kvs) ∧ y = .ref b ∧ H b = some (.tup (k.map kV)) ∧ kvs.length < sizeLine ∧ H' = upd H a (.dT (putK kvs k v))
theorem DGet.k {H : Hp} {a : Addr} {kvs : List (Key × V)} {k : Key} (e : H a = some (.dK kvs)) : DGet H a (kV k) (valV kvs k) := .inl ⟨kvs, k, .inl e, rfl, rfl⟩
theorem DGet.t {H : Hp} {a b : Addr} {kvs : List (List Key × V)} {k : List Key} (e : H a = some (.dT kvs)) (eb : H b = some (.tup (k.map kV))) : DGet H a (.ref b) (valV kvs k) := .inr ⟨kvs, k, b, .inl e, rfl, eb, rfl⟩
theorem DPut.k {H : Hp} {a : Addr} {kvs : List (Key × V)} {k : Key} {v : V} (e : H a = some (.dK kvs)) (hl : kvs.length < sizeLine) : DPut H a (kV k) v (upd H a (.dK (putK kvs k v))) := .inl ⟨kvs, k, e, rfl, hl, rfl⟩
theorem DPut.t {H : Hp} {a b : Addr} {kvs : List (List Key × V)} {k : List Key} {v : V} (e : H a = some (.dT kvs)) (eb : H b = some (.tup (k.map kV))) (hl : kvs.length < sizeLine) :
    DPut H a (.ref b) v (upd H a (.dT (putK kvs k v))) := .inr ⟨kvs, k, b, e, rfl, eb, hl, rfl⟩


section
variable {X : Cx} {pins : List (Addr × Obj)} {σ : St} {H : Hp} {s : Shared} {a : Addr} {y v : V} {u r : Value} {o : Option V} {A : Around} {E : Value → Shared → Prop}

theorem Inv.big (I : Inv X pins σ H s) : sysModules < s.heap.objs.size := by
  have h : mainGlobals < s.heap.objs.size := (I.mod.glob.keeps I.bk).lt
  exact Nat.lt_trans (by decide) h

/-- y in d -/
theorem d_in {Q : Value → Shared → Prop} (hu : A.units + 1 < cLine) (I : Inv X pins σ H s) (g : DGet H a y o) (ry : RelV y u) (h : ∀ s', Inv X pins σ H s' → Q (.bool o.isSome) s') :
    wpAny (model X.prog X.w) A (compareOp .In u (.ref a)) Q E s := by
  rcases g with ⟨kvs, k, e, ey, l⟩ | ⟨kvs, k, b, e, ey, eb, l⟩
  · subst ey
    obtain ⟨z, hd, vs, rel, dd⟩ := dk_rd I.hok e
    refine wpAny_in_of (kV_is ry) hd dd.mapOf ?_
    rw [← (rel.val k).isSome_eq, ← l]
    exact h _ (I.tok _)
  · subst ey
    cases (show u = Value.ref b from ry)
    obtain ⟨z, hd, xs, rel, dd⟩ := dt_rd I.hok e
    refine wpAny_in_heap (tupleKind_room_in1 hu) (key_of I.hok eb) hd dd ?_
    have q := (rel.val k).isSome_eq
    rw [Option.isSome_map] at q
    rw [← q, ← l]
    exact h _ (I.tok _)
/-- a dict's object is replaced -/
theorem d_write {h' : Heap} {t' : Nat} {ob : HO} (I : Inv X pins σ H s) (mu : Mut (H a)) (hs : Heap.SameBut a s.heap h') (he : ∃ q, h'.get? a = some q) (new : ObjOk X.prog X.w (upd H a ob) h' a ob) :
    Inv X pins σ (upd H a ob) { s with heap := h', toks := t' } :=
  I.write (x := a) (e := a) mu (.inl rfl) (fun b q hb z => (hs.2 b hb).trans z) he new
theorem dk_new {P : Program} {w : World} {H' : Hp} {h' : Heap} {kvs : List (Key × V)} {vs : List (Key × Value)} (z : kvs.length ≤ sizeLine) (hd : (a == sysModules) = false) (rel : KV kvs vs) (dd : h'.DictOf (mixKind P w) a vs) :
    ObjOk P w H' h' a (.dK kvs) := ⟨z, hd, vs, rel, dd⟩
/-- d[y] = v -/
theorem d_setItem {H' : Hp} {Q : Unit → Shared → Prop} (hu : A.units + 1 < cLine) (I : Inv X pins σ H s) (g : DPut H a y v H') (ry : RelV y u) (rv : RelV v r) (h : ∀ s', Inv X pins σ H' s' → Q () s') :
    wpAny (model X.prog X.w) A (setItem (.ref a) u r) Q E s := by
  rcases g with ⟨kvs, k, e, ey, l, eH⟩ | ⟨kvs, k, b, e, ey, eb, l, eH⟩
  · subst ey eH
    obtain ⟨z, hd, vs, rel, dd⟩ := dk_of I.hok e
    have hz : vs.length ≤ sizeLine := by rw [← rel.length]; exact z
    have hl : (putK kvs k v).length ≤ sizeLine := by have := length_putK kvs k v; omega
    refine wpAny_setItem_pairs (hsz := hz) (kV_is ry) dd fun h' dd' hs => h _ ?_
    have he : ∃ q, h'.get? a = some q := let ⟨q, _, _, hq, _⟩ := dd'; ⟨q, hq⟩
    exact d_write I (by rw [e]; exact True.intro) hs he (dk_new hl hd (rel.put k rv) dd')
  · subst ey eH
    cases (show u = Value.ref b from ry)
    obtain ⟨z, hd, xs, rel, dd⟩ := dt_of I.hok e
    have hz : xs.length ≤ sizeLine := by rw [← Paired.length rel]; exact z
    have hl : (putK kvs k v).length ≤ sizeLine := by have := length_putK kvs k v; omega
    refine wpAny_setItem_heap (hsz := hz) (tupleKind_room_in1 hu) (key_of I.hok eb) dd fun h' dd' hs => h _ ?_
    obtain ⟨q, es, ep, hq, h2, h3, h4, _, h5⟩ := dd'
    refine d_write I (by rw [e]; exact True.intro) hs ⟨q, hq⟩ ⟨hl, hd, _, (rel.put k eb rv).keeps fun c ys ec => ?_, q, es, ep, hq, h2, h3, h4, h5⟩
    rw [upd_ne (ne_of ec e (fun z => nomatch z))]
    exact ec
end

section
variable {X : Cx} {pins : List (Addr × Obj)} {σ : St} {H : Hp} {s : Shared} {a : Addr} {kvs : List (Key × V)} {k : Key} {u : Value} {A : Around} {E : Value → Shared → Prop}
end


/-! ### readings and rules -/
section
variable {X : Cx} {o i e value : Expr} {pos pos' tpos : Pos} {td ty tv : TE}
end


/-! ### displays -/
theorem dk_empty {P : Program} {w : World} {H : Hp} (h : Heap) (hb : sysModules < h.objs.size) : ObjOk P w H (h.push { cls := .type "dict", data := .dict #[] }) h.objs.size (.dK []) :=
  ⟨Nat.zero_le _, beq_eq_false_iff_ne.mpr (Ne.symm (Nat.ne_of_lt hb)), [], .nil, Heap.DictOf.new h⟩
/-- {}, to be a dict of the kind that is wanted -/
def tDNewK : TE := fun _ H Q => ∀ p, H p = none → Q (.ref p) (upd H p (.dK []))
section
variable {X : Cx} {pos : Pos}
theorem pe_dnewK : PE X (.Dict [] [] pos) tDNewK := fun pins s σ H Q I h =>
  wpAny_Dict_empty ⟨.ref s.heap.objs.size, _, I.laid (a := s.heap.objs.size) (o := .dK []) (t' := s.toks) (fun _ _ q => Heap.get?_push_of_some _ q) (Nat.le_refl _) (dk_empty s.heap I.big), rfl, h _ (I.hok.fresh (Nat.le_refl _))⟩
end

/-- the pairs of a display, from the left -/
def tPairs : List (TE × TE) → St → Hp → (List (V × V) → Hp → Prop) → Prop
  | [], _, H, Q => Q [] H
  | (tk, tv) :: r, σ, H, Q => tk σ H fun x H1 => tv σ H1 fun y H2 => tPairs r σ H2 fun ps H3 => Q ((x, y) :: ps) H3
abbrev VV : List (V × V) → List (Value × Value) → Prop := Paired fun p q => RelV p.1 q.1 ∧ RelV p.2 q.2
def PPs (X : Cx) (pos : Pos) (keys : List (Option Expr)) (values : List Expr) (trs : List (TE × TE)) : Prop :=
  ∀ (pins : List (Addr × Obj)) (s : Shared) (σ : St) (H : Hp) (Q : List (V × V) → Hp → Prop), Inv X pins σ H s → tPairs trs σ H Q →
    wpAny (model X.prog X.w) X.A (evalPairs (pairTrees keys values X.env pos)) (fun vs s' => ∃ ps H', Inv X pins σ H' s' ∧ VV ps vs ∧ Q ps H') X.xe s
/-! ### methods -/
/-- a method call o.m(e) of a built-in, with one argument: what must be seen of the text -/
structure M1 (X : Cx) (o : Expr) (m : Str) (apos : Pos) (e : Expr) (cpos : Pos) : Prop where
  base : attributeBase o m X.env (eval o X.env) = eval o X.env
  few : ((backTo cpos (starEach [e] X.env)).all (fun x => !x.1) && (backToKw cpos (keywordEach [] X.env)).all (fun x => x.1.isSome)
    && decide (([e] : List Expr).length + ([] : List Keyword).length + (if ([] : List Keyword).isEmpty then 0 else 1) < 30)) = true
  line : (apos.endLine == cpos.line) = true
  trees : backTo cpos (starEach [e] X.env) = [(false, eval e X.env)]
structure M2 (X : Cx) (o : Expr) (m : Str) (apos : Pos) (e f : Expr) (cpos : Pos) : Prop where
  base : attributeBase o m X.env (eval o X.env) = eval o X.env
  few : ((backTo cpos (starEach [e, f] X.env)).all (fun x => !x.1) && (backToKw cpos (keywordEach [] X.env)).all (fun x => x.1.isSome)
    && decide (([e, f] : List Expr).length + ([] : List Keyword).length + (if ([] : List Keyword).isEmpty then 0 else 1) < 30)) = true
  line : (apos.endLine == cpos.line) = true
  trees : backTo cpos (starEach [e, f] X.env) = [(false, eval e X.env), (false, eval f X.env)]

section
variable {X : Cx} {pins : List (Addr × Obj)} {σ : St} {H : Hp} {s : Shared} {a : Addr} {y d : V} {u r : Value} {o : Option V} {A : Around} {E : Value → Shared → Prop}
end

section
variable {X : Cx} {o e f : Expr} {apos cpos : Pos} {td ty tx : TE}
end

/-! ### dict(d): a copy -/
section
variable {X : Cx} {pins : List (Addr × Obj)} {σ : St} {H : Hp} {s : Shared} {a : Addr} {kvs : List (Key × V)} {A : Around} {E : Value → Shared → Prop}
end


section
variable {X : Cx} {pins : List (Addr × Obj)} {σ : St} {H : Hp} {s : Shared} {a : Addr} {y : V} {u : Value} {A : Around} {E : Value → Shared → Prop}
end
end L2

namespace Att
open PySem PySem.W PySem.Calls PyProof.Rows

/-! ### the script -/
theorem ints_of_wellAll {P : Params} {h : Heap} : ∀ (ns : List Int) (vs : List Value), WellAll P h vs (ns.map WData.int) → IntsAre vs ns := by
  intro ns
  induction ns with
  | nil =>
    intro vs w
    rw [List.map_nil] at w
    cases w
    exact .nil
  | cons n ns ih =>
    intro vs w
    rw [List.map_cons] at w
    cases w with
    | cons a b =>
      cases a
      exact .cons _ _ (ih _ b)

theorem script_of {l : OpenLaw} {n : Nat} (hn : l.most = some n) {P : Params} {h : Heap} {args : List WData} {vals : List Value}
    (hpre : l.row.toRowW.claim.pre args = true) (hwl : WellAll P h vals args) :
    ∃ a vs ns, vals = [Value.ref a] ∧ args = [WData.list (ns.map WData.int)] ∧ h.get? a = some { cls := .type "list", data := .seq vs.toArray } ∧ IntsAre vs ns ∧ ns.length ≤ n := by
  have hsh : WShape.hasAll [] args [.list .int] = true := (pre_splitW hpre).1
  have hc : l.pre.holds [] { args := args } = true := (pre_splitW hpre).2
  obtain ⟨d, r, rfl, h1, h2⟩ := hasAllW_cons hsh
  obtain rfl := hasAllW_nil h2
  obtain ⟨xs, rfl, h3⟩ := hasW_list h1
  obtain ⟨ns, rfl⟩ := items_int h3
  have hlen : ns.length ≤ n := by
    unfold OpenLaw.pre at hc
    have h4 : (WTm.not (.lt (.lit (.int (n : Int))) (.len (.arg 0)))).holds [] { args := [.list (ns.map .int)] } = true := by
      have h4 := (holds_andW hc).1
      rw [hn] at h4
      exact h4
    have h5 := condW_of h4 (w_not (w_lt w_lit (w_len_list (w_arg rfl))))
    rw [List.length_map] at h5
    refine Nat.le_of_not_lt fun q => ?_
    have q' : (n : Int) < ((ns.length : Nat) : Int) := by omega
    first
      | (rw [decide_eq_true q'] at h5; exact absurd h5 (by decide))
      | (simp at h5; omega)
  cases hwl with
  | cons w1 w2 =>
    cases w2
    cases w1 with
    | list ho hall => exact ⟨_, _, ns, rfl, rfl, ho, ints_of_wellAll ns _ hall, hlen⟩

theorem post_true (l : OpenLaw) (args : List WData) : l.row.toRowW.claim.post args (.bool true) args = true :=
  postW_of (r := l.row.toRowW) (X := (true == true))
    (show WShape.has [] (.bool true) .bool = true by first | rfl | decide | simp [WShape.has, WShape.arms, WShape.armsAll])
    (show (WTm.eq .res (.lit (.bool true))).value [] { args := args, res := some (.bool true), after := args } = some (.bool (true == true)) from w_eq_bool (w_res rfl) w_lit) rfl

/-! ### the attachment: holds_open's last premise (the goal 'hc' behind k_head) from a wpAny of the law's body -/
/-- the same from a codeAny of the CALL (for a layer whose function contracts speak of calls) -/
theorem attach_call {l : OpenLaw} {n : Nat} {q : Program} {loose : List Str} {XP : (Str → Option Value) → Heap → Prop} {YP : World → Heap → Prop} {d : DefRec}
    (hn : l.most = some n) (hdf : d.params.defaults = [])
    (call : ∀ (w : World) (s₀ s₁ : Shared) (mg mb : Str → Option Value) (fa : Addr) (o : Obj) (pm cd doc : Value) (a : Addr) (vs : List Value) (ns : List Int),
      Ground q loose [] XP w s₀ mg mb s₁.heap → YP w s₁.heap →
      s₁.heap.get? fa = some o → o.data = .func (docDef d.name d.params d.body d.scope pm cd doc) → s₁.heap.CodeRec cd d.name → mg d.name = some (.ref fa) →
      s₁.heap.get? a = some { cls := .type "list", data := .seq vs.toArray } → IntsAre vs ns → ns.length ≤ n → s₁.gens = #[] →
      codeAny (model l.prog w) callerA (.call (.ref fa) ⟨[.ref a], []⟩) (fun r s' => r = .ok (.ret (.bool true)) ∧ OldK s₁.heap s'.heap ∧ s'.os = s₁.os ∧ AllBare s'.gens) s₁) :
    WalkO q loose XP YP l.row.toRowW d [] (fun f vs => PySem.call f vs) := by
  intro w s₀ s₁ mg mb G Y fa o pm cd doc dV kV ho hd hcd hD hmg hg args vals as hpre hlay hrd hwl hlo
  obtain rfl : dV = .none := Dflts.none hD hdf
  obtain rfl : kV = .none := Dflts.noKw hD
  obtain ⟨a, vs, ns, rfl, rfl, hobj, hints, hlen⟩ := script_of hn hpre hwl
  refine enter_call (codeAny_mono (call w s₀ s₁ mg mb fa o pm cd doc a vs ns G Y ho (fd_plain hd) hcd hmg hobj hints hlen hg) fun r s' hq => ?_)
  obtain ⟨rfl, h2, h3, h4⟩ := hq
  exact ⟨.inl ⟨.bool true, .bool true, [], rfl, fun _ => rfl, .bool true, post_true l _, fun _ => ⟨List.Pairwise.nil, fun _ hm => (nomatch hm)⟩⟩, h2, h3, h4⟩

/-! ### rules over ANY heap (no ledger) from facts about the written part K: the library's own take a ledger (News) for what they write -/
section
variable {prog : Program} {w : World} {A : Around} {E : Value → Shared → Prop} {s : Shared} {K : Frag}

/-! the whole heap as the ledger: makes every rule that writes through a ledger a rule over any heap -/
end
end Att

namespace L2
open PySem PySem.Spec PyProof.Rows

theorem vals_ints : ∀ {vs : List Value} {ns : List Int}, IntsAre vs ns → Vals (ns.map V.int) vs
  | _, _, .nil => .nil
  | _, _, .cons n t h => .cons ⟨t, rfl⟩ (vals_ints h)

/-- nothing is tracked but the script, known to the object (or it is an object of the module) -/
def Only (H : Hp) : Prop := ∀ b, H b = none ∨ ∃ o xs, H b = some (.frz o (.lst xs))

/-- THE HEAD: the law's promise, at the heap behind the top. F, the promise of the law's def, may use that base is part of the heap (so K.In base, base.Ns mainGlobals mg stand in Mod) -/
theorem law_call {P : Program} {w : World} {K : PySem.W.Frag} {mg mb : Str → Option Value} {CX : CXT} {k : Nat} {fa a : Addr} {fd : FuncData} {x : Str} {sp : Sp} {s₁ : Shared} {vs : List Value} {ns : List Int}
    (KX : K.In s₁.heap) (hns : s₁.heap.Ns mainGlobals mg) (hb : s₁.heap.Ns builtinsNs mb) (hbb : ∀ x : Str, x ≠ "__name__" → mb x = bootBuiltins x) (hlim : s₁.heap.NoLimit) (hg : s₁.gens = #[])
    (ha : s₁.heap.get? a = some { cls := .type "list", data := .seq vs.toArray }) (hi : IntsAre vs ns) (hl : ns.length ≤ sizeLine) (hr : Room k callerA)
    (F : ∀ base : Heap, K.In base → base.Ns mainGlobals mg → FnOk P w K mg base CX k fa fd [x] sp) (hbind : ∀ (s : Shared) (u : Value), BindsTo s fd ⟨[u], []⟩ [(x, u)])
    (hsp : ∀ H : Hp, Only H → SqL K H a (ns.map V.int) → sp [.ref a] H (fun v _ => v = .bl true) fun _ _ _ => False)
    (hCX : ∀ H e s', CX [] H s₁ (fun _ _ _ => False) e s' → False) :
    codeAny (model P w) callerA (.call (.ref fa) ⟨[.ref a], []⟩) (fun r s' => r = .ok (.ret (.bool true)) ∧ OldK s₁.heap s'.heap ∧ s'.os = s₁.os ∧ AllBare s'.gens) s₁ := by
  have rv := vals_ints hi
  have lenV := hi.length
  -- from an abstract heap in which nothing but the script may be tracked
  have core : ∀ H : Hp, Only H → SqL K H a (ns.map V.int) → HOk P w H s₁.heap → (∀ b, H b ≠ none → b = a) → (H a ≠ none → K.lookup a = none) →
      codeAny (model P w) callerA (.call (.ref fa) ⟨[.ref a], []⟩) (fun r s' => r = .ok (.ret (.bool true)) ∧ OldK s₁.heap s'.heap ∧ s'.os = s₁.os ∧ AllBare s'.gens) s₁ := by
    intro H hO hS hok hA hK
    have base_of : ∀ {b : Addr} {o : Obj}, s₁.heap.get? b = some o → H b = none → (hidT s₁.heap H).get? b = some o := fun e n => hidT_get e n
    have noA : ∀ {b : Addr} {o : Obj} {es : Array DictEntry} {ep : Nat}, s₁.heap.get? b = some o → o.data = .dict es ep → H b = none := fun {b o es ep} e d => by
      cases q : H b with
      | none => rfl
      | some u =>
        have e' : b = a := hA b (by rw [q]; simp)
        subst e'
        rw [ha] at e; cases e
        have d' : Data.seq vs.toArray _ = Data.dict es ep := d
        cases d'
    have nsK : ∀ {b : Addr} {m : Str → Option Value}, s₁.heap.Ns b m → (hidT s₁.heap H).Ns b m := fun {b m} ⟨o, es, ep, e, d, r⟩ => ⟨o, es, ep, base_of e (noA e d), d, r⟩
    have hKb : K.In (hidT s₁.heap H) := fun b o e => base_of (KX b o e) (by
      cases q : H b with
      | none => rfl
      | some u =>
        have e' : b = a := hA b (by rw [q]; simp)
        subst e'
        rw [hK (by rw [q]; simp)] at e; cases e)
    have hM : Mod K mg (hidT s₁.heap H) := ⟨hKb, nsK hns, ⟨mb, nsK hb, hbb⟩, let ⟨mc, h1, h2⟩ := hlim; ⟨mc, nsK h1, h2⟩⟩
    have e0 : Env0 P w K mg (hidT s₁.heap H) callerA [] s₁ H := ⟨rfl, hM, fun b o e => of_hidT e, Nat.le_of_eq (hidT_size _ _), trivial, fun b hb => absurd (show b ∈ ([] : List Addr) from hb) (by simp), hok, .of_eq hg⟩
    refine codeAny_mono ((F _ hKb (nsK hns)).run callerA [] s₁ H ⟨[.ref a], []⟩ [.ref a] [.ref a] _ _ hr e0 (hbind s₁ (.ref a)) (.cons rfl .nil) (hsp H hO hS)) fun r s' h => ?_
    cases r with
    | error e => exact (hCX H e s' h).elim
    | ok fl =>
      cases fl with
      | next => exact False.elim h
      | brk => exact False.elim h
      | cont => exact False.elim h
      | ret u =>
        obtain ⟨v, H', os, bare, un, hok', r', q⟩ := h
        have q' : v = .bl true := q
        subst q'
        obtain rfl : u = Value.bool true := r'
        refine ⟨rfl, OldK.of_keep fun b o e => ?_, os, bare⟩
        cases q : H b with
        | none => exact un.keep b o e q (by intro z; exact absurd (show b ∈ ([] : List Addr) from z) (by simp)) (by simp)
        | some u =>
          rcases hO b with z | ⟨ob, xs, z⟩
          · rw [q] at z; cases z
          · have z2 := un.frzs b ob _ z
            obtain ⟨e1, _⟩ := hok b _ z
            obtain ⟨e2, _⟩ := hok' b _ z2
            rw [e] at e1; cases e1
            exact e2
  cases hk : K.lookup a with
  | some o =>
    -- the script is one of the module's own objects
    have e := KX a o hk
    rw [ha] at e
    cases e
    refine core (fun _ => none) (fun _ => .inl rfl) (.inr ⟨_, vs.toArray, _, hk, rfl, rfl, rfl, by rw [List.size_toArray, lenV]; exact hl, by simpa using rv⟩) (fun b u z => by have z' : (none : Option HO) = some u := z; cases z') (fun b z => absurd rfl z) fun z => absurd rfl z
  | none =>
    refine core (fun b => if b = a then some (.frz { cls := .type "list", data := .seq vs.toArray } (.lst (ns.map V.int))) else none) (fun b => ?_) (.inl (.inr ⟨{ cls := .type "list", data := .seq vs.toArray }, if_pos rfl⟩)) (fun b u z => ?_) (fun b z => ?_) fun _ => hk
    · by_cases hb : b = a
      · exact .inr ⟨_, _, if_pos hb⟩
      · exact .inl (if_neg hb)
    · by_cases hb : b = a
      · have z' := (if_pos hb).symm.trans z
        cases z'
        subst hb
        exact ⟨ha, by rw [List.length_map]; exact hl, vs, _, rv, ha⟩
      · have z' := (if_neg hb).symm.trans z
        cases z'
    · by_cases hb : b = a
      · exact hb
      · exact absurd (if_neg hb) z
end L2

namespace L2
open PySem PySem.Spec PyProof.Rows

abbrev KOf {K : PySem.W.Frag} {h : Heap} (_ : K.In h) : PySem.W.Frag := K

/-- the goal that k_head leaves (case hc), from the law's promise. F gives the function object fd (K's own) once, then the promise over every base -/
theorem walk_of {l : PySem.W.OpenLaw} {n k : Nat} {q : Program} {loose : List Str} {XP : (Str → Option Value) → Heap → Prop} {YP : World → Heap → Prop} {d : DefRec} {K : Params → PySem.W.Frag} {CX : World → CXT} {sp : World → Sp} {x : Str}
    (hn : l.most = some n) (hn2 : n ≤ sizeLine) (hdf : d.params.defaults = []) (hr : Room k callerA)
    (hY : ∀ (w : World) (h : Heap), YP w h → (K w.params).In h)
    (F : ∀ (w : World) (mg : Str → Option Value) (fa : Addr) (h : Heap), (K w.params).In h → h.Ns mainGlobals mg → mg d.name = some (.ref fa) →
      ∃ fd : FuncData, (∀ (s : Shared) (u : Value), BindsTo s fd ⟨[u], []⟩ [(x, u)]) ∧
        ∀ base : Heap, (K w.params).In base → base.Ns mainGlobals mg → FnOk l.prog w (K w.params) mg base (CX w) k fa fd [x] (sp w))
    (hsp : ∀ (w : World) (H : Hp) (a : Addr) (ns : List Int), ns.length ≤ n → Only H → SqL (K w.params) H a (ns.map V.int) → sp w [.ref a] H (fun v _ => v = .bl true) fun _ _ _ => False)
    (hCX : ∀ (w : World) (H : Hp) (s : Shared) (e : Value) (s' : Shared), CX w [] H s (fun _ _ _ => False) e s' → False) :
    PySem.W.WalkO q loose XP YP l.row.toRowW d [] (fun f vs => PySem.call f vs) := by
  refine Att.attach_call hn hdf fun w s₀ s₁ mg mb fa o pm cd doc a vs ns G Y ho hd hcd hmg hobj hints hlen hg => ?_
  have KX := hY w _ Y
  obtain ⟨fd, hb, hF⟩ := F w mg fa _ KX G.T.g hmg
  exact law_call KX G.T.g G.T.b G.T.builtins G.T.nolimit hg hobj hints (Nat.le_trans hlen hn2) hr hF hb (fun H hO hS => hsp w H a ns hlen hO hS) fun H e s' => hCX w H s₁ e s'
end L2

/- THE LAST THEOREM (shape; LID, My.* are yours):
   My.Adr: a structure of the addresses that your layer names (classes, functions); My.Txt K t: a structure (Prop) of the equations over K;
   My.txt_mk : {K} {implicit addresses ..} (e1 : nsIn K mainGlobals "law" = some (some (.ref f))) (e2 : K.lookup f = some ⟨oc, od, .func (fnOf "law" "law" params body scope dV kV doc pm an cdv ct), sl⟩) (e3 : codeIn K cdv "law" = true) .. : ∃ t, My.Txt K t

set_option maxRecDepth 100000 in
set_option maxHeartbeats 0 in
theorem PySem.Challenge.cw_LID_holds : PySem.Challenge.rw_LID.Holds := by
  w_on; o_law; k_head; (case hw => w_witness2)
  k_fill
  refine L2.walk_of (l := PySem.Challenge.rw_LID) (n := 63) (k := 40) (x := "script") (CX := fun w => ..) (sp := fun _ => My.sp_law) rfl (by decide) rfl ⟨rfl, by decide, by decide⟩ (fun w h Y => PySem.W.kIn_of Y) ?F ?S ?C
  case F =>
    intro w mg fa h KX G hmg
    have T : ∃ t, My.Txt (L2.KOf KX) t := by
      dsimp only [L2.KOf]                          -- K must stand as «<heap const> w.params» for k_is
      refine' My.txt_mk ?e1 ?e2 ?e3 ..
      (case e1 => PySem.W.k_is)                    -- in the order: a name -> its address -> its object -> its parts
      (case e2 => PySem.W.k_is)
      ..
    obtain ⟨t, T⟩ := T
    have e0 := hmg.symm.trans (PySem.W.mg_of KX G T.law)
    cases e0                                       -- fa is the law's own address
    exact ⟨_, fun s u => .of_eq rfl, fun base kb nb => My.law_fn T kb nb⟩     -- if «.of_eq rfl» comes too early: refine' ⟨_, ?b, fun base kb nb => My.law_fn T kb nb⟩; exact fun s u => .of_eq rfl
  case S => exact fun w H a ns hl hO hS => ..
  case C => exact ..
(the tactic k_is has no namespace: write k_is) -/

/-! SHORT WORDS over the layer: a def of the text, its body, what a loop and a test want. -/
namespace L2
open PySem PySem.Spec PyProof.Rows

/-! ### the text by places -/
def defArgs (s : Stmt) : Arguments := match s with
  | .FunctionDef _ a _ _ _ _ _ _ _ _ => a
  | _ => { posonlyargs := [], args := [], vararg := none, kwonlyargs := [], kw_defaults := [], kwarg := none, defaults := [] }
def defBody (s : Stmt) : List Stmt := match s with
  | .FunctionDef _ _ b _ _ _ _ _ _ _ => b
  | _ => []
def defScope (s : Stmt) : Scope := match s with
  | .FunctionDef _ _ _ _ _ _ sc _ _ _ => sc
  | _ => { kind := .function, names := [], isGenerator := false, isCoroutine := false }

/-! ### no exception leaves a def -/
abbrev CX0 : CXT := fun _ _ _ _ _ _ => False
abbrev E0 : XK := fun _ _ _ => False
theorem pass0 {X : Cx} : Passes CX0 X E0 := fun _ _ _ _ _ _ _ h => h.elim

/-! ### a def (or method) of the text as it stands behind the top -/
structure Fun (K : PySem.W.Frag) (x qual : Str) (st : Stmt) (f : Addr) (fd : FuncData) : Prop where
  ex : ∃ (oc : Value) (od : Option Addr) (kV doc pm : Value) (an : Option Addr) (cdv ct : Value) (osl : Array (Option Value)),
    fd = PySem.W.fnOf x qual (defArgs st) (defBody st) (defScope st) .none kV doc pm an cdv ct ∧ K.lookup f = some ⟨oc, od, .func fd, osl⟩ ∧ PySem.W.codeIn K cdv qual = true
  kp : PySem.W.keepIn K (.ref f) = true
section
variable {P : Program} {w : World} {K : PySem.W.Frag} {mg : Str → Option Value} {base : Heap}
/-- THE RULE for a def: its body as a term of rules, and the reading of that term -/
theorem Fun.ok {x qual : Str} {st : Stmt} {f : Addr} {fd : FuncData} {N ps : List Str} {k : Nat} {sp : Sp} (F : Fun K x qual st f fd) (S : FnScope N ps (defScope st)) (len : ∀ vs H Q E, sp vs H Q E → vs.length = ps.length)
    (hbody : ∀ (cdv : Value) (A : Around) (outer : List Env) (s : Shared) (H : Hp) (vs : List V) (Q : VK) (E : XK), Room k (A.deeper (envOfC qual (defScope st) s.heap.objs.size f cdv)) → sp vs H Q E →
      ∃ t, PSs (cxOf CX0 P w K mg base N qual (defScope st) f cdv A outer s H E).nox (defBody st) t ∧ t { nx := fun _ H' => Q .non H', rt := Q } (start N vs) H) : FnOk P w K mg base CX0 (k + 1) f fd ps sp := by
  obtain ⟨oc, od, kV, doc, pm, an, cdv, ct, osl, rfl, lk, hcd⟩ := F.ex
  refine fn_of lk hcd S len fun A outer s H vs Q E hr hsp => ?_
  obtain ⟨t, h, q⟩ := hbody cdv A outer s H vs Q E hr hsp
  exact ⟨t, h.nox, q⟩
/-- how its arguments bind (no defaults): h is «fun _ _ _ _ _ _ us hl => match us, hl with | [_, _], _ => rfl», one _ a parameter -/
theorem Fun.binds {x qual : Str} {st : Stmt} {f : Addr} {fd : FuncData} {ps : List Str} (F : Fun K x qual st f fd)
    (h : ∀ (kV doc pm : Value) (an : Option Addr) (cdv ct : Value) (us : List Value), us.length = ps.length → bindArgs (PySem.W.fnOf x qual (defArgs st) (defBody st) (defScope st) .none kV doc pm an cdv ct) ⟨us, []⟩ = pure (ps.zip us)) : Binds K fd ps [] := by
  obtain ⟨oc, od, kV, doc, pm, an, cdv, ct, osl, rfl, lk, hcd⟩ := F.ex
  exact .all (h kV doc pm an cdv ct)
theorem fun_mk {x qual : Str} {st : Stmt} {f : Addr} {oc : Value} {od an : Option Addr} {osl : Array (Option Value)} {kV doc pm cdv ct : Value} (l : K.lookup f = some ⟨oc, od, .func (PySem.W.fnOf x qual (defArgs st) (defBody st) (defScope st) .none kV doc pm an cdv ct), osl⟩)
    (c : PySem.W.codeIn K cdv qual = true) (k : PySem.W.keepIn K (.ref f) = true) : Fun K x qual st f (PySem.W.fnOf x qual (defArgs st) (defBody st) (defScope st) .none kV doc pm an cdv ct) := ⟨⟨oc, od, kV, doc, pm, an, cdv, ct, osl, rfl, l, c⟩, k⟩
end
/-! ### expressions in short: the name that stands in the i-th slot -/
section
variable {X : Cx}
theorem pv (i : Nat) {x : Str} {pos : Pos} (hN : X.N[i]? = some x := by rfl) (hv : Vis X.env.scope x := by first | exact Or.inl rfl | exact Or.inr (Or.inl rfl) | exact Or.inr (Or.inr rfl)) (hd : (x == ("__debug__" : Str)) = false := by decide)
    (hcd : (x == ("__classdict__" : Str)) = false := by decide) : PE X (.Name x pos) (tVar i) := pe_var hN hv hd hcd
end

/-! ### tests -/
theorem ite2 {c A B : Prop} [Decidable c] (h1 : c → A) (h2 : ¬ c → B) : if c then A else B := by
  by_cases h : c
  · rw [if_pos h]
    exact h1 h
  · rw [if_neg h]
    exact h2 h
/-! ### heaps -/
/-- all that was tracked is as it was -/
def Same (H H' : Hp) : Prop := ∀ b o, H b = some o → H' b = some o
theorem Same.refl (H : Hp) : Same H H := fun _ _ h => h
theorem Same.trans {H H1 H2 : Hp} (a : Same H H1) (b : Same H1 H2) : Same H H2 := fun c o h => b c o (a c o h)
theorem Same.free {H H' : Hp} (e : Same H H') {l : Addr} (h : H' l = Option.none) : H l = Option.none := by
  cases q : H l with
  | none => rfl
  | some o =>
    rw [e l o q] at h
    cases h
theorem Same.seq {K : PySem.W.Frag} {H H' : Hp} {a : Addr} {xs : List V} (e : Same H H') (h : SqL K H a xs) : SqL K H' a xs := by
  rcases h with (h | ⟨o, h⟩) | h
  · exact .inl (.inl (e _ _ h))
  · exact .inl (.inr ⟨o, e _ _ h⟩)
  · exact .inr h

/-! ### len of a dict -/
/-! ### a dict's pairs: keys that differ -/
section
variable {κ : Type} [DecidableEq κ]
end
end L2

set_option Elab.async false
set_option linter.all false
set_option maxRecDepth 100000
namespace L2
open PySem PySem.Spec PyProof.Rows

/-! ### a list comprehension of one clause: the block's closure -/
def closOf (cells : List (Str × Addr)) : List (Str × NameKind) → List (Str × Addr) → List (Str × Addr)
  | [], acc => acc
  | (n, k) :: r, acc => closOf cells r (if k == .free then (n, (cells.lookup n).getD 0) :: acc else acc)
theorem clos_for {env : Env} {f : (Str × NameKind) → List (Str × Addr) → Sem (ForInStep (List (Str × Addr)))}
    (hf : ∀ n k cs, f (n, k) cs = if (k == NameKind.free) = true then (cellOf env n >>= fun c => pure (ForInStep.yield ((n, c) :: cs))) else pure (ForInStep.yield cs)) :
    ∀ (names : List (Str × NameKind)) (acc : List (Str × Addr)), (∀ x ∈ names, x.2 = .free → ∃ c, env.cells.lookup x.1 = some c) →
    forIn names acc f = (pure (closOf env.cells names acc) : Sem _)
  | [], acc, _ => rfl
  | (n, k) :: r, acc, h => by
    rw [List.forIn_cons, hf]
    have ih := fun acc => clos_for hf r acc fun x hx => h x (List.mem_cons_of_mem _ hx)
    by_cases hk : (k == NameKind.free) = true
    · rw [if_pos hk]
      obtain ⟨c, hc⟩ := h (n, k) List.mem_cons_self (by simpa using hk)
      have e : cellOf env n = pure c := by unfold cellOf; rw [hc]
      rw [e, pure_bind, pure_bind]
      show forIn r ((n, c) :: acc) f = _
      rw [ih]
      show _ = pure (closOf env.cells r (if (k == NameKind.free) = true then (n, (env.cells.lookup n).getD 0) :: acc else acc))
      rw [if_pos hk, hc]; rfl
    · rw [if_neg hk, pure_bind]
      show forIn r acc f = _
      rw [ih]
      show _ = pure (closOf env.cells r (if (k == NameKind.free) = true then (n, (env.cells.lookup n).getD 0) :: acc else acc))
      rw [if_neg hk]
theorem closureFor_eq {env : Env} {scope : Scope} (h : ∀ x ∈ scope.names, x.2 = .free → ∃ c, env.cells.lookup x.1 = some c) : closureFor scope env = pure (closOf env.cells scope.names []) := by
  unfold closureFor
  show (forIn scope.names ([] : List (Str × Addr)) _ >>= fun cs => pure cs) = _
  rw [clos_for (env := env) (fun n k cs => ?_) _ _ h]
  · rfl
  · rfl
theorem closOf_some {cells : List (Str × Addr)} : ∀ {names : List (Str × NameKind)} {acc : List (Str × Addr)} {x : Str} {c : Addr}, (∀ y ∈ names, y.2 = .free → ∃ c, cells.lookup y.1 = some c) →
    (∀ y c, acc.lookup y = some c → cells.lookup y = some c) → (closOf cells names acc).lookup x = some c → cells.lookup x = some c
  | [], acc, x, c, _, ha, h => ha x c h
  | (n, k) :: r, acc, x, c, hn, ha, h => by
    refine closOf_some (names := r) (fun y hy => hn y (List.mem_cons_of_mem _ hy)) ?_ h
    intro y d hy
    by_cases hk : (k == NameKind.free) = true
    · rw [if_pos hk] at hy
      obtain ⟨e, he⟩ := hn (n, k) List.mem_cons_self (by simpa using hk)
      have he' : cells.lookup n = some e := he
      rw [List.lookup_cons] at hy
      by_cases hyn : (y == n) = true
      · rw [hyn] at hy
        have hy' : (cells.lookup n).getD 0 = d := Option.some.inj hy
        rw [he'] at hy'
        have e1 : y = n := by simpa using hyn
        rw [e1, he', ← hy']; rfl
      · have hf : (y == n) = false := by simpa using hyn
        rw [hf] at hy
        exact ha y d hy
    · rw [if_neg hk] at hy
      exact ha y d hy
theorem closOf_acc {cells : List (Str × Addr)} : ∀ {names : List (Str × NameKind)} {acc : List (Str × Addr)} {x : Str}, (∃ c, acc.lookup x = some c) → ∃ c, (closOf cells names acc).lookup x = some c
  | [], _, _, h => h
  | (n, k) :: r, acc, x, h => by
    refine closOf_acc (names := r) ?_
    by_cases hk : (k == NameKind.free) = true
    · rw [if_pos hk, List.lookup_cons]
      cases hx : (x == n) with
      | true => exact ⟨_, rfl⟩
      | false => exact h
    · rw [if_neg hk]; exact h
theorem closOf_has {cells : List (Str × Addr)} : ∀ {names : List (Str × NameKind)} {acc : List (Str × Addr)} {x : Str}, (x, NameKind.free) ∈ names → ∃ c, (closOf cells names acc).lookup x = some c
  | (n, k) :: r, acc, x, h => by
    rcases List.mem_cons.mp h with e | h
    · have e1 : x = n := congrArg (·.1) e
      have e2 : NameKind.free = k := congrArg (·.2) e
      subst e1 e2
      refine closOf_acc (names := r) ?_
      rw [if_pos (by rfl), List.lookup_cons]
      rw [beq_self_eq_true]
      exact ⟨_, rfl⟩
    · exact closOf_has (names := r) h
/-- a name of the block that is no local is one of its free ones -/
theorem relabel_free {env : Env} : ∀ {names : List (Str × NameKind)} {x : Str} {k : NameKind}, (∀ y ∈ names, y.2 ≠ .cell) →
    (names.map fun (n, k) => if (k == NameKind.free && env.scope.kind == .function && env.kindOf n == some .cell) then (n, NameKind.cell) else (n, k)).lookup x = some k → (k = .cell ∨ k = .free) → (x, NameKind.free) ∈ names
  | [], _, _, _, h, _ => by simp at h
  | (n, k0) :: r, x, k, hc, h, hk => by
    have ih := @relabel_free env r x k (fun y hy => hc y (List.mem_cons_of_mem _ hy))
    rw [List.map_cons] at h
    by_cases hf : (k0 == NameKind.free && env.scope.kind == .function && env.kindOf n == some .cell) = true
    · have hk0 : k0 = .free := by
        have : (k0 == NameKind.free) = true := by
          rw [Bool.and_eq_true, Bool.and_eq_true] at hf; exact hf.1.1
        simpa using this
      dsimp only at h
      rw [if_pos hf, List.lookup_cons] at h
      cases hx : (x == n) with
      | true =>
        have : x = n := by simpa using hx
        rw [this, hk0]; exact List.mem_cons_self
      | false => rw [hx] at h; exact List.mem_cons_of_mem _ (ih h hk)
    · dsimp only at h
      rw [if_neg hf, List.lookup_cons] at h
      cases hx : (x == n) with
      | true =>
        rw [hx] at h
        have e : k0 = k := Option.some.inj h
        have : x = n := by simpa using hx
        rcases hk with z | z
        · exact absurd (e.trans z) (hc (n, k0) List.mem_cons_self)
        · rw [this, e, z]; exact List.mem_cons_self
      | false => rw [hx] at h; exact List.mem_cons_of_mem _ (ih h hk)

/-! ### the block's context -/
def cxComp (X : Cx) (N0 T : List Str) (scope : Scope) (C : Addr) (fp : List Addr) (s : Shared) (H : Hp) : Cx :=
  { X with N := N0 ++ T, s₀ := s, H₀ := H, env := compEnvC scope (closOf X.env.cells scope.names []) C X.env, outer := X.stack, stack := X.stack, ex := fp, fn := fun _ => false, pn := [], xe := fun _ _ => False }
/-- what the scope of a block must be: no cells of its own, its free names are the def's cells, its locals are none of the tracked names -/
structure CompScope (X : Cx) (N0 T : List Str) (scope : Scope) : Prop where
  kind : scope.kind = .function
  nocell : ∀ y ∈ scope.names, y.2 ≠ .cell
  names : ∀ y ∈ scope.names, y.2 = .local → scope.names.lookup y.1 = some .local
  free : ∀ y ∈ scope.names, y.2 = .free → X.env.kindOf y.1 = some .cell ∨ X.env.kindOf y.1 = some .free
  apart : ∀ y ∈ scope.names, y.2 = .local → y.1 ∉ N0
  len0 : N0.length = X.N.length
  same : ∀ (i : Nat) (x : Str) (k : NameKind), N0[i]? = some x → (x, k) ∈ scope.names → X.N[i]? = some x
/-- a loop of one clause, with what is done ahead of the store -/
theorem codeAny_compLoop_go {prog : Program} {w : World} {A : Around} {R : Result → Shared → Prop} {s : Shared} {elt target iter : Expr} {ifs : List Expr} {scope : Scope} {pos : Pos} {it acc : Value} {env : Env} (I : Nat → Shared → Prop)
    (turn : ∀ n s, I n s → wpAny (model prog w) A (pyNext it) (fun r s₁ => match r with
      | none => R (.ok .next) s₁
      | some v => wpAny (model prog w) A (letOwnedTupleGo target it v) (fun _ s₀ => wpAny (model prog w) A (assign target env v) (fun _ s₂ =>
          wpAny (model prog w) A (forIn ifs true fun c r => if r = true then do let ok ← isTrue c env (eval c env); pure (ForInStep.yield ok) else pure (ForInStep.yield r)) (fun ok s₃ =>
            if ok = true then wpAny (model prog w) A (eval elt env) (fun x s₄ =>
              wpAny (model prog w) A (call (.builtin "list.append") [acc, x]) (fun _ s₅ => ∃ m, m < n ∧ I m s₅) (fun _ _ => False) s₄) (fun _ _ => False) s₃
            else ∃ m, m < n ∧ I m s₃) (fun _ _ => False) s₂) (fun _ _ => False) s₀) (fun _ _ => False) s₁) (fun _ _ => False) s)
    (n : Nat) (h : I n s) :
    codeAny (model prog w) A (.compLoop (.ListComp elt [⟨target, iter, ifs, 0⟩] scope pos) 0 it acc env) R s := by
  refine codeAny_loop rfl I (fun n s hI => ?_) n h
  show wpAny _ A ((compTurn (.ListComp elt [⟨target, iter, ifs, 0⟩] scope pos) 0 it acc env).onRaise (fun x => do noteFrame x env; theTreesLotGoes x)) _ _ s
  refine wpAny_noted ?_
  rw [compTurn_list]
  refine wpAny_bind (wpAny_standAt (wpAny_bind (wpAny_mono (turn n s hI) (fun r s₁ h₁ => ?_) fun _ _ h' => h'.elim)))
  cases r with
  | none => exact wpAny_pure h₁
  | some v =>
    refine wpAny_bind (wpAny_mono h₁ (fun _ s₀ h₀ => ?_) fun _ _ h' => h'.elim)
    refine wpAny_bind (wpAny_mono h₀ (fun _ s₂ h₂ => wpAny_bind (wpAny_mono h₂ (fun ok s₃ h₃ => ?_) fun _ _ h' => h'.elim)) fun _ _ h' => h'.elim)
    cases ok with
    | false => exact wpAny_pure ⟨rfl, h₃⟩
    | true =>
      exact wpAny_bind (wpAny_bind (wpAny_mono h₃ (fun x s₄ h₄ => wpAny_bind (wpAny_mono h₄ (fun _ s₅ h₅ => wpAny_pure (wpAny_pure ⟨rfl, h₅⟩)) fun _ _ h' => h'.elim)) fun _ _ h' => h'.elim))

/-- tests of a clause: none, or one -/
def PIfs (X : Cx) (ifs : List Expr) (tc : TT) : Prop :=
  ∀ (pins : List (Addr × Obj)) (s : Shared) (σ : St) (H : Hp) (Q : Bool → Hp → Prop), Inv X pins σ H s → tc σ H Q →
    wpAny (model X.prog X.w) X.A (forIn ifs true fun c r => if r = true then do let ok ← isTrue c X.env (eval c X.env); pure (ForInStep.yield ok) else pure (ForInStep.yield r)) (TP X pins σ Q) X.xe s
def tYes : TT := fun _ H Q => Q true H
theorem pifs_nil {X : Cx} : PIfs X [] tYes := fun _ _ _ H _ I h => wpAny_tests_nil ⟨H, I, h⟩
/-- a target that stores into the slots from n on alone -/
def GFr (g : TG) (n : Nat) : Prop := ∀ x σ H Q, g x σ H Q → g x σ H fun σ' H' => Q σ' H' ∧ σ'.length = σ.length ∧ ∀ k, k < n → σ'[k]? = σ[k]?
def GsFr (g : TGs) (n : Nat) : Prop := ∀ x σ H Q, g x σ H Q → g x σ H fun σ' H' => Q σ' H' ∧ σ'.length = σ.length ∧ ∀ k, k < n → σ'[k]? = σ[k]?
theorem gfr_name {i n : Nat} (h : n ≤ i) : GFr (gName i) n := fun x σ H Q q => ⟨q, by simp, fun k hk => by rw [List.getElem?_set_ne (by omega)]⟩
theorem gsfr_nil {n : Nat} : GsFr gNil n := fun x σ H Q q => ⟨q.1, q.2, rfl, fun _ _ => rfl⟩
def GMono (g : TG) : Prop := ∀ x σ H Q Q', (∀ σ' H', Q σ' H' → Q' σ' H') → g x σ H Q → g x σ H Q'
def GsMono (g : TGs) : Prop := ∀ x σ H Q Q', (∀ σ' H', Q σ' H' → Q' σ' H') → g x σ H Q → g x σ H Q'
theorem gm_name {i : Nat} : GMono (gName i) := fun x σ H Q Q' h q => h _ _ q
theorem gsm_nil : GsMono gNil := fun x σ H Q Q' h q => ⟨q.1, h _ _ q.2⟩
theorem gsm_cons {t : TG} {u : TGs} (h1 : GMono t) (h2 : GsMono u) : GsMono (gCons t u) := fun x σ H Q Q' h ⟨v, r, e, q⟩ => ⟨v, r, e, h1 _ _ _ _ _ (fun σ' H' z => h2 _ _ _ _ _ h z) q⟩
theorem gsfr_cons {t : TG} {u : TGs} {n : Nat} (h1 : GFr t n) (m1 : GMono t) (h2 : GsFr u n) (m2 : GsMono u) : GsFr (gCons t u) n := fun x σ H Q ⟨v, r, e, q⟩ => by
  refine ⟨v, r, e, ?_⟩
  refine m1 _ _ _ _ _ (fun σ' H' z => ?_) (h1 _ _ _ _ q)
  obtain ⟨z, l1, k1⟩ := z
  exact m2 _ _ _ _ _ (fun σ2 H2 y => ⟨y.1, y.2.1.trans l1, fun k hk => (y.2.2 k hk).trans (k1 k hk)⟩) (h2 _ _ _ _ z)
theorem gfr_tup {K : PySem.W.Frag} {m n : Nat} {t : TGs} (h : GsFr t n) : GFr (gTup K m t) n := fun x σ H Q ⟨a, xs, e, q, l, z⟩ => ⟨a, xs, e, q, l, h _ _ _ _ z⟩

/-- the turns of a comprehension over J, its list at D: W by the turn, a measure, the items so far -/
def compW (J : It) (g : TG) (tc : TT) (te : TE) (nT : Nat) (σ : St) (D : Addr) (Q : VK) (H : Hp) : Prop :=
  ∃ W : Nat → Nat → List V → Hp → Prop, (∃ m, W 0 m [] H) ∧ ∀ i m ys H2, W i m ys H2 →
    (J.stop i H2 ∧ Q (.ref D) H2) ∨ (J.go i H2 ∧ ∀ x H', J.yld i H2 x H' → g x (σ ++ List.replicate nT none) H' fun σ2 H3 => tc σ2 H3 fun b H4 =>
      if b = true then te σ2 H4 fun y H5 => H5 D = some (.lst ys) ∧ ys.length < sizeLine ∧ ∃ m', m' < m ∧ W (i + 1) m' (ys ++ [y]) (upd H5 D (.lst (ys ++ [y]))) else ∃ m', m' < m ∧ W (i + 1) m' ys H4)
def tComp (wi : TI) (g : TG) (tc : TT) (te : TE) (nT : Nat) : TE := fun σ H Q => wi σ H fun J H1 => ∀ D, H1 D = none → compW J g tc te nT σ D Q (upd H1 D (.lst []))

theorem HOk.sameBut {P : Program} {w : World} {H : Hp} {h h' : Heap} {C : Addr} (x : HOk P w H h) (hs : Heap.SameBut C h h') (hC : H C = none) : HOk P w H h' := fun a o e =>
  (x a o e).stay (fun b u hb q => (hs.2 b (by
    rintro rfl
    rcases hb with z | z
    · rw [z] at hC; rw [hC] at e; cases e
    · rw [hC] at z; cases z)).trans q) (fun _ q => q) fun _ _ q => q

section
variable {X : Cx} {N0 T : List Str} {scope : Scope} {tg elt iter : Expr} {ifs : List Expr} {pos : Pos} {wi : TI} {g : TG} {tc : TT} {te : TE}

theorem comp_core {pins : List (Addr × Obj)} {σ : St} {H : Hp} {s : Shared} {E : Value → Shared → Prop} {it : Addr} {fp : List Addr} {tn : Nat → Heap → Prop} {J : It} {Q : VK} {RR : Value → Addr → Result → Shared → Prop}
    (S : CompScope X N0 T scope) (hc : X.calm = true)
    (hg : ∀ C fp s H, PG (cxComp X N0 T scope C fp s H) tg g) (hfr : GFr g X.N.length) (hi : ∀ C fp s H, PIfs (cxComp X N0 T scope C fp s H) ifs tc) (he : ∀ C fp s H, PE (cxComp X N0 T scope C fp s H) elt te)
    (I : Inv X pins σ H s) (Tn : Turn X.prog X.w X.K tg J fp it tn) (st : tn 0 s.heap) (hf : ∀ b ∈ fp, FpOk X pins H b)
    (h : ∀ D, H D = none → compW J g tc te T.length σ D Q (upd H D (.lst [])))
    (hRR : ∀ D C s' H' m, s'.heap.Ns C m → H' C = none → C ≠ X.env.locals → (∀ x c, X.env.cells.lookup x = some c → c ≠ C) → (∀ p ∈ X.pn ++ pins, p.1 ≠ C) → X.s₀.heap.objs.size ≤ C → Inv X pins σ H' s' →
      (∀ h', Heap.SameBut C s'.heap h' → Inv X pins σ H' { s' with heap := h' }) → Q (.ref D) H' → RR (.ref D) C (.ok .next) s') :
    wpAny (model X.prog X.w) X.A (newList []) (fun acc s₃ => wpAny (model X.prog X.w) X.A (newFunctionEnv scope X.env.globals (closOf X.env.cells scope.names []) [] X.env.qual none .none (some X.env)) (fun cenv s₄ =>
      codeAny (model X.prog X.w) X.A (.compStart (.ListComp elt [⟨tg, iter, ifs, 0⟩] scope pos) 0 (.ref it) acc { cenv with scope := relabel scope X.env }) (RR acc cenv.locals) s₄) E s₃) E s := by
  refine wpAny_newObj_type (wpAny_newFunctionEnv S.nocell (by intro y hy; simp at hy) (fun h₁ hns₁ hsb₁ => ?_) S.kind)
  dsimp only at hns₁ hsb₁ ⊢
  generalize hH2 : s.heap.push { cls := .type "list", dict := none, data := .seq ([] : List Value).toArray } = P2 at hns₁ hsb₁ ⊢
  have hC : P2.objs.size = s.heap.objs.size + 1 := by rw [← hH2, Heap.size_push]
  -- the new list D, the block's names C
  obtain ⟨D, hD⟩ : ∃ D : Nat, D = s.heap.objs.size := ⟨_, rfl⟩
  obtain ⟨C, hCC⟩ : ∃ C : Nat, C = P2.objs.size := ⟨_, rfl⟩
  rw [← hCC] at hns₁ hsb₁ hC ⊢
  rw [← hD] at hC ⊢
  have hDC : D ≠ C := by omega
  have hDlt : D < C := by omega
  have neD : ∀ b o, s.heap.get? b = some o → b ≠ D := fun b o e => hD ▸ Nat.ne_of_lt (Heap.lt_size e)
  have neC : ∀ b o, s.heap.get? b = some o → b ≠ C := fun b o e => Nat.ne_of_lt (Nat.lt_trans (hD ▸ Heap.lt_size e) hDlt)
  have old : ∀ b o, s.heap.get? b = some o → h₁.get? b = some o := fun b o e => hsb₁.extBut b o (neC b o e) (Heap.get?_push_of_some _ (hH2 ▸ Heap.get?_push_of_some _ e))
  have hHD : H D = none := I.hok.fresh (by omega)
  have hHC : H C = none := I.hok.fresh (by omega)
  have dat : h₁.get? D = some { cls := .type "list", data := .seq ([] : List Value).toArray 0 } := by
    refine hsb₁.extBut _ _ hDC (Heap.get?_push_of_some _ ?_)
    rw [← hH2, hD]
    exact Heap.get?_push_size _ rfl
  -- the block's context stands
  have hcl : ∀ x c, (closOf X.env.cells scope.names []).lookup x = some c → X.env.cells.lookup x = some c := fun x c e =>
    closOf_some (fun y hy hk => I.ok.has y.1 (S.free y hy hk)) (fun y c z => by simp at z) e
  have okC : (cxComp X N0 T scope C fp s H).Ok := by
    refine ⟨I.ok.mod, ?_, I.ok.glob, I.ok.blt, ?_, fun x y c e1 e2 => I.ok.inj x y c (hcl x c e1) (hcl y c e2), fun x hx => ?_, fun x c z _ => (by cases z), I.ok.hd, I.ok.frames, .inl rfl, fun b hb => ⟨?_, fun x c e => (hf b hb).2.2.2.2.1 x c (hcl x c e)⟩,
      I.bs, ?_, fun b o e hb => ?_, fun b hb z => ?_, I.stack, I.stkFree⟩
    · show (relabel scope X.env).kind = .function
      exact S.kind
    · show s.heap.objs.size ≤ C
      omega
    · have hx' : (relabel scope X.env).names.lookup x = some .cell ∨ (relabel scope X.env).names.lookup x = some .free := hx
      have m : (x, NameKind.free) ∈ scope.names := by
        rcases hx' with z | z
        · exact relabel_free S.nocell z (.inl rfl)
        · exact relabel_free S.nocell z (.inr rfl)
      exact closOf_has m
    · show b ≠ C
      obtain ⟨o, e, _⟩ := Tn.obj 0 _ st b hb
      exact neC b o e
    · exact Nat.le_trans I.ok.bsz I.sz
    · obtain ⟨_, _, _, z, _⟩ := hf b hb
      rcases z with z | z
      · exact I.ok.noex b o e z
      · exact absurd (Nat.lt_of_lt_of_le (Nat.lt_of_lt_of_le (Heap.lt_size e) I.ok.bsz) z) (Nat.lt_irrefl _)
    · obtain ⟨_, z1, z2, _⟩ := hf b hb
      rcases List.mem_cons.mp (I.stkSub b z) with q | q
      · exact z1 q
      · exact z2 q
  have I1 : Inv (cxComp X N0 T scope C fp s H) [] (σ ++ List.replicate T.length none) (upd H D (.lst [])) { s with heap := h₁, toks := s.toks + ([] : List (Str × Value)).length } := by
    refine ⟨okC, rfl, I.bare, Un.laid (h := s.heap) old (by omega) hHD, ⟨_, hns₁, fun i x v e1 e2 e3 => ?_⟩, fun x c e => ?_, ?_, fun x c e => ?_, fun p hp => (by simp [cxComp] at hp), I.hok.laid old (by omega) ?_, ?_⟩
    · have e1' : (N0 ++ T)[i]? = some x := e1
      have hl := I.len
      have hl0 := S.len0
      have hi : i < σ.length := by
        rcases Nat.lt_or_ge i σ.length with z | z
        · exact z
        · rw [List.getElem?_append_right z] at e2
          rw [List.getElem?_replicate] at e2
          split at e2 <;> cases e2
      rw [List.getElem?_append_left hi] at e2
      rw [List.getElem?_append_left (by omega)] at e1'
      have hxN : x ∈ N0 := List.mem_of_getElem? e1'
      have e3' : (relabel scope X.env).names.lookup x = some .local ∨ (relabel scope X.env).names.lookup x = some .cell ∨ (relabel scope X.env).names.lookup x = some .free := e3
      have fr : (relabel scope X.env).names.lookup x = some .cell ∨ (relabel scope X.env).names.lookup x = some .free := by
        rcases e3' with z | z | z
        · exfalso
          -- a local of the block is no tracked name
          have key : ∀ (names : List (Str × NameKind)), (names.map fun (n, k) => if (k == NameKind.free && X.env.scope.kind == .function && X.env.kindOf n == some .cell) then (n, NameKind.cell) else (n, k)).lookup x = some .local → (x, NameKind.local) ∈ names := by
            intro names
            induction names with
            | nil => intro z; simp at z
            | cons y r ih =>
              obtain ⟨n, k⟩ := y
              intro z
              rw [List.map_cons] at z
              dsimp only at z
              by_cases hfk : (k == NameKind.free && X.env.scope.kind == .function && X.env.kindOf n == some .cell) = true
              · rw [if_pos hfk, List.lookup_cons] at z
                cases hx : (x == n) with
                | true => rw [hx] at z; cases z
                | false => rw [hx] at z; exact List.mem_cons_of_mem _ (ih z)
              · rw [if_neg hfk, List.lookup_cons] at z
                cases hx : (x == n) with
                | true =>
                  rw [hx] at z
                  have ek : k = .local := Option.some.inj z
                  have en : x = n := by simpa using hx
                  rw [ek, en]; exact List.mem_cons_self
                | false => rw [hx] at z; exact List.mem_cons_of_mem _ (ih z)
          exact S.apart (x, .local) (key _ z) rfl hxN
        · exact .inl z
        · exact .inr z
      have m : (x, NameKind.free) ∈ scope.names := by
        rcases fr with z | z
        · exact relabel_free S.nocell z (.inl rfl)
        · exact relabel_free S.nocell z (.inr rfl)
      have kX := S.free _ m rfl
      obtain ⟨mm, hn, hl'⟩ := I.loc
      obtain ⟨u, r, lk⟩ := hl' i x v (S.same i x _ e1' m) e2 (.inr kX)
      refine ⟨u, r, .inr ⟨fr, ?_⟩⟩
      rcases lk with ⟨z, _⟩ | ⟨_, c, ec, cc⟩
      · rcases kX with q | q
        · rw [q] at z; cases z
        · rw [q] at z; cases z
      · obtain ⟨c', ec'⟩ := closOf_has (cells := X.env.cells) (acc := []) m
        have := hcl x c' ec'
        rw [ec] at this; cases this
        exact ⟨c, ec', cc.keeps old⟩
    · obtain ⟨v, z⟩ := I.cell x c (hcl x c e)
      exact ⟨v, z.keeps old⟩
    · show upd H D (.lst []) C = none
      rw [upd_ne (Ne.symm hDC)]; exact hHC
    · have q := I.freeC x c (hcl x c e)
      obtain ⟨v, o, z, _⟩ := I.cell x c (hcl x c e)
      rw [upd_ne (neD c o z)]; exact q
    · exact ⟨Nat.zero_le _, [], 0, .nil, dat⟩
    · show (σ ++ List.replicate T.length none).length = (N0 ++ T).length
      rw [List.length_append, List.length_append, List.length_replicate, I.len, S.len0]
  have st1 : tn 0 h₁ := Tn.keep _ _ _ st fun b _ o e => old b o e
  have fp1 : ∀ {H' : Hp}, (∀ b ∈ fp, H' b = none) → ∀ b ∈ fp, FpOk (cxComp X N0 T scope C fp s H) [] H' b := fun hn b hb =>
    ⟨hn b hb, (okC.exf b hb).1, okC.exfs b hb, .inl hb, (okC.exf b hb).2, fun p hp => (by simp [cxComp] at hp)⟩
  have fp0 : ∀ b ∈ fp, upd H D (.lst []) b = none := fun b hb => by
    obtain ⟨o, e, _⟩ := Tn.obj 0 _ st b hb
    rw [upd_ne (neD b o e)]; exact (hf b hb).1
  obtain ⟨W, ⟨m0, w0⟩, turn⟩ := h D hHD
  have loop : ∀ s₃ : Shared, s₃ = { s with heap := h₁, toks := s.toks + ([] : List (Str × Value)).length } →
      codeAny (model X.prog X.w) X.A (.compLoop (.ListComp elt [⟨tg, iter, ifs, 0⟩] scope pos) 0 (.ref it) (.ref D) (compEnvC scope (closOf X.env.cells scope.names []) C X.env)) (RR (.ref D) C) s₃ := by
    rintro s₃ rfl
    refine codeAny_compLoop_go (fun n s' => ∃ i H' ys, Inv (cxComp X N0 T scope C fp s H) [] (σ ++ List.replicate T.length none) H' s' ∧ tn i s'.heap ∧ (∀ b ∈ fp, H' b = none) ∧ W i n ys H') ?_ m0 ⟨0, _, [], I1, st1, fp0, w0⟩
    rintro n s3 ⟨i, H3, ys, I3, st3, fr3, w3⟩
    rcases turn i n ys H3 w3 with ⟨stop, qn⟩ | ⟨go, step⟩
    · refine thn (Tn.done (cxComp X N0 T scope C fp s H) rfl rfl rfl hc i [] s3 _ H3 (fun _ _ => False) I3 (fp1 fr3) st3 stop) fun r s4 ⟨hr, I4⟩ => ?_
      subst hr
      obtain ⟨m, hm, _⟩ := I4.loc
      have hch : ∀ b ∈ fp, (b ∈ X.ex ∨ X.s₀.heap.objs.size ≤ b) ∧ b ≠ X.env.locals ∧ (∀ x c, X.env.cells.lookup x = some c → c ≠ b) ∧ ∀ p ∈ X.pn ++ pins, p.1 ≠ b := fun b hb =>
        ⟨(hf b hb).2.2.2.1, (hf b hb).2.1, (hf b hb).2.2.2.2.1, (hf b hb).2.2.2.2.2⟩
      have u4 : Un (frs X.stack) fp H H3 s.heap s4.heap := I4.base
      refine hRR D C s4 H3 m hm I4.free (Ne.symm (Nat.ne_of_lt (Nat.lt_trans (hD ▸ I.lt) hDlt))) (fun x c e => ?_) (fun p hp => ?_) (Nat.le_trans (hD ▸ I.sz) (Nat.le_of_lt hDlt)) (I.call' (ch := fp) I4.os u4 I4.hok I4.bare hch) (fun h' hs' => ?_) qn
      · obtain ⟨v, o, q, _⟩ := I.cell x c e
        exact neC c o q
      · exact neC _ _ (I.pin p hp).1
      · refine I.call' (ch := fp) (s' := { s4 with heap := h' }) I4.os ⟨fun b o q n' hb hx => (hs'.2 b (neC b o q)).trans (u4.keep b o q n' hb hx), fun b o q n' hb hx => ?_, u4.free, fun b o q hx => ?_, u4.tups, u4.frzs, u4.tbls⟩ (I4.hok.sameBut hs' I4.free) I4.bare hch
        · obtain ⟨sl, e⟩ := u4.slot b o q n' hb hx
          exact ⟨sl, (hs'.2 b (neC b o q)).trans e⟩
        · obtain ⟨o', e⟩ := u4.there b o q hx
          exact ⟨o', (hs'.2 b (neC b o q)).trans e⟩
    · refine thn (Tn.item (cxComp X N0 T scope C fp s H) rfl rfl rfl hc i [] s3 _ H3 (fun _ _ => False) I3 (fp1 fr3) st3 go) fun r s4 ⟨u, hr, h4⟩ => ?_
      subst hr
      refine thn h4 fun _ s5 ⟨x, H5, I5, r5, y5, st5, fr5⟩ => ?_
      have I5' := I5.pinned (fp1 fr5) (Tn.obj _ _ st5)
      refine thn (hg C fp s H _ s5 _ H5 x u _ I5' r5 (hfr _ _ _ _ (step x H5 y5))) fun _ s6 ⟨σ6, H6, I6, q6, l6, k6⟩ => ?_
      have back : ∀ {H7 : Hp} {s7 : Shared}, Inv (cxComp X N0 T scope C fp s H) ([] ++ pinsAt fp s5.heap) σ6 H7 s7 → (∀ {m' : Nat} {zs : List V}, m' < n → W (i + 1) m' zs H7 → ∃ m, m < n ∧ ∃ i H' ys, Inv (cxComp X N0 T scope C fp s H) [] (σ ++ List.replicate T.length none) H' s7 ∧ tn i s7.heap ∧ (∀ b ∈ fp, H' b = none) ∧ W i m ys H') := fun {H7 s7} I7 {m' zs} hm w7 => by
        refine ⟨m', hm, i + 1, H7, zs, I7.unpinned.weak (by rw [l6]) (fun j v e => ?_), Tn.keep _ _ _ st5 fun b hb o e => (I7.pin (b, o) (List.mem_append_right _ (List.mem_append_right _ (mem_pinsAt hb e)))).1, fun b hb => ?_, w7⟩
        · have hj : j < σ.length := by
            rcases Nat.lt_or_ge j σ.length with z | z
            · exact z
            · rw [List.getElem?_append_right z, List.getElem?_replicate] at e
              split at e <;> cases e
          rw [k6 j (by rw [← I.len]; exact hj)]
          exact e
        · obtain ⟨o, e, d⟩ := Tn.obj _ _ st5 b hb
          exact (I7.pin (b, o) (List.mem_append_right _ (List.mem_append_right _ (mem_pinsAt hb e)))).2.1
      refine thn (hi C fp s H _ s6 σ6 H6 _ I6 q6) fun b s7 ⟨H7, I7, q7⟩ => ?_
      cases b with
      | false =>
        obtain ⟨m', hm, w7⟩ := (show ∃ m', m' < n ∧ W (i + 1) m' ys H7 from by simpa using q7)
        exact back I7 hm w7
      | true =>
        rw [if_pos rfl] at q7
        refine thn (he C fp s H _ s7 σ6 H7 _ I7 q7) fun v s8 ⟨y, H8, I8, r8, hD8, hz, m', hm, w8⟩ => ?_
        refine thn (mt_append (X := cxComp X N0 T scope C fp s H) _ s8 σ6 H8 (.ref D) [y] (.ref D) [v] (fun _ H9 => H9 = upd H8 D (.lst (ys ++ [y]))) I8 rfl (.cons r8 .nil) ⟨D, ys, y, rfl, rfl, hD8, hz, rfl⟩) fun v9 s9 ⟨y9, H9, I9, _, e9⟩ => ?_
        subst e9
        exact back I9 hm w8
  exact codeAny_compStart_list (loop _ rfl) (Tn.self X.A 0 _ _ _ st1 (loop _ rfl))

/-- [elt for tg in iter] -/
theorem pe_comp (S : CompScope X N0 T scope) (hc : X.calm = true) (hI : PI X tg iter wi)
    (hg : ∀ C fp s H, PG (cxComp X N0 T scope C fp s H) tg g) (hfr : GFr g X.N.length) (hi : ∀ C fp s H, PIfs (cxComp X N0 T scope C fp s H) ifs tc) (he : ∀ C fp s H, PE (cxComp X N0 T scope C fp s H) elt te)
    (hs : ∀ x, foldedSetIterable iter X.env x = pure x := by intro _; rfl) : PE X (.ListComp elt [⟨tg, iter, ifs, 0⟩] scope pos) (tComp wi g tc te T.length) := by
  intro pins s σ H Q I h
  rw [eval_ListComp]
  refine wpAny_comprehension_free (use := none) rfl hs (closureFor_eq fun x hx hk => I.ok.has x.1 (S.free x hx hk)) S.kind S.names (thn (hI pins s σ H _ I h) fun v s1 h1 => thn h1 fun itv s2 h2 => ?_)
  obtain ⟨it, fp, tn, J, H2, e, I2, Tn, st2, f2, q2⟩ := h2
  subst e
  refine comp_core (RR := fun acc C => compPost (model X.prog X.w) X.A X.xe none (EP X pins σ Q) acc C) S hc hg hfr hi he I2 Tn st2 f2 q2 ?_
  intro D C s' H' m hn hC hL hcells hpins hfresh I' hI' q
  exact ⟨m, hn, fun h' hs' => ⟨.ref D, H', hI' h' hs', rfl, q⟩⟩

/-- x = [elt for tg in iter] -/
theorem ps_setcomp {i : Nat} {x : Str} {pos' spos : Pos} (S : CompScope X N0 T scope) (hc : X.calm = true) (hN : X.N.Nodup) (hi' : X.N[i]? = some x) (hx : X.env.scope.names.lookup x = some .local) (hI : PI X tg iter wi)
    (hg : ∀ C fp s H, PG (cxComp X N0 T scope C fp s H) tg g) (hfr : GFr g X.N.length) (hi : ∀ C fp s H, PIfs (cxComp X N0 T scope C fp s H) ifs tc) (he : ∀ C fp s H, PE (cxComp X N0 T scope C fp s H) elt te)
    (hsw : swapsWith (.ListComp elt [⟨tg, iter, ifs, 0⟩] scope pos) (some (.Name x pos')) spos.line X.env = pure true := by rfl)
    (hs : ∀ x, foldedSetIterable iter X.env x = pure x := by intro _; rfl) : PS X (.Assign [.Name x pos'] (.ListComp elt [⟨tg, iter, ifs, 0⟩] scope pos) spos) (tAsg (tComp wi g tc te T.length) (gName i)) := by
  intro pins s σ H D I h
  rw [exec_Assign_Name_used _ _ _ _ hsw]
  refine wpAny_bind (wpAny_standAt (wpAny_bind ?_))
  show wpAny _ X.A (do let _ ← comprehension (.ListComp elt [⟨tg, iter, ifs, 0⟩] scope pos) scope X.env _ (newList []) false (eval iter X.env) (some (assign (.Name x pos') X.env))) _ _ s
  refine wpAny_bind (wpAny_mono (wpAny_comprehension_free (use := some (assign (.Name x pos') X.env)) (Q := fun _ s' => SP X pins D .next s') rfl hs (closureFor_eq fun x hx hk => I.ok.has x.1 (S.free x hx hk)) S.kind S.names
    (thn (hI pins s σ H _ I h) fun v s1 h1 => thn h1 fun itv s2 h2 => ?_)) (fun _ s' hq => wpAny_pure (wpAny_pure hq)) fun _ _ e => e)
  obtain ⟨it, fp, tn, J, H2, e, I2, Tn, st2, f2, q2⟩ := h2
  subst e
  refine comp_core (RR := fun acc C => compPost (model X.prog X.w) X.A X.xe (some (assign (.Name x pos') X.env)) (fun _ s' => SP X pins D .next s') acc C) S hc hg hfr hi he I2 Tn st2 f2 q2 ?_
  intro L C s' H' m hn hC hL hcells hpins hfresh I' hI' q
  show wpAny _ X.A (assign (.Name x pos') X.env (.ref L)) _ _ _
  refine wpAny_assign_Name (store_ok2 (v := .ref L) I' hN hi' (.inl hx) rfl (fun s'' I'' ⟨a, hsa, ha⟩ => ?_) (.inr hx))
  have hCa : C ≠ a := by
    rintro rfl
    rcases ha with z | z
    · exact hL z
    · exact hcells x C z rfl
  refine ⟨m, hn.sameBut hsa hCa, fun h' hs' => ?_⟩
  exact ⟨σ.set i (some (.ref L)), H', I''.turned (t' := s''.toks) (fun b o hb e => (hs'.2 b hb).trans e) hC hL (.inr hfresh) hcells hpins, q⟩
end
end L2

set_option Elab.async false
set_option linter.all false
set_option maxRecDepth 100000
namespace L2
open PySem PySem.Spec PyProof.Rows

/-! ### items of a list of values, the other way about -/
theorem Vals.of : ∀ {xs : List V} {us : List Value} {i : Nat} {u : Value}, Vals xs us → us[i]? = some u → ∃ x, xs[i]? = some x ∧ RelV x u
  | _, _, 0, u, .cons r _, e => ⟨_, rfl, by simp at e; subst e; exact r⟩
  | _, _, i + 1, u, .cons _ rr, e => by
    obtain ⟨x, hx, r⟩ := Vals.of (i := i) rr (by simpa using e)
    exact ⟨x, by simpa using hx, r⟩
theorem vals_strs : ∀ {ss : List Str} {us : List Value}, Vals (ss.map V.str) us → StrsAre us ss
  | [], _, .nil => .nil
  | s :: ss, _, .cons r rr => by
    obtain ⟨t, rfl⟩ := r
    exact .cons s t (vals_strs rr)
theorem strs_vals : ∀ {us : List Value} {ss : List Str}, StrsAre us ss → Vals (ss.map V.str) us
  | _, _, .nil => .nil
  | _, _, .cons y t h => .cons ⟨t, rfl⟩ (strs_vals h)

/-! ### all, any of a list of bools -/
section
variable {X : Cx}
/-! ### isinstance -/
/-- the built-in type that a value is of -/
def tyName (H : Hp) : V → Option String
  | .non => some "NoneType"
  | .bl _ => some "bool"
  | .int _ => some "int"
  | .str _ => some "str"
  | .ref a => match H a with
    | some (.lst _) => some "list"
    | some (.frz _ (.lst _)) => some "list"
    | some (.tup _) => some "tuple"
    | some (.dK _) => some "dict"
    | some (.dT _) => some "dict"
    | _ => none
  | _ => none
theorem tyOf_name {K : PySem.W.Frag} {H : Hp} : ∀ {x : V} {T : String}, tyName H x = some T → TyOf K H x (.type T)
  | .non, T, h => by cases h; exact .non
  | .bl b, T, h => by cases h; exact .bl b
  | .int i, T, h => by cases h; exact .int i
  | .str y, T, h => by cases h; exact .str y
  | .byt _, T, h => by cases h
  | .flt _, T, h => by cases h
  | .ty _, T, h => by cases h
  | .ref a, T, h => by
    cases e : H a with
    | none => simp [tyName, e] at h
    | some o =>
      cases o with
      | lst xs => simp [tyName, e] at h; subst h; exact .lst e
      | tup xs => simp [tyName, e] at h; subst h; exact .tup e
      | dK xs => simp [tyName, e] at h; subst h; exact .dK e
      | dT xs => simp [tyName, e] at h; subst h; exact .dT e
      | frz ob u =>
        cases u with
        | lst xs => simp [tyName, e] at h; subst h; exact .frz e
        | _ => simp [tyName, e] at h
      | _ => simp [tyName, e] at h
def isT (T C : String) : Bool := T == C || (T == "bool" && C == "int")
theorem kit_name (K : PySem.W.Frag) {T C : String} (hT : T ∈ ["NoneType", "bool", "int", "str", "list", "tuple", "dict"]) (hC : C ∈ ["bool", "int", "str", "list", "tuple"]) : PySem.W.kitOne K (.type T) (.type C) = some (isT T C) := by
  simp only [List.mem_cons, List.mem_nil_iff, or_false] at hT hC
  rcases hT with rfl | rfl | rfl | rfl | rfl | rfl | rfl <;> rcases hC with rfl | rfl | rfl | rfl | rfl <;> (with_unfolding_all rfl)
theorem tyName_mem {H : Hp} {x : V} {T : String} (h : tyName H x = some T) : T ∈ ["NoneType", "bool", "int", "str", "list", "tuple", "dict"] := by
  cases x with
  | ref a =>
    cases e : H a with
    | none => simp [tyName, e] at h
    | some o =>
      cases o with
      | frz ob u => cases u <;> simp [tyName, e] at h <;> subst h <;> decide
      | _ => simp [tyName, e] at h <;> subst h <;> decide
  | _ => first | (cases h; decide) | cases h
def rIsT : List V → Hp → VK → Prop := fun xs H Q => ∃ (x : V) (T C : String), xs = [x, .ty C] ∧ tyName H x = some T ∧ C ∈ ["bool", "int", "str", "list", "tuple"] ∧ Q (.bl (isT T C)) H
theorem rIsT_at {H : Hp} {Q : VK} (x : V) (C : String) : rIsT [x, .ty C] H Q = ∃ T, tyName H x = some T ∧ C ∈ ["bool", "int", "str", "list", "tuple"] ∧ Q (.bl (isT T C)) H :=
  propext ⟨fun ⟨_, T, _, e, q⟩ => by cases e; exact ⟨T, q⟩, fun ⟨T, q⟩ => ⟨x, T, C, rfl, q⟩⟩
theorem call_isT : CallR X (.builtin "isinstance") rIsT := by
  intro pins s σ H xs us Q I r h
  obtain ⟨x, T, C, rfl, hT, hC, q⟩ := h
  obtain ⟨u, w', rfl, ru, rw'⟩ := vals2 r
  cases rw'
  exact isinst_ok I ru (tyOf_name hT) (kit_name X.K (tyName_mem hT) hC) fun tk => ⟨.bl (isT T C), H, I.tok tk, rfl, q⟩

/-! ### sep.join(texts) -/
/-! ### a loop over a text's signs -/
end

/-! ### the turns of a comprehension, of a loop, over what is walked -/
/-- a for's turns -/
def forW (J : It) (g : TG) (tb : TS) (D : Ends) (σ : St) (H : Hp) : Prop := ∃ W : Nat → Nat → St → Hp → Prop, (∃ m, W 0 m σ H) ∧ ∀ i m σ H, W i m σ H →
  (J.stop i H ∧ D.nx σ H) ∨ (J.go i H ∧ ∃ N : St → Hp → Prop, (∀ σ' H', N σ' H' → ∃ m', m' < m ∧ W (i + 1) m' σ' H') ∧ ∀ x H', J.yld i H x H' → g x σ H' fun σ2 H2 => tb { D with nx := N, ct := N, bk := D.nx } σ2 H2)
theorem tFor_at (wi : TI) (g : TG) (tb : TS) (D : Ends) (σ : St) (H : Hp) : tFor wi g tb D σ H = wi σ H fun J H1 => forW J g tb D σ H1 := rfl
/-- n turns; what is yielded at the i-th by this heap -/
theorem forW_by {J : It} {g : TG} {tb : TS} {D : Ends} {σ : St} {H : Hp} (n : Nat) (Pv : Nat → St → Hp → Prop) (h0 : Pv 0 σ H) (hgo : ∀ i σ H, i < n → Pv i σ H → J.go i H) (hst : ∀ σ H, Pv n σ H → J.stop n H)
    (hs : ∀ i σ H x H', i < n → Pv i σ H → J.yld i H x H' → g x σ H' fun σ2 H2 => tb { D with nx := Pv (i + 1), ct := Pv (i + 1), bk := D.nx } σ2 H2) (hd : ∀ σ H, Pv n σ H → D.nx σ H) : forW J g tb D σ H := by
  refine ⟨fun i m σ H => m = n - i ∧ i ≤ n ∧ Pv i σ H, ⟨n, by simp, Nat.zero_le _, h0⟩, ?_⟩
  rintro i m σ H ⟨rfl, hi, p⟩
  by_cases hlt : i < n
  · exact .inr ⟨hgo i σ H hlt p, Pv (i + 1), fun σ' H' p' => ⟨n - (i + 1), by omega, rfl, hlt, p'⟩, fun x H' y => hs i σ H x H' hlt p y⟩
  · have e : i = n := by omega
    subst e
    exact .inl ⟨hst σ H p, hd σ H p⟩
theorem forW_list {K : PySem.W.Frag} {a : Addr} {xs : List V} {g : TG} {tb : TS} {D : Ends} {σ : St} {H : Hp} (Pv : Nat → St → Hp → Prop) (h0 : Pv 0 σ H) (hl : ∀ i σ H, i ≤ xs.length → Pv i σ H → SqL K H a xs)
    (hs : ∀ i x σ H, xs[i]? = some x → Pv i σ H → g x σ H fun σ2 H2 => tb { D with nx := Pv (i + 1), ct := Pv (i + 1), bk := D.nx } σ2 H2) (hd : ∀ σ H, Pv xs.length σ H → D.nx σ H) : forW (Itl K a) g tb D σ H :=
  for_list Pv h0 hl hs hd
theorem forW_range {lo : Int} {n : Nat} {g : TG} {tb : TS} {D : Ends} {σ : St} {H : Hp} (Pv : Nat → St → Hp → Prop) (h0 : Pv 0 σ H)
    (hs : ∀ i σ H, i < n → Pv i σ H → g (.int (lo + i)) σ H fun σ2 H2 => tb { D with nx := Pv (i + 1), ct := Pv (i + 1), bk := D.nx } σ2 H2) (hd : ∀ σ H, Pv n σ H → D.nx σ H) : forW (Itr lo n) g tb D σ H :=
  for_range Pv h0 hs hd
/-- behind the i-th item y of n: it goes onto the list at D -/
def CStep (n i : Nat) (Pv : Nat → List V → Hp → Prop) (D : Addr) (ys : List V) (y : V) (H : Hp) : Prop :=
  H D = some (.lst ys) ∧ ys.length < sizeLine ∧ ∃ m', m' < n - i ∧ (m' = n - (i + 1) ∧ i + 1 ≤ n ∧ Pv (i + 1) (ys ++ [y]) (upd H D (.lst (ys ++ [y]))))
theorem cstep {n i : Nat} {Pv : Nat → List V → Hp → Prop} {D : Addr} {ys : List V} {y : V} {H : Hp} (hi : i < n) (hlen : ys.length = i) (hz : n ≤ sizeLine) (h1 : H D = some (.lst ys)) (h2 : Pv (i + 1) (ys ++ [y]) (upd H D (.lst (ys ++ [y])))) : CStep n i Pv D ys y H :=
  ⟨h1, by omega, n - (i + 1), by omega, rfl, hi, h2⟩
def compK (n i : Nat) (Pv : Nat → List V → Hp → Prop) (D : Addr) (ys : List V) (te : TE) (σ : St) (H : Hp) : Prop :=
  if true = true then te σ H (CStep n i Pv D ys) else ∃ m', m' < n - i ∧ (m' = n - (i + 1) ∧ i + 1 ≤ n ∧ Pv (i + 1) ys H)
theorem compK_at {n i : Nat} {Pv : Nat → List V → Hp → Prop} {D : Addr} {ys : List V} {te : TE} {σ : St} {H : Hp} : compK n i Pv D ys te σ H = te σ H (CStep n i Pv D ys) := by
  unfold compK; rw [if_pos rfl]
/-- a comprehension without a test: n turns -/
theorem compW_by {J : It} {g : TG} {te : TE} {nT : Nat} {σ : St} {D : Addr} {Q : VK} {H : Hp} (n : Nat) (Pv : Nat → List V → Hp → Prop) (h0 : Pv 0 [] H) (hgo : ∀ i ys H, i < n → Pv i ys H → J.go i H) (hst : ∀ ys H, Pv n ys H → J.stop n H)
    (hs : ∀ i ys H x H', i < n → Pv i ys H → J.yld i H x H' → g x (σ ++ List.replicate nT none) H' (compK n i Pv D ys te))
    (hd : ∀ ys H, Pv n ys H → Q (.ref D) H) : compW J g tYes te nT σ D Q H := by
  refine ⟨fun i m ys H => m = n - i ∧ i ≤ n ∧ Pv i ys H, ⟨n, by simp, Nat.zero_le _, h0⟩, ?_⟩
  rintro i m ys H ⟨rfl, hi, p⟩
  by_cases hlt : i < n
  · exact .inr ⟨hgo i ys H hlt p, fun x H' y => hs i ys H x H' hlt p y⟩
  · have e : i = n := by omega
    subst e
    exact .inl ⟨hst ys H p, hd ys H p⟩
theorem compW_list {K : PySem.W.Frag} {a : Addr} {xs : List V} {g : TG} {te : TE} {nT : Nat} {σ : St} {D : Addr} {Q : VK} {H : Hp} (Pv : Nat → List V → Hp → Prop) (h0 : Pv 0 [] H) (hl : ∀ i ys H, i ≤ xs.length → Pv i ys H → SqL K H a xs)
    (hs : ∀ i ys H x, xs[i]? = some x → i < xs.length → Pv i ys H → g x (σ ++ List.replicate nT none) H (compK xs.length i Pv D ys te))
    (hd : ∀ ys H, Pv xs.length ys H → Q (.ref D) H) : compW (Itl K a) g tYes te nT σ D Q H := by
  refine compW_by xs.length Pv h0 (fun i ys H hi p => ⟨xs, xs[i], hl i ys H (Nat.le_of_lt hi) p, by simp [hi]⟩) (fun ys H p => ⟨xs, hl _ ys H (Nat.le_refl _) p, Nat.le_refl _⟩) (fun i ys H x H' hi p yl => ?_) hd
  obtain ⟨rfl, y⟩ := yl
  exact hs i ys _ x (y xs (hl i ys _ (Nat.le_of_lt hi) p)) hi p
theorem compW_range {lo : Int} {n : Nat} {g : TG} {te : TE} {nT : Nat} {σ : St} {D : Addr} {Q : VK} {H : Hp} (Pv : Nat → List V → Hp → Prop) (h0 : Pv 0 [] H)
    (hs : ∀ i ys H, i < n → Pv i ys H → g (.int (lo + i)) (σ ++ List.replicate nT none) H (compK n i Pv D ys te))
    (hd : ∀ ys H, Pv n ys H → Q (.ref D) H) : compW (Itr lo n) g tYes te nT σ D Q H := by
  refine compW_by n Pv h0 (fun i ys H hi p => hi) (fun ys H p => Nat.le_refl _) (fun i ys H x H' hi p yl => ?_) hd
  obtain ⟨rfl, rfl⟩ := yl
  exact hs i ys _ hi p
end L2

set_option Elab.async false
set_option linter.all false
set_option maxRecDepth 100000
namespace L2
open PySem PySem.Spec PyProof.Rows

/-! ### readings, applied -/
/-- the rest of a block, not yet read -/
def Rest (u : TS) (D : Ends) (σ : St) (H : Hp) : Prop := u D σ H
section
variable {D : Ends} {σ : St} {H : Hp} {Q : VK} {B : Bool → Hp → Prop} {L : List V → Hp → Prop} {R : It → Hp → Prop} {G : St → Hp → Prop}
theorem tSeq_at (t u : TS) : tSeq t u D σ H = t { D with nx := Rest u D } σ H := rfl
theorem rest_at (u : TS) : Rest u D σ H = u D σ H := rfl
theorem tNext_at : tNext D σ H = D.nx σ H := rfl
theorem tIfS_at (c : TT) (t u : TS) : tIfS c t u D σ H = c σ H fun b H1 => if b = true then t D σ H1 else u D σ H1 := rfl
theorem tRet_at (t : TE) : tRet t D σ H = t σ H D.rt := rfl
theorem tDrop_at (t : TE) : tDrop t D σ H = t σ H fun _ H1 => D.nx σ H1 := rfl
theorem tAsg_at (t : TE) (g : TG) : tAsg t g D σ H = t σ H fun x H1 => g x σ H1 D.nx := rfl
theorem gName_at (i : Nat) (v : V) : gName i v σ H G = G (σ.set i (some v)) H := rfl
theorem gNil_at (vs : List V) : gNil vs σ H G = (vs = [] ∧ G σ H) := rfl
theorem gCons_at (t : TG) (u : TGs) (vs : List V) : gCons t u vs σ H G = ∃ v r, vs = v :: r ∧ t v σ H fun σ' H' => u r σ' H' G := rfl
theorem gTup_at (K : PySem.W.Frag) (n : Nat) (t : TGs) (v : V) : gTup K n t v σ H G = ∃ a xs, v = .ref a ∧ SqT K H a xs ∧ xs.length = n ∧ t xs σ H G := rfl
theorem gSub_at (to ti : TE) (t : TSet) (v : V) : gSub to ti t v σ H G = to σ H fun o H1 => ti σ H1 fun i H2 => t o i v H2 fun H3 => G σ H3 := rfl
theorem tVar_at (i : Nat) : tVar i σ H Q = ∃ v, σ[i]? = some (some v) ∧ Q v H := rfl
theorem tC_at (v : V) : tC v σ H Q = Q v H := rfl
theorem tOp_at (r : R2) (ta tb : TE) : tOp r ta tb σ H Q = ta σ H fun x H1 => tb σ H1 fun y H2 => r x y H2 Q := rfl
theorem tTest_at (t : TE) : tTest t σ H B = t σ H fun x H' => ∃ k, x = .bl k ∧ B k H' := rfl
theorem tB_at (t : TE) : tB t σ H B = t σ H fun x H' => ∃ k, x = .bl k ∧ B k H' := rfl
theorem tAnd_at (t u : TT) : tAnd t u σ H B = t σ H fun c H1 => if c = true then u σ H1 B else B false H1 := rfl
theorem tOr_at (t u : TT) : tOr t u σ H B = t σ H fun c H1 => if c = true then B true H1 else u σ H1 B := rfl
theorem tNot_at (t : TT) : tNot t σ H B = t σ H fun c H1 => B (!c) H1 := rfl
theorem tAndV_at (ta tb : TE) : tAndV ta tb σ H Q = ta σ H fun x H1 => ∃ c, x = .bl c ∧ if c = true then tb σ H1 Q else Q (.bl false) H1 := rfl
theorem tIf_at (t : TT) (ta tb : TE) : tIf t ta tb σ H Q = t σ H fun c H1 => if c = true then ta σ H1 Q else tb σ H1 Q := rfl
theorem tCB_at (r : List V → Hp → VK → Prop) (t : TA) : tCB r t σ H Q = t σ H fun vs H1 => r vs H1 Q := rfl
theorem tCons_at (ta : TE) (tr : TA) : tCons ta tr σ H L = ta σ H fun x H1 => tr σ H1 fun xs H2 => L (x :: xs) H2 := rfl
theorem tNil_at : tNil σ H L = L [] H := rfl
theorem tTup_at (t : TA) : tTup t σ H Q = t σ H fun xs H1 => xs.length ≤ sizeLine ∧ ∀ p, H1 p = none → Q (.ref p) (upd H1 p (.tup xs)) := rfl
theorem tLst_at (t : TA) : tLst t σ H Q = t σ H fun xs H1 => xs.length ≤ sizeLine ∧ ∀ p, H1 p = none → Q (.ref p) (upd H1 p (.lst xs)) := rfl
theorem tCall_at (sp : Sp) (dvs : List V) (E : XK) (t : TA) : tCall sp dvs E t σ H Q = t σ H fun vs H1 => sp (vs ++ dvs) H1 Q E := rfl
theorem tBM_at (K : PySem.W.Frag) (T : String) (r : V → List V → Hp → VK → Prop) (to : TE) (t : TA) : tBM K T r to t σ H Q = to σ H fun x H1 => tyV K T x H1 ∧ t σ H1 fun xs H2 => r x xs H2 Q := rfl
theorem tBM0_at (K : PySem.W.Frag) (T : String) (r : V → List V → Hp → VK → Prop) (to : TE) : tBM0 K T r to σ H Q = to σ H fun x H1 => tyV K T x H1 ∧ r x [] H1 Q := rfl
theorem tSl_at (r : V → Option Int → Option Int → Hp → VK → Prop) (te : TE) (tl th : TO) : tSl r te tl th σ H Q = te σ H fun x H1 => tl σ H1 fun l H2 => th σ H2 fun u H3 => r x l u H3 Q := rfl
theorem tPart_at (t : TE) (O : Option Int → Hp → Prop) : tPart t σ H O = t σ H fun x H1 => ∃ i, x = .int i ∧ O (some i) H1 := rfl
theorem tNoPart_at (O : Option Int → Hp → Prop) : tNoPart σ H O = O none H := rfl
theorem tComp_at (wi : TI) (g : TG) (tc : TT) (te : TE) (nT : Nat) : tComp wi g tc te nT σ H Q = wi σ H fun J H1 => ∀ D, H1 D = none → compW J g tc te nT σ D Q (upd H1 D (.lst [])) := rfl
theorem tYes_at : tYes σ H B = B true H := rfl
theorem iList_at (K : PySem.W.Frag) (tl : TE) : iList K tl σ H R = tl σ H fun x H1 => ∃ a, x = .ref a ∧ (∃ xs, SqL K H1 a xs) ∧ R (Itl K a) H1 := rfl
theorem iRng1_at (ta : TA) : iRng1 ta σ H R = ta σ H fun vs H1 => ∃ j : Int, vs = [.int j] ∧ -(2 ^ 62) ≤ j ∧ j < 2 ^ 62 ∧ R (Itr 0 j.toNat) H1 := rfl
theorem rI0_at (g : Int → Int → V) (i j : Int) : rI0 g (.int i) (.int j) H Q = Q (g i j) H := propext ⟨fun ⟨_, _, e1, e2, q⟩ => by cases e1; cases e2; exact q, fun q => ⟨i, j, rfl, rfl, q⟩⟩
theorem rI_at (C : Int → Int → Prop) (g : Int → Int → V) (i j : Int) : rI C g (.int i) (.int j) H Q = (C i j ∧ Q (g i j) H) := propext ⟨fun ⟨_, _, e1, e2, q⟩ => by cases e1; cases e2; exact q, fun q => ⟨i, j, rfl, rfl, q⟩⟩
end

/-! ### a def of the text that may be called; a name that the module binds -/
structure DefAt (K : PySem.W.Frag) (mg : Str → Option Value) (x : Str) (st : Stmt) : Prop where
  ex : ∃ f fd, Fun K x x st f fd ∧ mg x = some (.ref f)
structure Cal (P : Program) (w : World) (K : PySem.W.Frag) (mg : Str → Option Value) (base : Heap) (k : Nat) (x : Str) (ps : List Str) (sp : Sp) : Prop where
  ex : ∃ f fd, FnOk P w K mg base CX0 k f fd ps sp ∧ Binds K fd ps [] ∧ PySem.W.keepIn K (.ref f) = true ∧ mg x = some (.ref f)
section
variable {P : Program} {w : World} {K : PySem.W.Frag} {mg : Str → Option Value} {base : Heap}
theorem DefAt.cal {x : Str} {st : Stmt} {N ps : List Str} {k : Nat} {sp : Sp} (D : DefAt K mg x st) (S : FnScope N ps (defScope st))
    (hb : ∀ (kV doc pm : Value) (an : Option Addr) (cdv ct : Value) (us : List Value), us.length = ps.length → bindArgs (PySem.W.fnOf x x (defArgs st) (defBody st) (defScope st) .none kV doc pm an cdv ct) ⟨us, []⟩ = pure (ps.zip us))
    (len : ∀ vs H Q E, sp vs H Q E → vs.length = ps.length)
    (hbody : ∀ (f : Addr) (cdv : Value) (A : Around) (outer : List Env) (s : Shared) (H : Hp) (vs : List V) (Q : VK) (E : XK), Room k (A.deeper (envOfC x (defScope st) s.heap.objs.size f cdv)) → sp vs H Q E →
      ∃ t, PSs (cxOf CX0 P w K mg base N x (defScope st) f cdv A outer s H E).nox (defBody st) t ∧ t { nx := fun _ H' => Q .non H', rt := Q } (start N vs) H) : Cal P w K mg base (k + 1) x ps sp := by
  obtain ⟨f, fd, F, m⟩ := D.ex
  exact ⟨f, fd, F.ok S len fun cdv A outer s H vs Q E hr h => hbody f cdv A outer s H vs Q E hr h, F.binds hb, F.kp, m⟩
end
section
variable {X : Cx}
theorem pe_cal {j k : Nat} {x : Str} {ps : List Str} {sp : Sp} {p pos : Pos} {e : Expr} {es : List Expr} {t : TA} (c : Cal X.prog X.w X.K X.mg X.base j x ps sp) (hr : Room k X.A) (ha : PA X (e :: es) t) (hle : j ≤ k := by decide) (hg : Gl X x := by rfl)
    (hdb : (x == ("__debug__" : Str)) = false := by decide) (he : starEach (e :: es) X.env = (false, eval e X.env) :: starEach es X.env := by rfl) (hpl : (backTo pos (starEach es X.env)).any (·.1) = false := by rfl) :
    PE X (.Call (.Name x p) (e :: es) [] pos) (tCall sp [] E0 t) := by
  obtain ⟨f, fd, F, b, kp, m⟩ := c.ex
  exact pe_call F (hr.mono hle) hg m kp b .nil pass0 ha hdb he hpl
theorem pe_gint {x : Str} {i : Int} {pos : Pos} (h : ∃ t, X.mg x = some (.int i t)) (hg : Gl X x := by rfl) (hd : (x == ("__debug__" : Str)) = false := by decide) : PE X (.Name x pos) (tC (.int i)) := by
  obtain ⟨t, h⟩ := h
  exact pe_glob hg h ⟨t, rfl⟩ hd
/-- a built-in type's name as a value -/
theorem pe_gty {x : Str} {T : String} {pos : Pos} (hm : X.mg x = none) (hv : bootBuiltins x = some (.type T)) (hg : Gl X x := by rfl) (hn : x ≠ "__name__" := by decide) (hd : (x == ("__debug__" : Str)) = false := by decide) : PE X (.Name x pos) (tC (.ty T)) :=
  pe_bltn hg hm hv rfl hn hd
/-- a call of a built-in -/
theorem pe_blt {x : Str} {p pos : Pos} {e : Expr} {es : List Expr} {t : TA} {id : String} {r : List V → Hp → VK → Prop} (hc : CallR X (.builtin id) r) (hm : X.mg x = none) (hv : bootBuiltins x = some (.builtin id)) (ha : PA X (e :: es) t) (hg : Gl X x := by rfl)
    (hn : x ≠ "__name__" := by decide) (hdb : (x == ("__debug__" : Str)) = false := by decide) (he : starEach (e :: es) X.env = (false, eval e X.env) :: starEach es X.env := by rfl) (hpl : (backTo pos (starEach es X.env)).any (·.1) = false := by rfl) :
    PE X (.Call (.Name x p) (e :: es) [] pos) (tCB r t) := pe_callB hc hg hm hv ha hn hdb he hpl
theorem pe_bty {x : Str} {p pos : Pos} {e : Expr} {es : List Expr} {t : TA} {T : String} {r : List V → Hp → VK → Prop} (hc : CallR X (.type T) r) (hm : X.mg x = none) (hv : bootBuiltins x = some (.type T)) (ha : PA X (e :: es) t) (hg : Gl X x := by rfl)
    (hn : x ≠ "__name__" := by decide) (hdb : (x == ("__debug__" : Str)) = false := by decide) (he : starEach (e :: es) X.env = (false, eval e X.env) :: starEach es X.env := by rfl) (hpl : (backTo pos (starEach es X.env)).any (·.1) = false := by rfl) :
    PE X (.Call (.Name x p) (e :: es) [] pos) (tCB r t) := pe_callTy hc hg hm hv ha hn hdb he hpl
end

/-! ### operations by the values' kinds -/
section
variable {X : Cx}
def rAddA : R2 := fun x y H Q => match x, y with
  | .int i, .int j => Q (.int (i + j)) H
  | .str a, .str b => a.length + b.length ≤ sizeLine ∧ Q (.str (a ++ b)) H
  | .ref l, .ref b => ∃ xs zs, H l = some (.lst xs) ∧ H b = some (.lst zs) ∧ xs.length + zs.length ≤ sizeLine ∧ ∀ p, H p = none → Q (.ref p) (upd H p (.lst (xs ++ zs)))
  | _, _ => False
theorem op_addA : OpR X (binaryOp .Add) rAddA := by
  intro pins s σ H x y v u Q I rx ry h
  cases x <;> cases y <;> first
    | exact (show False from h).elim
    | exact op_add pins s σ H _ _ v u Q I rx ry ⟨_, _, rfl, rfl, h⟩
    | exact op_add_str pins s σ H _ _ v u Q I rx ry ⟨_, _, rfl, rfl, h⟩
    | (obtain ⟨xs, zs, h1, h2, h3, h4⟩ := h; exact op_cat pins s σ H _ _ v u Q I rx ry ⟨_, _, xs, zs, rfl, rfl, h1, h2, h3, h4⟩)
def rLtA : R2 := fun x y H Q => match x, y with
  | .int i, .int j => Q (.bl (decide (i < j))) H
  | .str i, .str j => Q (.bl (decide (i.cps.toList < j.cps.toList))) H
  | _, _ => False
theorem op_ltA : OpR X (compareOp .Lt) rLtA := by
  intro pins s σ H x y v u Q I rx ry h
  cases x <;> cases y <;> first
    | exact (show False from h).elim
    | exact op_lt pins s σ H _ _ v u Q I rx ry ⟨_, _, rfl, rfl, h⟩
    | exact op_lt_str pins s σ H _ _ v u Q I rx ry ⟨_, _, rfl, rfl, h⟩
def rInA (K : PySem.W.Frag) : R2 := fun x y H Q => match x, y with
  | .str i, .str j => Q (.bl (!(Builtin.Str.occurrences j i 0 j.length 1).isEmpty)) H
  | x, .ref p => ∃ xs, (SqL K H p xs ∨ SqT K H p xs) ∧ flatV x = true ∧ xs.all flatV = true ∧ Q (.bl (inV x xs)) H
  | _, _ => False
theorem op_inA : OpR X (compareOp .In) (rInA X.K) := by
  intro pins s σ H x y v u Q I rx ry h
  cases y with
  | str j =>
    cases x with
    | str i => exact op_in_str pins s σ H _ _ v u Q I rx ry ⟨i, j, rfl, rfl, h⟩
    | _ => exact (show False from h).elim
  | ref p =>
    have h' : ∃ xs, (SqL X.K H p xs ∨ SqT X.K H p xs) ∧ flatV x = true ∧ xs.all flatV = true ∧ Q (.bl (inV x xs)) H := by cases x <;> exact h
    obtain ⟨xs, h1, h2, h3, h4⟩ := h'
    exact op_in_seq pins s σ H _ _ v u Q I rx ry ⟨p, xs, rfl, h1, h2, h3, h4⟩
  | _ => cases x <;> exact (show False from h).elim
def rNotInA (K : PySem.W.Frag) : R2 := fun x y H Q => match x, y with
  | .str i, .str j => Q (.bl (!(!(Builtin.Str.occurrences j i 0 j.length 1).isEmpty))) H
  | x, .ref p => ∃ xs, (SqL K H p xs ∨ SqT K H p xs) ∧ flatV x = true ∧ xs.all flatV = true ∧ Q (.bl (!inV x xs)) H
  | _, _ => False
theorem op_notInA : OpR X (compareOp .NotIn) (rNotInA X.K) := by
  intro pins s σ H x y v u Q I rx ry h
  cases y with
  | str j =>
    cases x with
    | str i => exact op_notin_str pins s σ H _ _ v u Q I rx ry ⟨i, j, rfl, rfl, h⟩
    | _ => exact (show False from h).elim
  | ref p =>
    have h' : ∃ xs, (SqL X.K H p xs ∨ SqT X.K H p xs) ∧ flatV x = true ∧ xs.all flatV = true ∧ Q (.bl (!inV x xs)) H := by cases x <;> exact h
    obtain ⟨xs, h1, h2, h3, h4⟩ := h'
    exact op_notIn_seq pins s σ H _ _ v u Q I rx ry ⟨p, xs, rfl, h1, h2, h3, h4⟩
  | _ => cases x <;> exact (show False from h).elim
def rLenA (K : PySem.W.Frag) : List V → Hp → VK → Prop := fun xs H Q => match xs with
  | [.str z] => z.length ≤ sizeLine ∧ Q (.int z.length) H
  | [.ref p] => ∃ ys, (SqL K H p ys ∨ SqT K H p ys) ∧ Q (.int ys.length) H
  | _ => False
theorem call_lenA : CallR X (.builtin "len") (rLenA X.K) := by
  intro pins s σ H xs us Q I r h
  match xs, h with
  | [.str z], h => exact call_len_str pins s σ H _ us Q I r ⟨z, rfl, h⟩
  | [.ref p], h => obtain ⟨ys, h1, h2⟩ := h; exact call_len_seq pins s σ H _ us Q I r ⟨p, ys, rfl, h1, h2⟩
/-- a[b], a a list, a tuple or a text -/
def rIxA (K : PySem.W.Frag) : R2 := fun x y H Q => match x, y with
  | .ref p, .int i => ∃ xs v, (SqL K H p xs ∨ SqT K H p xs) ∧ atI xs i = some v ∧ Q v H
  | .str z, .int i => ∃ c, z.length ≤ sizeLine ∧ atI z.cps.toList i = some c ∧ Q (.str ⟨#[c]⟩) H
  | _, _ => False
theorem ix_A : IxR X (rIxA X.K) := by
  intro value slice pins s σ H x y v u Q I rx ry h hs
  refine ix_seq value slice pins s σ H x y v u Q I rx ry ?_ hs
  match x, y, h with
  | .ref p, .int i, h =>
    obtain ⟨xs, v', h1, h2, h3⟩ := h
    rcases h1 with h1 | h1
    · exact .inl ⟨p, xs, i, v', rfl, rfl, h1, h2, h3⟩
    · exact .inr (.inl ⟨p, xs, i, v', rfl, rfl, h1, h2, h3⟩)
  | .str z, .int i, h =>
    obtain ⟨c, h1, h2, h3⟩ := h
    exact .inr (.inr ⟨z, i, c, rfl, rfl, h1, h2, h3⟩)
end
section
variable {K : PySem.W.Frag} {H : Hp} {Q : VK}
theorem rAddA_int (i j : Int) : rAddA (.int i) (.int j) H Q = Q (.int (i + j)) H := rfl
theorem rAddA_str (a b : Str) : rAddA (.str a) (.str b) H Q = (a.length + b.length ≤ sizeLine ∧ Q (.str (a ++ b)) H) := rfl
theorem rAddA_ref (l b : Addr) : rAddA (.ref l) (.ref b) H Q = ∃ xs zs, H l = some (.lst xs) ∧ H b = some (.lst zs) ∧ xs.length + zs.length ≤ sizeLine ∧ ∀ p, H p = none → Q (.ref p) (upd H p (.lst (xs ++ zs))) := rfl
theorem rLtA_int (i j : Int) : rLtA (.int i) (.int j) H Q = Q (.bl (decide (i < j))) H := rfl
theorem rLtA_str (i j : Str) : rLtA (.str i) (.str j) H Q = Q (.bl (decide (i.cps.toList < j.cps.toList))) H := rfl
theorem rInA_str (i j : Str) : rInA K (.str i) (.str j) H Q = Q (.bl (!(Builtin.Str.occurrences j i 0 j.length 1).isEmpty)) H := rfl
theorem rInA_ref (x : V) (p : Addr) : rInA K x (.ref p) H Q = ∃ xs, (SqL K H p xs ∨ SqT K H p xs) ∧ flatV x = true ∧ xs.all flatV = true ∧ Q (.bl (inV x xs)) H := by cases x <;> rfl
theorem rNotInA_str (i j : Str) : rNotInA K (.str i) (.str j) H Q = Q (.bl (!(!(Builtin.Str.occurrences j i 0 j.length 1).isEmpty))) H := rfl
theorem rNotInA_ref (x : V) (p : Addr) : rNotInA K x (.ref p) H Q = ∃ xs, (SqL K H p xs ∨ SqT K H p xs) ∧ flatV x = true ∧ xs.all flatV = true ∧ Q (.bl (!inV x xs)) H := by cases x <;> rfl
theorem rLenA_str (z : Str) : rLenA K [.str z] H Q = (z.length ≤ sizeLine ∧ Q (.int z.length) H) := rfl
theorem rLenA_ref (p : Addr) : rLenA K [.ref p] H Q = ∃ ys, (SqL K H p ys ∨ SqT K H p ys) ∧ Q (.int ys.length) H := rfl
theorem rIxA_ref (p : Addr) (i : Int) : rIxA K (.ref p) (.int i) H Q = ∃ xs v, (SqL K H p xs ∨ SqT K H p xs) ∧ atI xs i = some v ∧ Q v H := rfl
theorem rIxA_str (z : Str) (i : Int) : rIxA K (.str z) (.int i) H Q = ∃ c, z.length ≤ sizeLine ∧ atI z.cps.toList i = some c ∧ Q (.str ⟨#[c]⟩) H := rfl
theorem rSetL_at (p : Addr) (k : Int) (v : V) (G : Hp → Prop) : rSetL (.ref p) (.int k) v H G = ∃ xs j, H p = some (.lst xs) ∧ ixN xs.length k = some j ∧ G (upd H p (.lst (xs.set j v))) :=
  propext ⟨fun ⟨_, xs, _, j, e1, e2, q⟩ => by cases e1; cases e2; exact ⟨xs, j, q⟩, fun ⟨xs, j, q⟩ => ⟨p, xs, k, j, rfl, rfl, q⟩⟩
theorem rAppend_at (p : Addr) (y : V) : rAppend (.ref p) [y] H Q = ∃ xs, H p = some (.lst xs) ∧ xs.length < sizeLine ∧ Q .non (upd H p (.lst (xs ++ [y]))) :=
  propext ⟨fun ⟨_, xs, _, e1, e2, q⟩ => by cases e1; cases e2; exact ⟨xs, q⟩, fun ⟨xs, q⟩ => ⟨p, xs, y, rfl, rfl, q⟩⟩
theorem tyV_str (y : Str) : tyV K "str" (.str y) H = True := eq_true rfl
theorem tyV_lst (p : Addr) : (tyV K "list" (.ref p) H) = ∃ xs, SqL K H p xs := by
  refine propext ⟨fun h => ?_, fun h => .inl ⟨rfl, h⟩⟩
  rcases h with ⟨_, h⟩ | ⟨h, _⟩ | ⟨h, _⟩ | ⟨h, _⟩
  · exact h
  · exact absurd h (by decide)
  · exact absurd h (by decide)
  · exact absurd h (by decide)
end
theorem bt_len : bootBuiltins "len" = some (.builtin "len") := by decide +kernel
theorem bt_isinstance : bootBuiltins "isinstance" = some (.builtin "isinstance") := by decide +kernel
theorem bt_min : bootBuiltins "min" = some (.builtin "min") := by decide +kernel
theorem bt_sorted : bootBuiltins "sorted" = some (.builtin "sorted") := by decide +kernel
theorem bt_str : bootBuiltins "str" = some (.type "str") := by decide +kernel
theorem bt_int : bootBuiltins "int" = some (.type "int") := by decide +kernel
theorem bt_bool : bootBuiltins "bool" = some (.type "bool") := by decide +kernel
theorem bt_list : bootBuiltins "list" = some (.type "list") := by decide +kernel
theorem bt_tuple : bootBuiltins "tuple" = some (.type "tuple") := by decide +kernel
/-- name = value -/
theorem ps_let {X : Cx} (i : Nat) {x : Str} {e : Expr} {te : TE} {pos pos' : Pos} (hN : X.N.Nodup) (he : PE X e te) (hi : X.N[i]? = some x := by rfl) (hx : Loc X.env.scope x := by first | exact Or.inl rfl | exact Or.inr rfl) (hs : swapsWith e (some (.Name x pos')) pos.line X.env = pure false := by rfl)
    (hf : X.fn x = true ∨ X.env.scope.names.lookup x = some .local := by first | exact .inl rfl | exact .inr rfl | assumption) : PS X (.Assign [.Name x pos'] e pos) (tAsg te (gName i)) := ps_set hN hi hx he hs hf
theorem pg_let {X : Cx} (i : Nat) {x : Str} {pos : Pos} (hN : X.N.Nodup) (hi : X.N[i]? = some x := by rfl) (hx : Loc X.env.scope x := by first | exact Or.inl rfl | exact Or.inr rfl)
    (hf : X.fn x = true ∨ X.env.scope.names.lookup x = some .local := by first | exact .inl rfl | exact .inr rfl | assumption) : PG X (.Name x pos) (gName i) := pg_name hN hi hx hf
/-- what the scope of a block must be, by closed parts -/
structure CompSc (fsc : Scope) (N N0 T : List Str) (scope : Scope) : Prop where
  kind : scope.kind = .function
  nocell : ∀ y ∈ scope.names, y.2 ≠ .cell
  names : ∀ y ∈ scope.names, y.2 = .local → scope.names.lookup y.1 = some .local
  free : ∀ y ∈ scope.names, y.2 = .free → fsc.names.lookup y.1 = some .cell ∨ fsc.names.lookup y.1 = some .free
  apart : ∀ y ∈ scope.names, y.2 = .local → y.1 ∉ N0
  len0 : N0.length = N.length
  same : ((N0.zip N).all fun p => p.1 == p.2 || !(scope.names.any fun y => y.1 == p.1)) = true
theorem CompSc.to {X : Cx} {fsc : Scope} {N N0 T : List Str} {scope : Scope} (S : CompSc fsc N N0 T scope) (h1 : X.env.scope = fsc) (h2 : X.N = N) : CompScope X N0 T scope := by
  subst h1 h2
  refine ⟨S.kind, S.nocell, S.names, S.free, S.apart, S.len0, fun i x k e m => ?_⟩
  have hl := S.len0
  have hi : i < N0.length := (List.getElem?_eq_some_iff.mp e).1
  have hN : X.N[i]? = some X.N[i] := List.getElem?_eq_getElem (by omega)
  have hz : (x, X.N[i]) ∈ N0.zip X.N := List.mem_of_getElem? (i := i) (by rw [List.getElem?_zip_eq_some]; exact ⟨e, hN⟩)
  have q := List.all_eq_true.mp S.same _ hz
  simp only [Bool.or_eq_true, beq_iff_eq, Bool.not_eq_true'] at q
  rcases q with q | q
  · rw [hN, ← q]
  · have : (scope.names.any fun y => y.1 == x) = true := List.any_eq_true.mpr ⟨_, m, by simp⟩
    rw [this] at q; cases q
/-! ### == of scalars (deep: elsewhere) -/
def rEqA : R2 := rEq
def rNeA : R2 := rNe
theorem op_eqA {X : Cx} : OpR X (compareOp .Eq) rEqA := op_eq
theorem op_neA {X : Cx} : OpR X (compareOp .NotEq) rNeA := op_ne
section
variable {K : PySem.W.Frag} {H : Hp} {Q : VK}
theorem rEqA_int (i j : Int) : rEqA (.int i) (.int j) H Q = Q (.bl (decide (i = j))) H := by
  have e : decide (V.int i = V.int j) = decide (i = j) := by by_cases h : i = j <;> simp [h]
  show (scal (.int i) (.int j) = true ∧ Q (.bl (decide (V.int i = V.int j))) H) = _
  rw [e]; exact propext ⟨fun h => h.2, fun h => ⟨rfl, h⟩⟩
theorem rEqA_bl (i j : Bool) : rEqA (.bl i) (.bl j) H Q = Q (.bl (i == j)) H := by
  show (scal (.bl i) (.bl j) = true ∧ Q (.bl (decide (V.bl i = V.bl j))) H) = _
  rw [dec_bl]; exact propext ⟨fun h => h.2, fun h => ⟨rfl, h⟩⟩
theorem rEqA_str (i j : Str) : rEqA (.str i) (.str j) H Q = Q (.bl (decide (i = j))) H := by
  have e : decide (V.str i = V.str j) = decide (i = j) := by by_cases h : i = j <;> simp [h]
  show (scal (.str i) (.str j) = true ∧ Q (.bl (decide (V.str i = V.str j))) H) = _
  rw [e]; exact propext ⟨fun h => h.2, fun h => ⟨rfl, h⟩⟩
theorem rNeA_int (i j : Int) : rNeA (.int i) (.int j) H Q = Q (.bl (!decide (i = j))) H := by
  have e : decide (V.int i = V.int j) = decide (i = j) := by by_cases h : i = j <;> simp [h]
  show (scal (.int i) (.int j) = true ∧ Q (.bl (!decide (V.int i = V.int j))) H) = _
  rw [e]; exact propext ⟨fun h => h.2, fun h => ⟨rfl, h⟩⟩
theorem rNeA_str (i j : Str) : rNeA (.str i) (.str j) H Q = Q (.bl (!decide (i = j))) H := by
  have e : decide (V.str i = V.str j) = decide (i = j) := by by_cases h : i = j <;> simp [h]
  show (scal (.str i) (.str j) = true ∧ Q (.bl (!decide (V.str i = V.str j))) H) = _
  rw [e]; exact propext ⟨fun h => h.2, fun h => ⟨rfl, h⟩⟩
end
theorem set_A {X : Cx} : PSet X rSetL := set_list
/-! ### the same rules with the text's part K named (inside a comprehension the context is a letter) -/
section
variable {X : Cx} (K : PySem.W.Frag)
theorem op_inK (hK : X.K = K := by rfl) : OpR X (compareOp .In) (rInA K) := hK ▸ op_inA
theorem op_notInK (hK : X.K = K := by rfl) : OpR X (compareOp .NotIn) (rNotInA K) := hK ▸ op_notInA
theorem call_lenK (hK : X.K = K := by rfl) : CallR X (.builtin "len") (rLenA K) := hK ▸ call_lenA
theorem ix_K (hK : X.K = K := by rfl) : IxR X (rIxA K) := hK ▸ ix_A
theorem sl_listK (hK : X.K = K := by rfl) : SlR X (rSlL K) := hK ▸ sl_list
theorem pi_listK {tg l : Expr} {tl : TE} (hl : PE X l tl) (hK : X.K = K := by rfl) : PI X tg l (iList K tl) := hK ▸ pi_list hl
theorem pg_tupK {es : List Expr} {k n : Nat} {t : TGs} {pos : Pos} (h : PGs X es t) (hn : (assignEach es X.env).length = n := by rfl) (hst : (assignEach es X.env).findIdx? (·.1) = none := by rfl) (hK : X.K = K := by rfl) (hc : X.calm = true := by rfl) : PG X (.Tuple es k pos) (gTup K n t) := hK ▸ pg_tup hc h hn hst
theorem pe_bmK {o e : Expr} {es : List Expr} {to : TE} {t : TA} {name : Str} {apos cpos : Pos} {T id : String} {r : V → List V → Hp → VK → Prop} (pa : PlainAttrs T) (slot : Slot T name id) (hty : typeOf (.builtin id) = pure (.type "method_descriptor")) (hm : MtR X id r) (ho : PE X o to) (ha : PA X (e :: es) t)
    (hbase : attributeBase o name X.env (eval o X.env) = eval o X.env := by rfl)
    (hfew : ((backTo cpos (starEach (e :: es) X.env)).all (fun x => !x.1) && (backToKw cpos (keywordEach [] X.env)).all (fun x => x.1.isSome) && decide ((e :: es).length + ([] : List Keyword).length + (if ([] : List Keyword).isEmpty then 0 else 1) < 30)) = true := by rfl)
    (hline : (apos.endLine == cpos.line) = true := by rfl) (hs : starEach (e :: es) X.env = (false, eval e X.env) :: starEach es X.env := by rfl) (hplain : (backTo cpos (starEach es X.env)).any (·.1) = false := by rfl) (hK : X.K = K := by rfl) :
    PE X (.Call (.Attribute o name apos) (e :: es) [] cpos) (tBM K T r to t) := hK ▸ pe_bm pa slot hty hm ho ha hbase hfew hline hs hplain
theorem call_listK (hK : X.K = K := by rfl) : CallR X (.type "list") (fun xs H Q => ∃ p ys, xs = [.ref p] ∧ (SqL K H p ys ∨ SqT K H p ys) ∧ ∀ l, H l = none → Q (.ref l) (upd H l (.lst ys))) := hK ▸ call_list_of
theorem call_tupleK (hK : X.K = K := by rfl) : CallR X (.type "tuple") (fun xs H Q => ∃ p ys, xs = [.ref p] ∧ ((SqL K H p ys ∧ ∀ l, H l = none → Q (.ref l) (upd H l (.tup ys))) ∨ (SqT K H p ys ∧ Q (.ref p) H))) := hK ▸ call_tuple_of
end
theorem ex_one (n : Int) (P : Int → Prop) : (∃ j, [V.int n] = [V.int j] ∧ P j) = P n := propext ⟨fun ⟨_, e, h⟩ => by cases e; exact h, fun h => ⟨n, rfl, h⟩⟩
theorem ex_two (n m : Int) (P : Int → Int → Prop) : (∃ i j, [V.int n, V.int m] = [V.int i, V.int j] ∧ P i j) = P n m := propext ⟨fun ⟨_, _, e, h⟩ => by cases e; exact h, fun h => ⟨n, m, rfl, h⟩⟩
theorem ex_cons (x : V) (xs : List V) (P : V → List V → Prop) : (∃ v r, x :: xs = v :: r ∧ P v r) = P x xs := propext ⟨fun ⟨_, _, e, h⟩ => by cases e; exact h, fun h => ⟨x, xs, rfl, h⟩⟩
theorem ex_nil (P : Prop) : (([] : List V) = [] ∧ P) = P := propext ⟨fun h => h.2, fun h => ⟨rfl, h⟩⟩
/-! ### names of a block, by closed parts -/
def relabelS (scope fsc : Scope) : Scope := { scope with names := scope.names.map fun (n, k) => if (k == .free && fsc.kind == .function && fsc.names.lookup n == some .cell) then (n, .cell) else (n, k) }
section
variable {X : Cx} {N0 T : List Str} {scope : Scope} {C : Addr} {fp : List Addr} {s : Shared} {H : Hp} {x : Str}
theorem glC (fsc : Scope) (h : (relabelS scope fsc).names.lookup x = some .globalImplicit) (e : X.env.scope = fsc := by rfl) : Gl (cxComp X N0 T scope C fp s H) x := by subst e; exact h
theorem visC (fsc : Scope) (h : ((relabelS scope fsc).names.lookup x = some .local || (relabelS scope fsc).names.lookup x = some .cell || (relabelS scope fsc).names.lookup x = some .free) = true) (e : X.env.scope = fsc := by rfl) : Vis (cxComp X N0 T scope C fp s H).env.scope x := by
  subst e
  simp only [Bool.or_eq_true, decide_eq_true_eq] at h
  rcases h with (h | h) | h
  · exact .inl h
  · exact .inr (.inl h)
  · exact .inr (.inr h)
theorem locC (fsc : Scope) (h : (relabelS scope fsc).names.lookup x = some .local) (e : X.env.scope = fsc := by rfl) : Loc (cxComp X N0 T scope C fp s H).env.scope x := by subst e; exact .inl h
theorem fnC (fsc : Scope) (h : (relabelS scope fsc).names.lookup x = some .local) (e : X.env.scope = fsc := by rfl) : (cxComp X N0 T scope C fp s H).fn x = true ∨ (cxComp X N0 T scope C fp s H).env.scope.names.lookup x = some .local := by subst e; exact .inr h
end
theorem mt_appendA {X : Cx} : MtR X "list.append" rAppend := mt_append
theorem PW.pt' {X : Cx} {e : Expr} {t : TT} (h : PW X e t) : PT X e t := h.pt
/-- a block by what holds between two of its statements -/
theorem seq_by {t u : TS} {D : Ends} {σ : St} {H : Hp} (I : St → Hp → Prop) (h : ∀ k : St → Hp → Prop, (∀ σ' H', I σ' H' → k σ' H') → t { D with nx := k } σ H) (hu : ∀ σ' H', I σ' H' → Rest u D σ' H') : Rest (tSeq t u) D σ H := h _ hu
theorem tPairs_nil {σ : St} {H : Hp} {Q : List (V × V) → Hp → Prop} : tPairs [] σ H Q = Q [] H := rfl
theorem tPairs_cons {σ : St} {H : Hp} {Q : List (V × V) → Hp → Prop} (tk tv : TE) (r : List (TE × TE)) : tPairs ((tk, tv) :: r) σ H Q = tk σ H fun x H1 => tv σ H1 fun y H2 => tPairs r σ H2 fun ps H3 => Q ((x, y) :: ps) H3 := rfl
theorem Same.upd {H H' : Hp} {p : Addr} (sm : Same H H') (h : H p = none) (o : HO) : Same H (upd H' p o) := fun b u q => by rw [upd_ne (ne_of_none q h)]; exact sm b u q
theorem same_new {H : Hp} {p : Addr} (h : H p = none) (o : HO) : Same H (upd H p o) := fun b u q => by rw [upd_ne (ne_of_none q h)]; exact q
end L2

set_option Elab.async false
set_option linter.all false
set_option maxRecDepth 100000
namespace L2
open PySem PySem.Spec PyProof.Rows PySem.SeqAt

/-! ### == of lists and tuples, as deep as n -/
def EqN (K : PySem.W.Frag) (H : Hp) : Nat → V → V → Bool → Prop
  | 0, x, y, b => flatV x = true ∧ flatV y = true ∧ b = eqV x y
  | n + 1, x, y, b => (flatV x = true ∧ flatV y = true ∧ b = eqV x y) ∨ ∃ a c xs ys, x = .ref a ∧ y = .ref c ∧ ((SqL K H a xs ∧ SqL K H c ys) ∨ (SqT K H a xs ∧ SqT K H c ys)) ∧
      ((∃ e : Nat → Bool, xs.length = ys.length ∧ (∀ (i : Nat) x y, xs[i]? = some x → ys[i]? = some y → EqN K H n x y (e i)) ∧ b = (List.range xs.length).all e) ∨
        (SqL K H a xs ∧ SqL K H c ys ∧ xs.length ≠ ys.length ∧ b = false))
theorem eqV_self : ∀ {x : V}, flatV x = true → eqV x x = true
  | .non, _ => rfl
  | .bl b, _ => by simp [eqV]
  | .int i, _ => by simp [eqV]
  | .str y, _ => by simp [eqV]
section
variable {X : Cx} {pins : List (Addr × Obj)} {σ : St} {H : Hp} {s : Shared}
theorem EqN.self (I : Inv X pins σ H s) : ∀ {n : Nat} {x : V} {b : Bool}, EqN X.K H n x x b → b = true
  | 0, x, b, h => by obtain ⟨h1, _, rfl⟩ := h; exact eqV_self h1
  | n + 1, x, b, h => by
    rcases h with ⟨h1, _, rfl⟩ | ⟨a, c, xs, ys, rfl, e, hq, h⟩
    · exact eqV_self h1
    · cases e
      have exy : xs = ys := by
        rcases hq with ⟨q1, q2⟩ | ⟨q1, q2⟩
        · exact I.list_inj q1 q2
        · exact I.tuple_inj q1 q2
      subst exy
      rcases h with ⟨e, _, he, rfl⟩ | ⟨_, _, z, _⟩
      · rw [List.all_eq_true]
        intro i hi
        have hi' := List.mem_range.mp hi
        have q := he i xs[i] xs[i] (List.getElem?_eq_getElem hi') (List.getElem?_eq_getElem hi')
        exact EqN.self I q
      · exact absurd rfl z
theorem EqN.rc (I : Inv X pins σ H s) {n : Nat} (ih : ∀ {A : Around} {x y : V} {b : Bool} {u v : Value}, A.units + n < cLine → EqN X.K H n x y b → RelV x u → RelV y v → EqAt A s u v b)
    {A : Around} {a c : Addr} {xs ys : List V} {b : Bool} (hu : A.units + (n + 1) < cLine) (hq : (SqL X.K H a xs ∧ SqL X.K H c ys) ∨ (SqT X.K H a xs ∧ SqT X.K H c ys))
    (h : (∃ e : Nat → Bool, xs.length = ys.length ∧ (∀ (i : Nat) x y, xs[i]? = some x → ys[i]? = some y → EqN X.K H n x y (e i)) ∧ b = (List.range xs.length).all e) ∨ (SqL X.K H a xs ∧ SqL X.K H c ys ∧ xs.length ≠ ys.length ∧ b = false)) :
    RcAt A s (.ref a) (.ref c) b ∧ RcNeAt A s (.ref a) (.ref c) (!b) := by
  have hin : A.in1.units + n < cLine := by
    have : A.in1.units = A.units + 1 := rfl
    omega
  rcases h with ⟨e, hl, he, rfl⟩ | ⟨q1, q2, hl, rfl⟩
  · rcases hq with ⟨q1, q2⟩ | ⟨q1, q2⟩
    · obtain ⟨i1, r1, p1, z1⟩ := I.list q1
      obtain ⟨i2, r2, p2, z2⟩ := I.list q2
      have l1 := r1.length
      have l2 := r2.length
      have hit : ∀ j (h1 : j < i1.toArray.size) (h2 : j < i2.toArray.size), EqAt A.in1 s i1.toArray[j] i2.toArray[j] (e j) := fun j h1 h2 => by
        obtain ⟨x, hx, rx⟩ := r1.of (i := j) (u := i1.toArray[j]) (by simp at h1 ⊢)
        obtain ⟨y, hy, ry⟩ := r2.of (i := j) (u := i2.toArray[j]) (by simp at h2 ⊢)
        exact ih hin (he j x y hx hy) rx ry
      have ez : xs.length = i1.toArray.size := by simp; omega
      rw [ez]
      exact ⟨RcAt.lists p1.isList p2.isList (by simp; omega) (by omega) hit, RcNeAt.lists p1.isList p2.isList (by simp; omega) (by omega) hit⟩
    · obtain ⟨i1, r1, p1, z1⟩ := I.tuple q1
      obtain ⟨i2, r2, p2, z2⟩ := I.tuple q2
      have l1 := r1.length
      have l2 := r2.length
      have hit : ∀ j (h1 : j < i1.toArray.size) (h2 : j < i2.toArray.size), EqAt A.in1 s i1.toArray[j] i2.toArray[j] (e j) := fun j h1 h2 => by
        obtain ⟨x, hx, rx⟩ := r1.of (i := j) (u := i1.toArray[j]) (by simp at h1 ⊢)
        obtain ⟨y, hy, ry⟩ := r2.of (i := j) (u := i2.toArray[j]) (by simp at h2 ⊢)
        exact ih hin (he j x y hx hy) rx ry
      have ez : (List.range xs.length).all e = ((List.range (min i1.toArray.size i2.toArray.size)).all e && i1.toArray.size == i2.toArray.size) := by
        have e1 : i1.toArray.size = xs.length := by simp; omega
        have e2 : i2.toArray.size = xs.length := by simp; omega
        rw [e1, e2, Nat.min_self]; simp
      rw [ez]
      exact ⟨RcAt.tuples (show s.heap.IsTuple a i1.toArray from p1) (show s.heap.IsTuple c i2.toArray from p2) (by omega) hit, RcNeAt.tuples (show s.heap.IsTuple a i1.toArray from p1) (show s.heap.IsTuple c i2.toArray from p2) (by omega) hit⟩
  · obtain ⟨i1, r1, p1, z1⟩ := I.list q1
    obtain ⟨i2, r2, p2, z2⟩ := I.list q2
    have l1 := r1.length
    have l2 := r2.length
    have hne : (i1.toArray.size != i2.toArray.size) = true := by
      rw [bne_iff_ne]; simp; omega
    exact ⟨RcAt.lists_lengths p1.isList p2.isList hne (by omega), RcNeAt.lists_lengths p1.isList p2.isList hne (by omega)⟩
theorem EqN.at (I : Inv X pins σ H s) : ∀ {n : Nat} {A : Around} {x y : V} {b : Bool} {u v : Value}, A.units + n < cLine → EqN X.K H n x y b → RelV x u → RelV y v → EqAt A s u v b
  | 0, A, x, y, b, u, v, _, h, rx, ry => by obtain ⟨h1, h2, rfl⟩ := h; exact eqAt_V rx ry h1 h2
  | n + 1, A, x, y, b, u, v, hu, h, rx, ry => by
    have h0 := h
    rcases h with ⟨h1, h2, rfl⟩ | ⟨a, c, xs, ys, rfl, rfl, hq, h⟩
    · exact eqAt_V rx ry h1 h2
    · cases rx
      cases ry
      by_cases hac : a = c
      · subst hac
        rw [EqN.self I h0]
        exact EqAt.same _
      · exact EqAt.of_refs hac (EqN.rc I (fun hu' q rx ry => EqN.at I hu' q rx ry) hu hq h).1
end
section
variable {X : Cx}
def rEqD (K : PySem.W.Frag) : R2 := fun x y H Q => ∃ (a c : Addr) (n : Nat) (b : Bool), x = .ref a ∧ y = .ref c ∧ n ≤ 100 ∧ EqN K H (n + 1) x y b ∧ Q (.bl b) H
def rNeD (K : PySem.W.Frag) : R2 := fun x y H Q => ∃ (a c : Addr) (n : Nat) (b : Bool), x = .ref a ∧ y = .ref c ∧ n ≤ 100 ∧ EqN K H (n + 1) x y b ∧ Q (.bl (!b)) H
theorem op_eqD (hu : X.A.units + 101 < cLine) : OpR X (compareOp .Eq) (rEqD X.K) := by
  intro pins s σ H x y v u Q I rx ry h
  obtain ⟨a, c, n, b, rfl, rfl, hn, he, q⟩ := h
  cases rx
  cases ry
  rcases he with ⟨h1, _⟩ | ⟨a', c', xs, ys, e1, e2, hq, h⟩
  · cases h1
  · cases e1
    cases e2
    exact (EqN.rc I (fun hu' q rx ry => EqN.at I hu' q rx ry) (by omega) hq h).1 _ _ _ _ ⟨.bl b, H, I, rfl, q⟩
theorem op_neD (hu : X.A.units + 101 < cLine) : OpR X (compareOp .NotEq) (rNeD X.K) := by
  intro pins s σ H x y v u Q I rx ry h
  obtain ⟨a, c, n, b, rfl, rfl, hn, he, q⟩ := h
  cases rx
  cases ry
  rcases he with ⟨h1, _⟩ | ⟨a', c', xs, ys, e1, e2, hq, h⟩
  · cases h1
  · cases e1
    cases e2
    exact (EqN.rc I (fun hu' q rx ry => EqN.at I hu' q rx ry) (by omega) hq h).2 _ _ _ _ ⟨.bl (!b), H, I, rfl, q⟩
theorem op_eqKD (K : PySem.W.Frag) {k : Nat} (hr : Room k X.A) (hK : X.K = K := by rfl) : OpR X (compareOp .Eq) (rEqD K) := by subst hK; exact op_eqD (by have := hr.un; omega)
theorem op_neKD (K : PySem.W.Frag) {k : Nat} (hr : Room k X.A) (hK : X.K = K := by rfl) : OpR X (compareOp .NotEq) (rNeD K) := by subst hK; exact op_neD (by have := hr.un; omega)
end
section
variable {K : PySem.W.Frag} {H : Hp} {Q : VK}
theorem rEqD_at (a c : Addr) : rEqD K (.ref a) (.ref c) H Q = ∃ (n : Nat) (b : Bool), n ≤ 100 ∧ EqN K H (n + 1) (.ref a) (.ref c) b ∧ Q (.bl b) H :=
  propext ⟨fun ⟨_, _, n, b, e1, e2, q⟩ => ⟨n, b, q⟩, fun ⟨n, b, q⟩ => ⟨a, c, n, b, rfl, rfl, q⟩⟩
theorem rNeD_at (a c : Addr) : rNeD K (.ref a) (.ref c) H Q = ∃ (n : Nat) (b : Bool), n ≤ 100 ∧ EqN K H (n + 1) (.ref a) (.ref c) b ∧ Q (.bl (!b)) H :=
  propext ⟨fun ⟨_, _, n, b, e1, e2, q⟩ => ⟨n, b, q⟩, fun ⟨n, b, q⟩ => ⟨a, c, n, b, rfl, rfl, q⟩⟩
theorem EqN.flat {n : Nat} {x y : V} (hx : flatV x = true) (hy : flatV y = true) : EqN K H n x y (eqV x y) := by
  cases n with
  | zero => exact ⟨hx, hy, rfl⟩
  | succ n => exact .inl ⟨hx, hy, rfl⟩
theorem EqN.refl {n : Nat} {x : V} (hx : flatV x = true) : EqN K H n x x true := by
  have q : EqN K H n x x (eqV x x) := EqN.flat hx hx
  rwa [eqV_self hx] at q
/-- two lists (tuples) whose items are equal -/
theorem EqN.seq {n : Nat} {a c : Addr} {xs ys : List V} (hq : (SqL K H a xs ∧ SqL K H c ys) ∨ (SqT K H a xs ∧ SqT K H c ys)) (hl : xs.length = ys.length) (he : ∀ (i : Nat) x y, xs[i]? = some x → ys[i]? = some y → EqN K H n x y true) : EqN K H (n + 1) (.ref a) (.ref c) true :=
  .inr ⟨a, c, xs, ys, rfl, rfl, hq, .inl ⟨fun _ => true, hl, he, by simp⟩⟩
theorem EqN.seqFlat {n : Nat} {a c : Addr} {xs : List V} (hq : (SqL K H a xs ∧ SqL K H c xs) ∨ (SqT K H a xs ∧ SqT K H c xs)) (hf : ∀ x ∈ xs, flatV x = true) : EqN K H (n + 1) (.ref a) (.ref c) true :=
  EqN.seq hq rfl fun i x y e1 e2 => by
    rw [e1] at e2; cases e2
    exact EqN.refl (hf x (List.mem_of_getElem? e1))
theorem EqN.strs {n : Nat} {a c : Addr} {ss ts : List Str} (h1 : SqL K H a (ss.map V.str)) (h2 : SqL K H c (ts.map V.str)) : EqN K H (n + 1) (.ref a) (.ref c) (decide (ss = ts)) := by
  refine .inr ⟨a, c, _, _, rfl, rfl, .inl ⟨h1, h2⟩, ?_⟩
  by_cases hl : ss.length = ts.length
  · refine .inl ⟨fun i => ss.getD i default == ts.getD i default, by simp [hl], fun i x y e1 e2 => ?_, ?_⟩
    · rw [List.getElem?_map] at e1 e2
      cases q1 : ss[i]? with
      | none => rw [q1] at e1; cases e1
      | some u =>
        cases q2 : ts[i]? with
        | none => rw [q2] at e2; cases e2
        | some v =>
          rw [q1] at e1; rw [q2] at e2
          cases e1; cases e2
          dsimp only
          rw [List.getD_eq_getElem?_getD, List.getD_eq_getElem?_getD, q1, q2]
          exact EqN.flat rfl rfl
    · rw [List.length_map]
      by_cases e : ss = ts
      · subst e
        rw [decide_eq_true rfl]
        symm
        rw [List.all_eq_true]
        intro i _
        simp
      · rw [decide_eq_false e]
        symm
        rw [List.all_eq_false]
        have : ∃ i : Nat, ss[i]? ≠ ts[i]? := by
          refine Classical.byContradiction fun hn => e (List.ext_getElem? fun i => ?_)
          exact Classical.byContradiction fun h => hn ⟨i, h⟩
        obtain ⟨i, hi⟩ := this
        have hlt : i < ss.length := by
          refine Classical.byContradiction fun hn => hi ?_
          rw [List.getElem?_eq_none (by omega), List.getElem?_eq_none (by omega)]
        refine ⟨i, List.mem_range.mpr hlt, ?_⟩
        rw [List.getD_eq_getElem?_getD, List.getD_eq_getElem?_getD, List.getElem?_eq_getElem hlt, List.getElem?_eq_getElem (by omega)]
        rw [List.getElem?_eq_getElem hlt, List.getElem?_eq_getElem (by omega)] at hi
        simpa using hi
  · have e : ss ≠ ts := fun e => hl (by rw [e])
    rw [decide_eq_false e]
    exact .inr ⟨h1, h2, by simpa using hl, rfl⟩
end

theorem idx_ne {y : Str} : ∀ {l : List Str} {j : Nat}, j < l.idxOf y → ∀ (h : j < l.length), l[j] ≠ y
  | n :: r, 0, h, _ => by
    intro e
    have e' : n = y := e
    subst e'
    simp at h
  | n :: r, j + 1, h, h2 => by
    by_cases e : n = y
    · subst e; simp at h
    · rw [List.idxOf_cons] at h
      have hb : (n == y) = false := beq_eq_false_iff_ne.mpr e
      rw [hb] at h
      have h' : j + 1 < r.idxOf y + 1 := h
      have q := idx_ne (y := y) (l := r) (j := j) (by omega) (by simpa using h2)
      simpa using q
/-! ### sorted texts -/
section
variable {X : Cx}
def rSortS (K : PySem.W.Frag) : List V → Hp → VK → Prop := fun xs H Q => ∃ (p : Addr) (ss : List Str), xs = [.ref p] ∧ SqL K H p (ss.map V.str) ∧ ss.length < 64 ∧ ∀ (l : Addr) (ts : List Str), H l = none → ts.Perm ss → sortedS ts = true → Q (.ref l) (upd H l (.lst (ts.map V.str)))
theorem rSortS_at {K : PySem.W.Frag} {H : Hp} {Q : VK} (p : Addr) : rSortS K [.ref p] H Q = ∃ ss : List Str, SqL K H p (ss.map V.str) ∧ ss.length < 64 ∧ ∀ (l : Addr) (ts : List Str), H l = none → ts.Perm ss → sortedS ts = true → Q (.ref l) (upd H l (.lst (ts.map V.str))) :=
  propext ⟨fun ⟨_, ss, e, q⟩ => by cases e; exact ⟨ss, q⟩, fun ⟨ss, q⟩ => ⟨p, ss, rfl, q⟩⟩
theorem call_sortS (K : PySem.W.Frag) (hK : X.K = K := by rfl) : CallR X (.builtin "sorted") (rSortS K) := by
  subst hK
  intro pins s σ H xs us Q I r h
  obtain ⟨p, ss, rfl, hq, h64, q⟩ := h
  obtain ⟨u, rfl, ru⟩ := vals1 r
  cases ru
  obtain ⟨its, rv, pl, hz⟩ := I.list hq
  have hlen : its.length = ss.length := by rw [← rv.length, List.length_map]
  refine sorted_strs pl.isList (vals_strs rv) (by omega) fun out ts h1 h2 h3 => ?_
  obtain ⟨e, he⟩ := sortedAll_at s.heap its out
  have hl : ts.length = ss.length := h2.length_eq
  have hs : sizeLine = 16777216 := sizeLine_eq
  exact ⟨.ref (s.heap.objs.size + 1), _, I.laid (t' := s.toks) (fun b o e => sortedAll_old e) (Nat.le_succ _) (show ObjOk X.prog X.w _ _ _ (.lst (ts.map V.str)) from ⟨by rw [List.length_map]; omega, out.toList, e, strs_vals h1, by simpa using he⟩), rfl,
    q _ ts (I.hok.fresh (Nat.le_succ _)) h2 h3⟩

/-! ### words.index(text) -/
def rIndexS (K : PySem.W.Frag) : V → List V → Hp → VK → Prop := fun x vs H Q => ∃ (p : Addr) (ss : List Str) (y : Str), x = .ref p ∧ vs = [.str y] ∧ SqL K H p (ss.map V.str) ∧ y ∈ ss ∧ Q (.int (ss.idxOf y : Nat)) H
theorem rIndexS_at {K : PySem.W.Frag} {H : Hp} {Q : VK} (p : Addr) (y : Str) : rIndexS K (.ref p) [.str y] H Q = ∃ ss : List Str, SqL K H p (ss.map V.str) ∧ y ∈ ss ∧ Q (.int (ss.idxOf y : Nat)) H :=
  propext ⟨fun ⟨_, ss, _, e1, e2, q⟩ => by cases e1; cases e2; exact ⟨ss, q⟩, fun ⟨ss, q⟩ => ⟨p, ss, y, rfl, rfl, q⟩⟩
theorem mt_indexS (K : PySem.W.Frag) (hK : X.K = K := by rfl) : MtR X "list.index" (rIndexS K) := by
  subst hK
  intro pins s σ H x xs v us Q I rx r h
  obtain ⟨p, ss, y, rfl, rfl, hq, hy, q⟩ := h
  cases rx
  obtain ⟨u, rfl, ru⟩ := vals1 r
  obtain ⟨t, rfl⟩ := ru
  obtain ⟨its, rv, pl, hz⟩ := I.list hq
  have hlen : its.length = ss.length := by rw [← rv.length, List.length_map]
  rw [List.length_map] at hz
  have hs : sizeLine = 16777216 := sizeLine_eq
  obtain ⟨⟨cls, dd, data, sl⟩, ho, hc, n, hd⟩ := pl.isList
  simp only at hc hd
  subst hc hd
  have hj : ss.idxOf y < ss.length := List.idxOf_lt_length_iff.mpr hy
  have rel : ∀ (i : Nat) (h : i < its.length), ∃ t', its[i] = .str ss[i] t' := fun i h => by
    obtain ⟨x, hx, rx⟩ := rv.of (i := i) (u := its[i]) (List.getElem?_eq_getElem h)
    rw [List.getElem?_map, List.getElem?_eq_getElem (by omega)] at hx
    have hx' : V.str ss[i] = x := Option.some.inj hx
    subst hx'
    exact rx
  refine call_meets PySem.F.slot_list_index ⟨_, ho, rfl⟩ PySem.F.entry_list_index (PySem.F.args_list_index_2 _ _)
    (list_indexAt p its.toArray n dd sl (.str y t) (eqU (.str y)) (ss.idxOf y) (by simpa [hlen] using hj) (by omega) ?_ ?_) ⟨ho, fun z hz => ?_, ⟨.int _, H, I.tok _, ⟨_, rfl⟩, q⟩⟩
  · show eqU (.str y) its[ss.idxOf y] = true
    obtain ⟨t', e⟩ := rel (ss.idxOf y) (by omega)
    rw [e]
    show (ss[ss.idxOf y] == y) = true
    rw [List.getElem_idxOf hj]; simp
  · intro j hjs hlt
    have hj' : j < its.length := by simpa using hjs
    show eqU (.str y) its[j] = false
    obtain ⟨t', e⟩ := rel j hj'
    rw [e]
    show (ss[j] == y) = false
    exact beq_eq_false_iff_ne.mpr (idx_ne hlt _)
  · have hz' : z ∈ its := by simpa using hz
    obtain ⟨i, hi, rfl⟩ := List.mem_iff_getElem.mp hz'
    obtain ⟨t', e⟩ := rel i hi
    have q' := eqAt_V (A := X.A.in1) (s := s) (y := .str ss[i]) (x := .str y) (u := its[i]) (v := .str y t) ⟨t', e⟩ ⟨t, rfl⟩ rfl rfl
    rw [e]; rw [e] at q'
    exact q'
end

/-! ### more readings by name -/
section
variable {X : Cx}
def rNotN : R2 := fun x y H Q => y = .non ∧ Q (.bl (!decide (x = .non))) H
theorem op_notNA : OpR X (compareOp .IsNot) rNotN := op_notN
def rStrI : List V → Hp → VK → Prop := fun xs H Q => ∃ i, xs = [.int i] ∧ i.natAbs.log2 < 1920 ∧ Q (.str (toString i)) H
theorem call_strI : CallR X (.type "str") rStrI := call_str_int
def rInt1 : List V → Hp → VK → Prop := fun xs H Q => (∃ i, xs = [.int i] ∧ Q (.int i) H) ∨ ∃ k, xs = [.bl k] ∧ Q (.int (if k then 1 else 0)) H
theorem call_intA : CallR X (.type "int") rInt1 := call_int1
def rListOf (K : PySem.W.Frag) : List V → Hp → VK → Prop := fun xs H Q => ∃ p ys, xs = [.ref p] ∧ (SqL K H p ys ∨ SqT K H p ys) ∧ ∀ l, H l = none → Q (.ref l) (upd H l (.lst ys))
theorem call_listA (K : PySem.W.Frag) (hK : X.K = K := by rfl) : CallR X (.type "list") (rListOf K) := call_listK K hK
def rTupOf (K : PySem.W.Frag) : List V → Hp → VK → Prop := fun xs H Q => ∃ p ys, xs = [.ref p] ∧ ((SqL K H p ys ∧ ∀ l, H l = none → Q (.ref l) (upd H l (.tup ys))) ∨ (SqT K H p ys ∧ Q (.ref p) H))
theorem call_tupA (K : PySem.W.Frag) (hK : X.K = K := by rfl) : CallR X (.type "tuple") (rTupOf K) := call_tupleK K hK
def rMin2 : List V → Hp → VK → Prop := fun xs H Q => ∃ i j, xs = [.int i, .int j] ∧ Q (.int (if j < i then j else i)) H
theorem call_minA (hc : X.calm = true := by rfl) : CallR X (.builtin "min") rMin2 := call_min2 hc
/-- an int times an int, a text times an int -/
def rMulB : R2 := fun x y H Q => match x, y with
  | .int i, .int j => CMul i j ∧ Q (.int (i * j)) H
  | .str z, .int n => 0 ≤ n ∧ n ≤ 4096 ∧ z.length ≤ 4096 ∧ Q (.str (Txt.mul z n)) H
  | _, _ => False
theorem op_mulB : OpR X (binaryOp .Mult) rMulB := by
  intro pins s σ H x y v u Q I rx ry h
  match x, y, h with
  | .int i, .int j, h => exact op_mul pins s σ H _ _ v u Q I rx ry ⟨_, _, rfl, rfl, h⟩
  | .str z, .int n, h =>
    obtain ⟨t, rfl⟩ := rx
    obtain ⟨t', rfl⟩ := ry
    obtain ⟨h0, h1, h2, q⟩ := h
    exact SB.mul (mulOk_of 4096 4096 h2 (by omega) (by omega) (by decide) (by decide)) fun t' k => ⟨.str (Txt.mul z n), H, I.tok k, ⟨t', rfl⟩, q⟩
end
section
variable {K : PySem.W.Frag} {H : Hp} {Q : VK}
theorem rNotN_at (x : V) : rNotN x .non H Q = Q (.bl (!decide (x = .non))) H := propext ⟨fun h => h.2, fun h => ⟨rfl, h⟩⟩
theorem rStrI_at (i : Int) : rStrI [.int i] H Q = (i.natAbs.log2 < 1920 ∧ Q (.str (toString i)) H) := propext ⟨fun ⟨_, e, q⟩ => by cases e; exact q, fun q => ⟨i, rfl, q⟩⟩
theorem rInt1_int (i : Int) : rInt1 [.int i] H Q = Q (.int i) H := propext ⟨fun h => by rcases h with ⟨_, e, q⟩ | ⟨_, e, q⟩ <;> cases e; exact q, fun q => .inl ⟨i, rfl, q⟩⟩
theorem rInt1_bl (k : Bool) : rInt1 [.bl k] H Q = Q (.int (if k then 1 else 0)) H := propext ⟨fun h => by rcases h with ⟨_, e, q⟩ | ⟨_, e, q⟩ <;> cases e; exact q, fun q => .inr ⟨k, rfl, q⟩⟩
theorem rListOf_at (p : Addr) : rListOf K [.ref p] H Q = ∃ ys, (SqL K H p ys ∨ SqT K H p ys) ∧ ∀ l, H l = none → Q (.ref l) (upd H l (.lst ys)) := propext ⟨fun ⟨_, ys, e, q⟩ => by cases e; exact ⟨ys, q⟩, fun ⟨ys, q⟩ => ⟨p, ys, rfl, q⟩⟩
theorem rTupOf_at (p : Addr) : rTupOf K [.ref p] H Q = ∃ ys, ((SqL K H p ys ∧ ∀ l, H l = none → Q (.ref l) (upd H l (.tup ys))) ∨ (SqT K H p ys ∧ Q (.ref p) H)) := propext ⟨fun ⟨_, ys, e, q⟩ => by cases e; exact ⟨ys, q⟩, fun ⟨ys, q⟩ => ⟨p, ys, rfl, q⟩⟩
theorem rMin2_at (i j : Int) : rMin2 [.int i, .int j] H Q = Q (.int (if j < i then j else i)) H := propext ⟨fun ⟨_, _, e, q⟩ => by cases e; exact q, fun q => ⟨i, j, rfl, q⟩⟩
theorem rMulB_int (i j : Int) : rMulB (.int i) (.int j) H Q = (CMul i j ∧ Q (.int (i * j)) H) := rfl
theorem rMulB_str (z : Str) (n : Int) : rMulB (.str z) (.int n) H Q = (0 ≤ n ∧ n ≤ 4096 ∧ z.length ≤ 4096 ∧ Q (.str (Txt.mul z n)) H) := rfl
theorem rSlL_at (a : Addr) (lo hi : Option Int) : rSlL K (.ref a) lo hi H Q = ∃ xs, SqL K H a xs ∧ ∀ p, H p = none → Q (.ref p) (upd H p (.lst (cutV xs lo hi))) := propext ⟨fun ⟨_, xs, e, q⟩ => by cases e; exact ⟨xs, q⟩, fun ⟨xs, q⟩ => ⟨a, xs, rfl, q⟩⟩
end
/-! ### small facts of use everywhere -/
theorem small' {n : Nat} (h : n ≤ 1000000) : n < sizeLine := by
  have : sizeLine = 16777216 := sizeLine_eq
  omega
theorem smallL {n : Nat} (h : n ≤ 1000000) : n ≤ sizeLine := Nat.le_of_lt (small' h)
/-- an item of a list of ints -/
theorem at_map {α : Type} {f : α → V} {xs : List α} {i : Int} {x : α} (h0 : 0 ≤ i) (h : xs[i.toNat]? = some x) : atI (xs.map f) i = some (f x) := by
  have q : (xs.map f)[i.toNat]? = some (f x) := by rw [List.getElem?_map, h]; rfl
  have q' := atI_nat q
  rwa [show ((i.toNat : Nat) : Int) = i by omega] at q'
theorem at_lst {α : Type} {xs : List α} {i : Int} (h0 : 0 ≤ i) (h : i < xs.length) : ∃ x, xs[i.toNat]? = some x ∧ atI xs i = some x := by
  have hk : i.toNat < xs.length := by omega
  refine ⟨xs[i.toNat], List.getElem?_eq_getElem hk, ?_⟩
  have q := atI_nat (List.getElem?_eq_getElem hk)
  rwa [show ((i.toNat : Nat) : Int) = i by omega] at q
theorem al_same {H H' : Hp} {p : Addr} {o : HO} (h : upd H p o = H') (hp : H p = none) : Same H H' := h ▸ same_new hp o
theorem al_at {H H' : Hp} {p : Addr} {o : HO} (h : upd H p o = H') : H' p = some o := h ▸ upd_same
theorem len_push {α : Type} {xs : List α} {x : α} {n : Nat} (h : xs.length = n) : (xs ++ [x]).length = n + 1 := by simp [h]
end L2

set_option Elab.async false
set_option linter.all false
set_option maxRecDepth 100000
namespace L2
open PySem PySem.Spec PyProof.Rows

/-! ### several untracked records of ours have turned -/
theorem Inv.turnedL {X : Cx} {pins : List (Addr × Obj)} {σ : St} {H : Hp} {s : Shared} {h' : Heap} {t' : Nat} {ch : List Addr} (I : Inv X pins σ H s) (k : ∀ b o, b ∉ ch → s.heap.get? b = some o → h'.get? b = some o)
    (hf : ∀ b ∈ ch, FpOk X pins H b) : Inv X pins σ H { s with heap := h', toks := t' } := by
  have nit : ∀ b u, H b = some u → b ∉ ch := fun b u e z => by rw [(hf b z).1] at e; cases e
  refine I.step (g' := s.gens) (d' := s.drawn) (ch := ch) (fun b hb => ?_) (fun b o _ _ hc e _ => k b o hc e) (fun b o _ _ hc e _ => ⟨o.slots, k b o hc e⟩) (fun _ _ _ _ n => n)
    (fun b o hc e => ⟨o, k b o hc e⟩) (fun _ _ e => e) (fun _ _ _ e => e) (fun b ps e => ⟨#[], by rw [e]; simp⟩) (fun m hm => ?_) (fun b u e => ?_) I.bare
  · obtain ⟨_, f1, _, f3, f4, f5⟩ := hf b hb
    exact ⟨f3, f1, f4, f5⟩
  · obtain ⟨o, es, ep, ho, r⟩ := hm
    exact ⟨o, es, ep, k _ o (fun z => (hf _ z).2.1 rfl) ho, r⟩
  · refine (I.hok b u e).stay (fun c v hc q => k c v ?_ q) (fun _ q => q) fun _ _ q => q
    rcases hc with z | z
    · rw [z]; exact nit b u e
    · exact nit c _ z

/-- the same, and a new object is laid and tracked -/
theorem Inv.turnedLaid {X : Cx} {pins : List (Addr × Obj)} {σ : St} {H : Hp} {s : Shared} {h' : Heap} {t' : Nat} {ch : List Addr} {a : Addr} {o : HO} (I : Inv X pins σ H s) (k : ∀ b o, b ∉ ch → s.heap.get? b = some o → h'.get? b = some o)
    (hf : ∀ b ∈ ch, FpOk X pins H b) (hp : s.heap.objs.size ≤ a) (new : ObjOk X.prog X.w (upd H a o) h' a o) : Inv X pins σ (upd H a o) { s with heap := h', toks := t' } := by
  have hn : H a = none := I.hok.fresh hp
  have nit : ∀ b u, H b = some u → b ∉ ch := fun b u e z => by rw [(hf b z).1] at e; cases e
  refine I.step (g' := s.gens) (d' := s.drawn) (ch := ch) (fun b hb => ?_) (fun b o _ _ hc e _ => k b o hc e) (fun b o _ _ hc e _ => ⟨o.slots, k b o hc e⟩) (fun b u _ q n => ?_)
    (fun b o hc e => ⟨o, k b o hc e⟩) (fun b xs q => ?_) (fun b u xs q => ?_) (fun b ps q => ⟨#[], ?_⟩) (fun m hm => ?_) (fun b u e => ?_) I.bare
  · obtain ⟨_, f1, _, f3, f4, f5⟩ := hf b hb
    exact ⟨f3, f1, f4, f5⟩
  · rw [upd_ne (Nat.ne_of_lt (Nat.lt_of_lt_of_le (Heap.lt_size q) hp))]; exact n
  · rw [upd_ne (ne_of_none q hn)]; exact q
  · rw [upd_ne (ne_of_none q hn)]; exact q
  · rw [upd_ne (ne_of_none q hn), q]; simp
  · obtain ⟨o, es, ep, ho, r⟩ := hm
    exact ⟨o, es, ep, k _ o (fun z => (hf _ z).2.1 rfl) ho, r⟩
  · by_cases hb : b = a
    · subst hb; rw [upd_same] at e; cases e; exact new
    · rw [upd_ne hb] at e
      refine (I.hok b u e).stay (fun c v hc q => k c v ?_ q) (fun c q => by rw [upd_ne (ne_of_none q hn)]; exact q) fun c xs q => by rw [upd_ne (ne_of_none q hn)]; exact q
      rcases hc with z | z
      · rw [z]; exact nit b u e
      · exact nit c _ z

/-! ### zip of two lists -/
structure ZApart (z TI TO i1 i2 : Addr) : Prop where
  TIz : TI ≠ z
  TOz : TO ≠ z
  i1z : i1 ≠ z
  i2z : i2 ≠ z
  TITO : TI ≠ TO
  TIi1 : TI ≠ i1
  TIi2 : TI ≠ i2
  TOi1 : TO ≠ i1
  TOi2 : TO ≠ i2
  i12 : i1 ≠ i2
theorem list_ne {h : Heap} {l c : Addr} {xs : Array Value} {o : Obj} (hl : h.IsList l xs) (e : h.get? c = some o) (hc : o.cls ≠ .type "list") : l ≠ c := by
  rintro rfl
  obtain ⟨o', e', c', _⟩ := hl
  rw [e] at e'; cases e'
  exact hc c'
theorem zap (n : Nat) : ZApart (n + 4) (n + 2) (n + 3) n (n + 1) := ⟨(show (@Ne Nat (n + 2) (n + 4) : Prop) by omega), (show (@Ne Nat (n + 3) (n + 4) : Prop) by omega), (show (@Ne Nat (n) (n + 4) : Prop) by omega), (show (@Ne Nat (n + 1) (n + 4) : Prop) by omega), (show (@Ne Nat (n + 2) (n + 3) : Prop) by omega), (show (@Ne Nat (n + 2) (n) : Prop) by omega), (show (@Ne Nat (n + 2) (n + 1) : Prop) by omega), (show (@Ne Nat (n + 3) (n) : Prop) by omega), (show (@Ne Nat (n + 3) (n + 1) : Prop) by omega), (show (@Ne Nat (n) (n + 1) : Prop) by omega)⟩
theorem boot_zip : bootBuiltins "zip" = some (.type "zip") := by decide +kernel
theorem ex_refs2 (n m : Addr) (P : Addr → Addr → Prop) : (∃ i j, [V.ref n, V.ref m] = [V.ref i, V.ref j] ∧ P i j) = P n m := propext ⟨fun ⟨_, _, e, h⟩ => by cases e; exact h, fun h => ⟨n, m, rfl, h⟩⟩
/-! ### f-strings of plain fields -/
section
variable {X : Cx}
end
section
variable {σ : St} {H : Hp} {Q : VK}
end
end L2

set_option Elab.async false
set_option linter.all false
set_option maxRecDepth 100000
namespace L2
open PySem PySem.Spec PyProof.Rows

/-! ### enumerate of a list -/
def Ite (K : PySem.W.Frag) (a : Addr) : It :=
  ⟨fun i H => ∃ xs x, SqL K H a xs ∧ xs[i]? = some x,
   fun i H v H' => ∃ t x, H t = none ∧ v = .ref t ∧ H' = upd H t (.tup [.int i, x]) ∧ ∀ xs, SqL K H a xs → xs[i]? = some x,
   fun i H => ∃ xs, SqL K H a xs ∧ xs.length ≤ i⟩
def ESt (e it l : Addr) (i : Nat) (h : Heap) : Prop := (∃ old, IsEnum h e it i old) ∧ h.IsListIter it l i
theorem turn_enum {P : Program} {w : World} {K : PySem.W.Frag} {elts : List Expr} {k : Nat} {pos : Pos} {e it l : Addr} (hei : e ≠ it) : Turn P w K (.Tuple elts k pos) (Ite K l) [e, it] e (ESt e it l) where
  mem := by simp
  obj := fun i h st b hb => by
    obtain ⟨⟨old, s1⟩, ⟨o4, s4, c4, d4⟩⟩ := st
    simp only [List.mem_cons, List.mem_nil_iff, or_false] at hb
    rcases hb with rfl | rfl
    · exact ⟨_, s1, fun v e => by cases e⟩
    · exact ⟨_, s4, fun v e => by rw [d4] at e; cases e⟩
  keep := fun i h h' st kk => by
    obtain ⟨⟨old, s1⟩, s4⟩ := st
    exact ⟨⟨old, kk e (by simp) _ s1⟩, s4.at fun o z => kk it (by simp) o z⟩
  item := by
    intro X hP hw hK hc i pins s σ H E I hf st hg
    subst hP hw hK
    obtain ⟨xs, x, q1, hx⟩ := hg
    obtain ⟨is1, rv1, p1, _⟩ := I.list q1
    obtain ⟨u1, hu1, ru1⟩ := rv1.get hx
    obtain ⟨⟨old, s1⟩, s4⟩ := st
    refine wpAny_pyNext_enum_item s1 s4 p1.isList (x := u1) (by simpa using hu1) hei fun h' a1 a3 a5 a6 kk => ?_
    refine ⟨_, rfl, wpAny_letOwnedTupleGo_enum a1 fun h'' hz' hs' => ?_⟩
    have lt : ∀ {c o}, s.heap.get? c = some o → s.heap.objs.size ≠ c := fun z => Nat.ne_of_gt (Heap.lt_size z)
    have zne : s.heap.objs.size ≠ e := lt s1
    have keep2 : ∀ b o, b ∉ [e, it] → s.heap.get? b = some o → h''.get? b = some o := fun b o hb z => by
      simp only [List.mem_cons, List.mem_nil_iff, or_false, not_or] at hb
      exact hs'.extBut _ _ hb.1 (kk b o hb.1 hb.2 z)
    have hsz : H s.heap.objs.size = none := I.hok.fresh (Nat.le_refl _)
    have tupN := hs'.extBut _ _ zne a5
    have nlt : ∀ c ∈ [e, it], c ≠ s.heap.objs.size := fun c hc' => by
      obtain ⟨o4, e4, _⟩ := id s4
      simp only [List.mem_cons, List.mem_nil_iff, or_false] at hc'
      rcases hc' with rfl | rfl
      · exact (lt s1).symm
      · exact (lt e4).symm
    refine ⟨.ref s.heap.objs.size, upd H s.heap.objs.size (.tup [.int i, x]), I.turnedLaid (t' := s.toks + 1) keep2 hf (Nat.le_refl _) ⟨smallL (by show 2 ≤ 1000000; decide), [.int i s.toks, u1], .cons ⟨_, rfl⟩ (.cons ru1 .nil), ⟨_, tupN, rfl, rfl, 0, rfl⟩⟩, rfl, ⟨_, x, hsz, rfl, rfl, fun xs' q' => ?_⟩,
      ⟨⟨_, by simpa using hz'⟩, a3.extBut hs'.extBut hei.symm⟩, fun c hc' => ?_⟩
    · rw [I.list_inj q' q1]; exact hx
    · rw [upd_ne (nlt c hc')]; exact (hf c hc').1
  done := by
    intro X hP hw hK hc i pins s σ H E I hf st hg
    subst hP hw hK
    obtain ⟨xs, q1, hlen⟩ := hg
    obtain ⟨is1, rv1, p1, _⟩ := I.list q1
    have l1 := rv1.length
    obtain ⟨⟨old, s1⟩, s4⟩ := st
    refine wpAny_pyNext_enum_end (I.ok.hd hc) s1 s4 p1.isList (by simp; omega) fun h' kk => ⟨rfl, I.turnedL (t' := s.toks) (fun b o hb z => ?_) hf⟩
    simp only [List.mem_cons, List.mem_nil_iff, or_false, not_or] at hb
    exact kk b o hb.2 z
  self := fun A i s Q E st h => by
    obtain ⟨⟨old, s1⟩, _⟩ := st
    exact wpAny_pyIter_enum s1 h
theorem boot_enumerate : bootBuiltins "enumerate" = some (.type "enumerate") := by decide +kernel
def iEnum (K : PySem.W.Frag) (ta : TA) : TI := fun σ H R => ta σ H fun vs H1 => ∃ a : Addr, vs = [.ref a] ∧ (∃ xs, H1 a = some (.lst xs)) ∧ R (Ite K a) H1
theorem iEnum_at (K : PySem.W.Frag) (ta : TA) {σ : St} {H : Hp} {R : It → Hp → Prop} : iEnum K ta σ H R = ta σ H fun vs H1 => ∃ a : Addr, vs = [.ref a] ∧ (∃ xs, H1 a = some (.lst xs)) ∧ R (Ite K a) H1 := rfl
theorem ex_ref1 (n : Addr) (P : Addr → Prop) : (∃ i, [V.ref n] = [V.ref i] ∧ P i) = P n := propext ⟨fun ⟨_, e, h⟩ => by cases e; exact h, fun h => ⟨n, rfl, h⟩⟩
theorem pi_enumK (K : PySem.W.Frag) {X : Cx} {elts : List Expr} {k : Nat} {tpos : Pos} {a : Expr} {ta : TA} {p pos : Pos} (hg : Gl X "enumerate") (hm : X.mg "enumerate" = none) (ha : PA X [a] ta) (hs : starEach [a] X.env = [(false, eval a X.env)] := by rfl) (hK : X.K = K := by rfl) :
    PI X (.Tuple elts k tpos) (.Call (.Name "enumerate" p) [a] [] pos) (iEnum K ta) := by
  subst hK
  intro pins s σ H R I h
  refine Call_ (ld_blt I hg hm boot_enumerate (PyProof.Rows.callWith_type1 (thn (ha pos pins s σ H _ I h) fun us s1 ⟨vs, H1, I1, r1, q1⟩ => ?_) hs rfl))
  obtain ⟨l, e, ⟨xs, h1⟩, q⟩ := q1
  subst e
  obtain ⟨u1, rfl, r1'⟩ := vals1 r1
  obtain rfl : u1 = Value.ref l := r1'
  obtain ⟨hz, its, n, rv, hl⟩ : xs.length ≤ sizeLine ∧ ∃ (its : List Value) (n : Nat), Vals xs its ∧ s1.heap.get? l = some { cls := .type "list", data := .seq its.toArray n } := I1.hok l _ h1
  refine call_enumerate_1 hl fun h' a1 a4 a6 kk => ?_
  refine wpAny_pyIter_enum a1 ⟨_, [s1.heap.objs.size + 1, s1.heap.objs.size], _, _, H1, rfl, I1.kept (t' := s1.toks) kk,
    turn_enum (e := s1.heap.objs.size + 1) (it := s1.heap.objs.size) (Nat.ne_of_gt (Nat.lt_succ_self _)), ⟨⟨_, a1⟩, a4⟩, fun b hb => ?_, q⟩
  have hb' : s1.heap.objs.size ≤ b := by
    simp only [List.mem_cons, List.mem_nil_iff, or_false] at hb
    rcases hb with rfl | rfl <;> first | exact Nat.le_refl _ | exact Nat.le_add_right _ _
  exact I1.fpOk hb' (I1.hok.fresh hb')
section
variable {K : PySem.W.Frag} {a b : Addr} {xs ys : List V} {g : TG} {te : TE} {nT : Nat} {σ : St} {D : Addr} {Q : VK} {H : Hp}
theorem forW_enum {tb : TS} {D : Ends} (Pv : Nat → St → Hp → Prop) (h0 : Pv 0 σ H) (hl : ∀ i σ H, i ≤ xs.length → Pv i σ H → SqL K H a xs)
    (hs : ∀ i x t σ H, xs[i]? = some x → Pv i σ H → H t = none → g (.ref t) σ (upd H t (.tup [.int i, x])) fun σ2 H2 => tb { D with nx := Pv (i + 1), ct := Pv (i + 1), bk := D.nx } σ2 H2) (hd : ∀ σ H, Pv xs.length σ H → D.nx σ H) : forW (Ite K a) g tb D σ H := by
  refine forW_by xs.length Pv h0 (fun i σ H hi p => ⟨xs, xs[i], hl i σ H (Nat.le_of_lt hi) p, by simp [hi]⟩) (fun σ H p => ⟨xs, hl _ σ H (Nat.le_refl _) p, Nat.le_refl _⟩) (fun i σ H v H' hi p yl => ?_) hd
  obtain ⟨t, x, ht, rfl, rfl, y1⟩ := yl
  exact hs i x t σ H (y1 xs (hl i σ H (Nat.le_of_lt hi) p)) p ht
end
end L2

set_option Elab.async false
set_option linter.all false
set_option maxRecDepth 100000
namespace L2
open PySem PySem.Spec PyProof.Rows

/-! ### a text's slice -/
end L2

set_option Elab.async false
set_option linter.all false
set_option maxRecDepth 100000
namespace L2
open PySem PySem.Spec PyProof.Rows

/-! ### what may stand in a tuple that is a dict's key, tuples too -/
structure IK (prog : Program) (w : World) (κ : Type) [DecidableEq κ] where
  is : Heap → κ → Value → Prop
  hash : κ → Int
  draws : κ → Nat
  deep : Nat
  inj : ∀ {h : Heap} {v : Value} {x y : κ}, is h x v → is h y v → x = y
  keeps : ∀ {h h' : Heap} {k : κ} {v : Value} {d : Addr} {o : Obj} {es ep}, is h k v → h.get? d = some o → o.data = .dict es ep → Heap.SameBut d h h' → is h' k v
  pyHash : ∀ {A : Around} {E : Value → Shared → Prop} {s : Shared} {k : κ} {v : Value} {Q : Int → Shared → Prop}, A.units + deep < cLine → is s.heap k v → Q (hash k) { s with toks := s.toks + draws k } →
    wpAny (model prog w) A (PySem.pyHash v) Q E s
  eqBool : ∀ {A : Around} {E : Value → Shared → Prop} {s : Shared} {x y : κ} {u v : Value} {Q : Bool → Shared → Prop}, A.units + deep < cLine → is s.heap x u → is s.heap y v → Q (decide (x = y)) s →
    wpAny (model prog w) A (PySem.eqBool u v) Q E s
  quiet : ∀ {A : Around} {E : Value → Shared → Prop} {s : Shared} {k : κ} {v : Value} {n : Nat} {Q : Bool → Shared → Prop}, is s.heap k v → Q true s → wpAny (model prog w) A (eqIsQuiet (n + deep) v) Q E s
section
variable {prog : Program} {w : World} {κ : Type} [DecidableEq κ] (K : IK prog w κ)
inductive IsItems (h : Heap) : List κ → List Value → Prop
  | nil : IsItems h [] []
  | cons {k : κ} {v : Value} {ks : List κ} {vs : List Value} : K.is h k v → IsItems h ks vs → IsItems h (k :: ks) (v :: vs)
def IsTupK (h : Heap) (ks : List κ) (v : Value) : Prop := ∃ a o items n, v = .ref a ∧ h.get? a = some o ∧ o.cls = .type "tuple" ∧ o.data = .seq items n ∧ IsItems K h ks items.toList
variable {K}
theorem IsItems.inj {h : Heap} : ∀ {x y : List κ} {vs : List Value}, IsItems K h x vs → IsItems K h y vs → x = y
  | _, _, _, .nil, .nil => rfl
  | _, _, _, .cons a b, .cons c d => by rw [K.inj a c, IsItems.inj b d]
theorem IsItems.keeps {h h' : Heap} {d : Addr} {o : Obj} {es ep} (ho : h.get? d = some o) (hd : o.data = .dict es ep) (hs : Heap.SameBut d h h') : ∀ {x : List κ} {vs : List Value}, IsItems K h x vs → IsItems K h' x vs
  | _, _, .nil => .nil
  | _, _, .cons a b => .cons (K.keeps a ho hd hs) (b.keeps ho hd hs)
theorem IsItems.len {h : Heap} : ∀ {x : List κ} {vs : List Value}, IsItems K h x vs → x.length = vs.length
  | _, _, .nil => rfl
  | _, _, .cons _ b => by rw [List.length_cons, List.length_cons, b.len]
def sumD (K : IK prog w κ) (ks : List κ) : Nat := (ks.map K.draws).sum
def tupH (K : IK prog w κ) (ks : List κ) : Int := reduceHash (Builtin.Tuple.tupleHashOf (ks.map K.hash))
theorem hash_tupK {A : Around} {E : Value → Shared → Prop} {s : Shared} {ks : List κ} {v : Value} {Q : Int → Shared → Prop} (hu : A.units + (K.deep + 1) < cLine) (hk : IsTupK K s.heap ks v) (h : Q (tupH K ks) { s with toks := s.toks + (sumD K ks + 1) }) :
    wpAny (model prog w) A (PySem.pyHash v) Q E s := by
  obtain ⟨a, o, items, n, rfl, ho, hc, hd, hi⟩ := hk
  have hT : s.TypeIs (.ref a) "tuple" := ⟨o, ho, hc⟩
  unfold PySem.pyHash
  first | unfold pyHashByItsType | skip
  first | refine wpAny_bind (wpAny_cRoomFor_or (.inr (by omega)) ?_) | skip
  refine wpAny_bind (wpAny_specialOf hT PySem.F.slot_tuple_hash.lookup ?_)
  rw [if_neg (by rw [beq_builtin_none]; exact Bool.false_ne_true)]
  refine wpAny_bind (wpAny_specialOf hT PySem.F.slot_tuple_hash.lookup ?_)
  show wpAny _ _ (callSpecialIfBoundUnlessNone? (.ref a) "__hash__" _ >>= _) Q E s
  refine wpAny_bind (wpAny_callSpecialIfBoundUnlessNone?_slot hT PySem.F.slot_tuple_hash (wpAny_call_entry PySem.F.slot_tuple_hash hT
    PySem.F.entry_tuple_hash ?_ (PySem.F.args_tuple_hash_1 _)))
  show wpAny _ _ (Builtin.Tuple.tupleItemsOf (.ref a) >>= _) _ _ s
  refine wpAny_bind (wpAny_tupleItemsOf ho hd (wpAny_bind ?_))
  rw [← Array.forIn_toList]
  refine wpAny_forIn_list _ (fun rest (b : Array Int) s' => ∃ done left, ks = done ++ left ∧ IsItems K s.heap left rest ∧ b.toList = done.map K.hash ∧ s' = { s with toks := s.toks + sumD K done }) _ ?_ ?_ _ _ ⟨[], ks, rfl, hi, rfl, rfl⟩
  · rintro x rest b s' ⟨done, left, rfl, hl, hb, rfl⟩
    cases hl with
    | @cons k _ ks' _ h1 hl' =>
      have e : sumD K (done ++ [k]) = sumD K done + K.draws k := by simp [sumD]
      refine wpAny_bind (K.pyHash (show A.in1.units + K.deep < cLine from by show A.units + 1 + K.deep < cLine; omega) h1 ?_)
      have fin : ∃ done' left', done ++ k :: ks' = done' ++ left' ∧ IsItems K s.heap left' rest ∧ (b.push (K.hash k)).toList = done'.map K.hash ∧ ({ s with toks := s.toks + sumD K done + K.draws k } : Shared) = { s with toks := s.toks + sumD K done' } :=
        ⟨done ++ [k], ks', by simp, hl', by simp [hb], by rw [e, Nat.add_assoc]⟩
      first
        | exact wpAny_pure fin
        | exact wpAny_bind (wpAny_pure (wpAny_pure fin))
  · rintro b s' ⟨done, left, rfl, hl, hb, rfl⟩
    cases hl
    rw [List.append_nil] at h
    show wpAny _ _ (retInt (Builtin.Tuple.tupleHashOf b.toList)) _ _ _
    rw [hb]
    refine wpAny_ret_mkInt ?_
    unfold tupH reduceHash at h
    show wpAny _ _ (if (decide (-(2 : Int) ^ 63 ≤ Builtin.Tuple.tupleHashOf (done.map K.hash)) && decide (Builtin.Tuple.tupleHashOf (done.map K.hash) < 2 ^ 63)) = true then _ else _) Q E _
    by_cases hr : (decide (-(2 : Int) ^ 63 ≤ Builtin.Tuple.tupleHashOf (done.map K.hash)) && decide (Builtin.Tuple.tupleHashOf (done.map K.hash) < 2 ^ 63)) = true
    · rw [if_pos hr] at h ⊢
      exact wpAny_pure (by simpa [Nat.add_assoc] using h)
    · rw [if_neg hr] at h ⊢
      exact wpAny_bind (wpAny_rule (wpAny_pure (by simpa [Nat.add_assoc] using h)))
theorem eq_tupTree {A : Around} {E : Value → Shared → Prop} {s : Shared} {x y : List κ} {a b : Addr} {P : Fin → Shared → Prop} (hu : A.units + K.deep < cLine) (hx : IsTupK K s.heap x (.ref a)) (hy : IsTupK K s.heap y (.ref b)) (h : P (.done (.ret (.bool (decide (x = y))))) s) :
    wpAny (model prog w) A (Builtin.«tuple.__eq__» ⟨[.ref a, .ref b], []⟩) P E s := by
  obtain ⟨_, oa, xs, na, e1, hoa, ca, hda, hia⟩ := hx
  obtain ⟨_, ob, ys, nb, e2, hob, cb, hdb, hib⟩ := hy
  cases e1
  cases e2
  show wpAny _ _ (isInstance (.ref b) (.type "tuple") >>= _) _ _ s
  refine wpAny_bind (wpAny_isInstance ⟨ob, hob, cb⟩ isSubtype_tuple_tuple ?_)
  simp only [Bool.not_true, Bool.false_eq_true, if_false]
  refine wpAny_bind (wpAny_tupleItemsOf hoa hda (wpAny_bind (wpAny_tupleItemsOf hob hdb (wpAny_bind ?_))))
  refine wpAny_forIn_list _ (fun rest r s' => r.1 = none ∧ s' = s ∧ ∃ x' y' xs' ys', rest = List.zip xs' ys' ∧ IsItems K s.heap x' xs' ∧ IsItems K s.heap y' ys' ∧ decide (x' = y') = decide (x = y) ∧ (xs'.length == ys'.length) = (xs.size == ys.size)) _ ?_ ?_ _ _
    ⟨rfl, rfl, x, y, xs.toList, ys.toList, rfl, hia, hib, rfl, by simp⟩
  · rintro ⟨u, v⟩ rest r s' ⟨hr, rfl, x', y', xs', ys', hz, hx', hy', hdec, hlen⟩
    cases hx' with
    | nil => simp at hz
    | @cons k1 u' x'' xs'' h1 hx'' =>
      cases hy' with
      | nil => simp at hz
      | @cons k2 v' y'' ys'' h2 hy'' =>
        simp only [List.zip_cons_cons, List.cons.injEq, Prod.mk.injEq] at hz
        obtain ⟨⟨rfl, rfl⟩, rfl⟩ := hz
        refine wpAny_bind (K.eqBool (x := k1) (y := k2) hu h1 h2 ?_)
        by_cases hk : k1 = k2
        · subst hk
          rw [decide_eq_true rfl]
          simp only [Bool.not_true, Bool.false_eq_true, if_false]
          refine wpAny_pure ⟨rfl, rfl, x'', y'', xs'', ys'', rfl, hx'', hy'', ?_, by simpa using hlen⟩
          rw [← hdec]
          by_cases hxy : x'' = y'' <;> simp [hxy]
        · rw [decide_eq_false hk]
          simp only [Bool.not_false, if_true]
          have hf : decide (x = y) = false := by rw [← hdec]; simp [hk]
          rw [hf] at h
          exact wpAny_bind (wpAny_pure (wpAny_pure (wpAny_pure h)))
  · rintro ⟨r1, r2⟩ s' ⟨hr, rfl, x', y', xs', ys', hz, hx', hy', hdec, hlen⟩
    simp only at hr
    subst hr
    refine wpAny_pure ?_
    have hfin : (xs.size == ys.size) = decide (x = y) := by
      rw [← hdec, ← hlen]
      cases hx' with
      | nil => cases hy' <;> simp
      | cons _ _ =>
        cases hy' with
        | nil => simp
        | cons _ _ => simp at hz
    show P (.done (.ret (.bool (xs.size == ys.size)))) s'
    rw [hfin]; exact h
theorem eq_tupK {A : Around} {E : Value → Shared → Prop} {s : Shared} {x y : List κ} {u v : Value} {Q : Bool → Shared → Prop} (hu : A.units + (K.deep + 1) < cLine) (hx : IsTupK K s.heap x u) (hy : IsTupK K s.heap y v) (h : Q (decide (x = y)) s) :
    wpAny (model prog w) A (PySem.eqBool u v) Q E s := by
  have hx0 := hx
  have hy0 := hy
  obtain ⟨a, oa, xs, na, rfl, hoa, ca, hda, hia⟩ := hx
  obtain ⟨b, ob, ys, nb, rfl, hob, cb, hdb, hib⟩ := hy
  unfold PySem.eqBool
  try with_reducible refine wpAny_holding ?_
  show wpAny _ _ (if (Value.ref a == Value.ref b) = true then _ else _) Q E s
  by_cases hab : (Value.ref a == Value.ref b) = true
  · rw [if_pos hab]
    have e : a = b := by have := eq_of_beq hab; injection this
    subst e
    rw [hoa] at hob
    cases hob
    rw [hda] at hdb
    injection hdb with e1 _
    subst e1
    rw [decide_eq_true (hia.inj hib)] at h
    exact wpAny_bind (wpAny_rule (wpAny_pure h))
  · rw [if_neg hab]
    have ta : s.TypeIs (.ref a) "tuple" := ⟨oa, hoa, ca⟩
    have tb : s.TypeIs (.ref b) "tuple" := ⟨ob, hob, cb⟩
    refine wpAny_bind (wpAny_richCompare_same_room (op := .Eq) ta tb PySem.F.slot_tuple_eq (wpAny_call_entry PySem.F.slot_tuple_eq ta PySem.F.entry_tuple_eq ?_ (PySem.F.args_tuple_eq_2 _ _)) (by omega))
    refine eq_tupTree (K := K) ?_ hx0 hy0 ⟨_, rfl, (fun e => nomatch e), wpAny_truthy_bool h⟩
    show A.units + 1 + K.deep < cLine
    omega
theorem quiet_tupK {A : Around} {E : Value → Shared → Prop} {s : Shared} {ks : List κ} {v : Value} {n : Nat} {Q : Bool → Shared → Prop} (hk : IsTupK K s.heap ks v) (h : Q true s) : wpAny (model prog w) A (eqIsQuiet (n + (K.deep + 1)) v) Q E s := by
  obtain ⟨a, o, items, m, rfl, ho, hc, hd, hi⟩ := hk
  have hT : s.TypeIs (.ref a) "tuple" := ⟨o, ho, hc⟩
  rw [show n + (K.deep + 1) = (n + K.deep) + 1 from rfl]
  unfold eqIsQuiet
  refine wpAny_bind (wpAny_specialOf hT PySem.F.slot_tuple_eq.lookup ?_)
  show wpAny _ _ (isInstance (.ref a) (.type "tuple") >>= _) _ _ s
  refine wpAny_bind (wpAny_isInstance hT isSubtype_tuple_tuple ?_)
  simp only [Bool.not_true, Bool.false_eq_true, if_false]
  refine wpAny_bind (wpAny_seqItems ho hd (wpAny_bind ?_))
  show wpAny _ _ (forIn items _ _) _ _ s
  rw [← Array.forIn_toList]
  refine wpAny_forIn_list _ (fun rest r s' => r.1 = none ∧ s' = s ∧ ∃ ks', IsItems K s.heap ks' rest) _ ?_ ?_ _ _ ⟨rfl, rfl, ks, hi⟩
  · rintro v rest r s' ⟨hr, rfl, ks', hall⟩
    cases hall with
    | cons h1 h2 =>
      refine wpAny_bind (K.quiet h1 ?_)
      simp only [Bool.not_true, Bool.false_eq_true, if_false]
      exact wpAny_pure ⟨rfl, rfl, _, h2⟩
  · rintro ⟨r1, r2⟩ s' ⟨hr, rfl, _⟩
    simp only at hr
    subst hr
    exact wpAny_pure h
/-- tuples of such -/
def tupK (K : IK prog w κ) : IK prog w (List κ) where
  is := IsTupK K
  hash := tupH K
  draws := fun ks => sumD K ks + 1
  deep := K.deep + 1
  inj := by
    rintro h v x y ⟨a, oa, xs, na, rfl, hoa, ca, hda, hia⟩ ⟨b, ob, ys, nb, e, hob, cb, hdb, hib⟩
    cases e
    rw [hoa] at hob
    cases hob
    rw [hda] at hdb
    injection hdb with e1 _
    subst e1
    exact hia.inj hib
  keeps := by
    rintro h h' k v d o es ep ⟨a, oa, xs, na, rfl, hoa, ca, hda, hia⟩ ho hd hs
    have hne : a ≠ d := by
      rintro rfl
      rw [hoa] at ho
      cases ho
      rw [hd] at hda; cases hda
    exact ⟨a, oa, xs, na, rfl, (hs.2 a hne).trans hoa, ca, hda, hia.keeps ho hd hs⟩
  pyHash := fun hu hk h => hash_tupK hu hk h
  eqBool := fun hu hx hy h => eq_tupK hu hx hy h
  quiet := fun hk h => quiet_tupK hk h
/-- a dict's keys -/
def heapK (K : IK prog w κ) (hd : K.deep ≤ 7) : HeapKind prog w (List κ) where
  is := fun h k a => IsTupK K h k (.ref a)
  hash := tupH K
  draws := fun ks => sumD K ks + 1
  room := fun A => A.units + (K.deep + 1) < cLine
  inj := (tupK K).inj
  keeps := (tupK K).keeps
  pyHash := fun hu hk h => hash_tupK hu hk h
  eqBool := fun hu hx hy h => eq_tupK hu hx hy h
  quiet := fun {A E s k a Q} hk h => by
    have q := quiet_tupK (n := 7 - K.deep) (A := A) (E := E) hk h
    rwa [show 7 - K.deep + (K.deep + 1) = 8 by omega] at q
end
end L2

set_option Elab.async false
set_option linter.all false
set_option maxRecDepth 100000
namespace L2
open PySem PySem.Spec PyProof.Rows

/-! ### None or an int; an int or a tuple of these -/
def optV : Option Int → V
  | none => .non
  | some i => .int i
theorem optV_inj {x y : Option Int} {v : Value} (a : RelV (optV x) v) (b : RelV (optV y) v) : x = y := by
  have e := a.inj b
  cases x <;> cases y <;> simp_all [optV]
theorem optV_flat (x : Option Int) : flatV (optV x) = true := by cases x <;> rfl
theorem optV_eq (x y : Option Int) : eqV (optV x) (optV y) = decide (x = y) := by
  cases x with
  | none => cases y <;> rfl
  | some i =>
    cases y with
    | none => rfl
    | some j =>
      show (i == j) = _
      by_cases h : i = j <;> simp [h]
theorem hash_none {prog : Program} {w : World} {A : Around} {E : Value → Shared → Prop} {s : Shared} {Q : Int → Shared → Prop} (h : Q 0xFCA86420 { s with toks := s.toks + 1 }) : wpAny (model prog w) A (PySem.pyHash .none) Q E s := by
  have hT : s.TypeIs .none "NoneType" := rfl
  unfold PySem.pyHash
  first | unfold pyHashByItsType | skip
  refine wpAny_bind ?_
  rw [cRoomFor, if_neg (by decide)]
  refine wpAny_pure (wpAny_bind (wpAny_specialOf hT PySem.F.slot_NoneType_hash.lookup ?_))
  rw [if_neg (by rw [beq_builtin_none]; exact Bool.false_ne_true)]
  refine wpAny_bind (wpAny_specialOf hT PySem.F.slot_NoneType_hash.lookup ?_)
  show wpAny _ _ (callSpecialIfBoundUnlessNone? .none "__hash__" _ >>= _) Q E s
  refine wpAny_bind (wpAny_callSpecialIfBoundUnlessNone?_slot hT PySem.F.slot_NoneType_hash (wpAny_call_entry PySem.F.slot_NoneType_hash hT
    PySem.F.entry_NoneType_hash ?_ (PySem.F.args_NoneType_hash_1 _)))
  show wpAny _ _ (retInt 0xFCA86420) _ _ s
  refine wpAny_ret_mkInt ?_
  exact wpAny_pure h
def optK (prog : Program) (w : World) : IK prog w (Option Int) where
  is := fun _ k v => RelV (optV k) v
  hash := fun k => match k with
    | none => 0xFCA86420
    | some i => hashInt i
  draws := fun _ => 1
  deep := 0
  inj := fun a b => optV_inj a b
  keeps := fun a _ _ _ => a
  pyHash := fun {A E s k v Q} _ hk h => by
    cases k with
    | none =>
      obtain rfl : v = Value.none := hk
      exact hash_none h
    | some i =>
      obtain ⟨t, rfl⟩ := (show ∃ t, v = Value.int i t from hk)
      exact wpAny_pyHash_int h
  eqBool := fun {A E s x y u v Q} _ hx hy h => by
    have q := eqAt_V (A := A) (s := s) hx hy (optV_flat x) (optV_flat y)
    rw [optV_eq] at q
    exact q prog w E Q h
  quiet := fun {A E s k v n Q} hk h => by
    have e : carriedByValue v = true := by
      cases k with
      | none => obtain rfl : v = Value.none := hk; rfl
      | some i => obtain ⟨t, rfl⟩ := (show ∃ t, v = Value.int i t from hk); rfl
    rw [eqIsQuiet_byValue _ e]
    exact wpAny_pure h
abbrev NI := Sum Int (List (Option Int))
def IsNI (prog : Program) (w : World) (h : Heap) : NI → Value → Prop
  | .inl i, v => ∃ t, v = Value.int i t
  | .inr l, v => IsTupK (optK prog w) h l v
theorem IsTupK.tup {prog : Program} {w : World} {κ : Type} [DecidableEq κ] {K : IK prog w κ} {h : Heap} {l : List κ} {v : Value} (x : IsTupK K h l v) : ∃ a its, v = .ref a ∧ h.IsTuple a its := by
  obtain ⟨a, o, items, n, rfl, ho, hc, hd, hi⟩ := x
  exact ⟨a, items, rfl, o, ho, hc, n, hd⟩
theorem ni_room {A : Around} {prog : Program} {w : World} (hu : A.units + 1 < cLine) : A.units + ((optK prog w).deep + 1) < cLine := hu
theorem ni_ll (i j : Int) : (i == j) = decide ((Sum.inl i : NI) = Sum.inl j) := by
  by_cases z : i = j
  · subst z; simp
  · have z' : ¬ ((Sum.inl i : NI) = Sum.inl j) := fun q => z (Sum.inl.inj q)
    rw [decide_eq_false z']; simpa using z
theorem ni_rr (l l' : List (Option Int)) : decide (l = l') = decide ((Sum.inr l : NI) = Sum.inr l') := by
  by_cases z : l = l'
  · subst z; simp
  · have z' : ¬ ((Sum.inr l : NI) = Sum.inr l') := fun q => z (Sum.inr.inj q)
    rw [decide_eq_false z', decide_eq_false z]
theorem ni_lr (i : Int) (l : List (Option Int)) : decide ((Sum.inl i : NI) = Sum.inr l) = false := decide_eq_false (fun q => nomatch q)
theorem ni_rl (i : Int) (l : List (Option Int)) : decide ((Sum.inr l : NI) = Sum.inl i) = false := decide_eq_false (fun q => nomatch q)
theorem ni_eq {prog : Program} {w : World} {A : Around} {E : Value → Shared → Prop} {s : Shared} {u v : Value} {Q : Bool → Shared → Prop} (hu : A.units + 1 < cLine) : ∀ (x y : NI), IsNI prog w s.heap x u → IsNI prog w s.heap y v → Q (decide (x = y)) s →
    wpAny (model prog w) A (PySem.eqBool u v) Q E s
  | .inl i, .inl j, ⟨t, e1⟩, ⟨t', e2⟩, h => by
    subst e1 e2
    rw [← ni_ll] at h
    exact wpAny_eqBool_int h
  | .inl i, .inr l, ⟨t, e1⟩, hy, h => by
    subst e1
    obtain ⟨b, its, rfl, ht⟩ := IsTupK.tup (K := optK prog w) hy
    rw [ni_lr] at h
    exact SeqAt.EqAt.int_tuple i t ht (Nat.lt_of_succ_lt hu) prog w E Q h
  | .inr l, .inl j, hx, ⟨t, e1⟩, h => by
    subst e1
    obtain ⟨b, its, rfl, ht⟩ := IsTupK.tup (K := optK prog w) hx
    rw [ni_rl] at h
    exact SeqAt.EqAt.tuple_int j t ht (Nat.lt_of_succ_lt hu) prog w E Q h
  | .inr l, .inr l', hx, hy, h => by
    rw [← ni_rr] at h
    exact eq_tupK (K := optK prog w) (ni_room hu) hx hy h
def niK (prog : Program) (w : World) : IK prog w NI where
  is := IsNI prog w
  hash := fun k => match k with
    | .inl i => hashInt i
    | .inr l => tupH (optK prog w) l
  draws := fun k => match k with
    | .inl _ => 1
    | .inr l => sumD (optK prog w) l + 1
  deep := 1
  inj := fun {h v x y} a b => by
    cases x with
    | inl i =>
      obtain ⟨t, rfl⟩ := (show ∃ t, v = Value.int i t from a)
      cases y with
      | inl j => obtain ⟨t', e⟩ := (show ∃ t', Value.int i t = Value.int j t' from b); injection e with e1 _; rw [e1]
      | inr l => obtain ⟨a, _, e, _⟩ := IsTupK.tup (show IsTupK (optK prog w) h l _ from b); cases e
    | inr l =>
      cases y with
      | inl j =>
        obtain ⟨t, rfl⟩ := (show ∃ t, v = Value.int j t from b)
        obtain ⟨a, _, e, _⟩ := IsTupK.tup (show IsTupK (optK prog w) h l _ from a); cases e
      | inr l' => rw [(tupK (optK prog w)).inj (show IsTupK (optK prog w) h l v from a) (show IsTupK (optK prog w) h l' v from b)]
  keeps := fun {h h' k v d o es ep} a ho hd hs => by
    cases k with
    | inl i => exact a
    | inr l => exact (tupK (optK prog w)).keeps (show IsTupK (optK prog w) h l v from a) ho hd hs
  pyHash := fun {A E s k v Q} hu hk h => by
    cases k with
    | inl i =>
      obtain ⟨t, rfl⟩ := (show ∃ t, v = Value.int i t from hk)
      exact wpAny_pyHash_int h
    | inr l => exact hash_tupK (K := optK prog w) (ni_room hu) hk h
  eqBool := fun {A E s x y u v Q} hu hx hy h => ni_eq hu x y hx hy h
  quiet := fun {A E s k v n Q} hk h => by
    cases k with
    | inl i =>
      obtain ⟨t, rfl⟩ := (show ∃ t, v = Value.int i t from hk)
      rw [eqIsQuiet_byValue _ rfl]
      exact wpAny_pure h
    | inr l => exact quiet_tupK (K := optK prog w) hk h
end L2

set_option Elab.async false
set_option linter.all false
set_option maxRecDepth 100000
namespace L2
open PySem PySem.Spec PyProof.Rows

/-! ### dicts whose keys are pairs of an int and a tuple -/
abbrev NKey := Int × List (Option Int)
def nk (k : NKey) : List NI := [.inl k.1, .inr k.2]
theorem nk_inj {k k' : NKey} (h : nk k = nk k') : k = k' := by
  obtain ⟨a, b⟩ := k
  obtain ⟨c, d⟩ := k'
  unfold nk at h
  simp at h
  rw [h.1, h.2]
def MK (P : Program) (w : World) : HeapKind P w (List NI) := heapK (niK P w) (show 1 ≤ 7 by decide)
def NDict (P : Program) (w : World) (a : Addr) (xs : List (List NI × Addr × Value)) : HO :=
  .ext fun h => ∃ o es ep, h.get? a = some o ∧ o.ExactDict ∧ o.data = .dict es ep ∧ es.toList = xs.map (entryOfKey (MK P w)) ∧ (xs.map (·.1)).Nodup
def KeyAt (H : Hp) (k : NKey) (b : Addr) : Prop := ∃ t, H b = some (.tup [.int k.1, .ref t]) ∧ H t = some (.tup (k.2.map optV))
def NRow (H : Hp) (p : NKey × V) (q : List NI × Addr × Value) : Prop := q.1 = nk p.1 ∧ KeyAt H p.1 q.2.1 ∧ RelV p.2 q.2.2
def DN (P : Program) (w : World) (H : Hp) (a : Addr) (kvs : List (NKey × V)) : Prop :=
  ∃ xs, H a = some (NDict P w a xs) ∧ (a == sysModules) = false ∧ xs.length ≤ sizeLine ∧ Paired (NRow H) kvs xs
theorem KeyAt.mono {H H' : Hp} {k : NKey} {b : Addr} (h : KeyAt H k b) (sm : ∀ c xs, H c = some (.tup xs) → H' c = some (.tup xs)) : KeyAt H' k b := by
  obtain ⟨t, h1, h2⟩ := h
  exact ⟨t, sm _ _ h1, sm _ _ h2⟩
theorem DN.mono {P : Program} {w : World} {H H' : Hp} {a : Addr} {kvs : List (NKey × V)} (h : DN P w H a kvs) (sm : Same H H') : DN P w H' a kvs := by
  obtain ⟨xs, h1, h2, h3, h4⟩ := h
  exact ⟨xs, sm _ _ h1, h2, h3, Paired.imp' (fun p q z => ⟨z.1, z.2.1.mono fun c ys e => sm _ _ e, z.2.2⟩) h4⟩
theorem DN.len {P : Program} {w : World} {H : Hp} {a : Addr} {kvs : List (NKey × V)} (h : DN P w H a kvs) : kvs.length ≤ sizeLine := by
  obtain ⟨xs, h1, h2, h3, h4⟩ := h
  rw [Paired.length h4]; exact h3
section
variable {P : Program} {w : World} {H : Hp}
theorem NRow.val : ∀ {kvs : List (NKey × V)} {xs : List (List NI × Addr × Value)} (k : NKey), Paired (NRow H) kvs xs → RelO (valV kvs k) ((atKey xs (nk k)).map (·.2))
  | _, _, k, .nil => True.intro
  | _, _, k, @Paired.cons _ _ _ p q kvs xs r t => by
    have ih := NRow.val k t
    obtain ⟨e1, e2, e3⟩ := r
    by_cases h : p.1 = k
    · have h1 : valV (p :: kvs) k = some p.2 := by simp [valV, h]
      have h2 : atKey (q :: xs) (nk k) = some q.2 := by simp [atKey, e1, h]
      rw [h1, h2]; exact e3
    · have hn : ¬ q.1 = nk k := fun z => h (nk_inj (e1.symm.trans z))
      have h1 : valV (p :: kvs) k = valV kvs k := by simp [valV, h]
      have h2 : atKey (q :: xs) (nk k) = atKey xs (nk k) := by simp [atKey, hn]
      rw [h1, h2]; exact ih
theorem items_of_vals {h : Heap} : ∀ {l : List (Option Int)} {us : List Value}, Vals (l.map optV) us → IsItems (optK P w) h l us
  | [], _, .nil => .nil
  | x :: l, _, .cons r t => .cons r (items_of_vals t)
end
section
variable {X : Cx} {pins : List (Addr × Obj)} {σ : St} {H : Hp} {s : Shared} {a b : Addr} {k : NKey} {kvs : List (NKey × V)}
theorem Inv.key (I : Inv X pins σ H s) (h : KeyAt H k b) : (MK X.prog X.w).is s.heap (nk k) b := by
  obtain ⟨t, h1, h2⟩ := h
  obtain ⟨_, its, r, o, e, c, n, d⟩ : ([V.int k.1, V.ref t] : List V).length ≤ sizeLine ∧ ∃ its : List Value, Vals [V.int k.1, V.ref t] its ∧ IsTup s.heap b its.toArray := by obtain ⟨z, its, r, p⟩ := I.hok b _ h1; exact ⟨z, its, r, p.tup⟩
  obtain ⟨_, its2, r2, o2, e2, c2, n2, d2⟩ : (k.2.map optV).length ≤ sizeLine ∧ ∃ its : List Value, Vals (k.2.map optV) its ∧ IsTup s.heap t its.toArray := by obtain ⟨z, its, r, p⟩ := I.hok t _ h2; exact ⟨z, its, r, p.tup⟩
  obtain ⟨u, v, rfl, ru, rv⟩ := vals2 r
  cases rv
  refine ⟨b, o, _, n, rfl, e, c, d, ?_⟩
  show IsItems (niK X.prog X.w) s.heap [.inl k.1, .inr k.2] [u, .ref t]
  exact .cons ru (.cons ⟨t, o2, _, n2, rfl, e2, c2, d2, by simpa using items_of_vals r2⟩ .nil)
/-! the rules -/
theorem Paired.snoc {α β : Type} {F : α → β → Prop} {x : α} {y : β} (h : F x y) : ∀ {l : List α} {m : List β}, Paired F l m → Paired F (l ++ [x]) (m ++ [y])
  | _, _, .nil => .cons h .nil
  | _, _, .cons r t => .cons r (Paired.snoc h t)
end
end L2

set_option Elab.async false
set_option linter.all false
set_option maxRecDepth 100000
namespace L2
open PySem PySem.Spec PyProof.Rows PySem.SeqAt

/-! ### a[b], a a list, a tuple, a text or a dict of int and text keys -/
section
variable {X : Cx}
def rIxB (K : PySem.W.Frag) : R2 := fun x y H Q => rIxA K x y H Q ∨ ∃ a kvs k v, x = .ref a ∧ y = kV k ∧ H a = some (.dK kvs) ∧ valV kvs k = some v ∧ Q v H
theorem ix_B (K : PySem.W.Frag) (hK : X.K = K := by rfl) : IxR X (rIxB K) := by
  intro value slice pins s σ H x y v u Q I rx ry h hs
  rcases h with h | ⟨a, kvs, k, z, rfl, rfl, e, l, q⟩
  · exact ix_K K hK value slice pins s σ H x y v u Q I rx ry h hs
  · cases rx
    obtain ⟨_, hd, vs, rel, dd⟩ := dk_rd I.hok (.inl e)
    obtain ⟨w', hw, rw'⟩ := RelO.some_of (v := z) (o := valueAt vs k) (by rw [← l]; exact rel.val k)
    have hl : typeLookup (.type "dict") "__getitem__" = pure (some (.builtin "dict.__getitem__")) := PySem.F.slot_dict_getitem.lookup
    exact subscriptTail_builtinR (x := w') dd.typeIs hl (wpAny_getItem_of (kV_is ry) dd.mapOf hw ⟨rfl, z, H, I.tok _, rw', q⟩) hs
/-! ### in, not in a dict; a dict's store -/
def rSetD : TSet := fun o i v H Q => ∃ a kvs k, o = .ref a ∧ i = kV k ∧ H a = some (.dK kvs) ∧ kvs.length < sizeLine ∧ Q (upd H a (.dK (putK kvs k v)))
theorem set_D {n : Nat} (hr : Room n X.A) : PSet X rSetD := by
  intro pins s σ H o i v ov iv u Q I ro ri rv h
  obtain ⟨a, kvs, k, rfl, rfl, e, hl, q⟩ := h
  cases ro
  exact d_setItem (by have := hr.un; omega) I (DPut.k e hl) ri rv fun s' I' => ⟨_, I', q⟩
end
section
variable {K : PySem.W.Frag} {H : Hp} {Q : VK}
theorem EqN.ints {n : Nat} {a c : Addr} {ss ts : List Int} (h1 : SqL K H a (ss.map V.int)) (h2 : SqL K H c (ts.map V.int)) : EqN K H (n + 1) (.ref a) (.ref c) (decide (ss = ts)) := by
  refine .inr ⟨a, c, _, _, rfl, rfl, .inl ⟨h1, h2⟩, ?_⟩
  by_cases hl : ss.length = ts.length
  · refine .inl ⟨fun i => ss.getD i 0 == ts.getD i 0, by simp [hl], fun i x y e1 e2 => ?_, ?_⟩
    · rw [List.getElem?_map] at e1 e2
      cases q1 : ss[i]? with
      | none => rw [q1] at e1; cases e1
      | some u =>
        cases q2 : ts[i]? with
        | none => rw [q2] at e2; cases e2
        | some v =>
          rw [q1] at e1; rw [q2] at e2
          cases e1; cases e2
          dsimp only
          rw [List.getD_eq_getElem?_getD, List.getD_eq_getElem?_getD, q1, q2]
          exact EqN.flat rfl rfl
    · rw [List.length_map]
      by_cases e : ss = ts
      · subst e
        rw [decide_eq_true rfl]
        symm
        rw [List.all_eq_true]
        intro i _
        simp
      · rw [decide_eq_false e]
        symm
        rw [List.all_eq_false]
        have : ∃ i : Nat, ss[i]? ≠ ts[i]? := by
          refine Classical.byContradiction fun hn => e (List.ext_getElem? fun i => ?_)
          exact Classical.byContradiction fun h => hn ⟨i, h⟩
        obtain ⟨i, hi⟩ := this
        have hlt : i < ss.length := by
          refine Classical.byContradiction fun hn => hi ?_
          rw [List.getElem?_eq_none (by omega), List.getElem?_eq_none (by omega)]
        refine ⟨i, List.mem_range.mpr hlt, ?_⟩
        rw [List.getD_eq_getElem?_getD, List.getD_eq_getElem?_getD, List.getElem?_eq_getElem hlt, List.getElem?_eq_getElem (by omega)]
        rw [List.getElem?_eq_getElem hlt, List.getElem?_eq_getElem (by omega)] at hi
        simpa using hi
  · have e : ss ≠ ts := fun e => hl (by rw [e])
    rw [decide_eq_false e]
    exact .inr ⟨h1, h2, by simpa using hl, rfl⟩
end
/-! ### an int, or None, unlike an int -/
section
variable {X : Cx}
end
end L2

set_option Elab.async false
set_option linter.all false
set_option maxRecDepth 100000
namespace L2
open PySem PySem.Spec PyProof.Rows PySem.SeqAt
/-! ### pop, and bools unlike -/
section
variable {K : PySem.W.Frag} {H : Hp} {Q : VK}
theorem rNeA_bl (i j : Bool) : rNeA (.bl i) (.bl j) H Q = Q (.bl (!(i == j))) H := by
  show (scal (.bl i) (.bl j) = true ∧ Q (.bl (!decide (V.bl i = V.bl j))) H) = _
  rw [dec_bl]; exact propext ⟨fun h => h.2, fun h => ⟨rfl, h⟩⟩
end
theorem pe_bm0K {X : Cx} (K : PySem.W.Frag) {o : Expr} {to : TE} {name : Str} {apos cpos : Pos} {T id : String} {r : V → List V → Hp → VK → Prop} (pa : PlainAttrs T) (slot : Slot T name id) (hty : typeOf (.builtin id) = pure (.type "method_descriptor")) (hm : MtR X id r) (ho : PE X o to)
    (hbase : attributeBase o name X.env (eval o X.env) = eval o X.env := by rfl) (hline : (apos.endLine == cpos.line) = true := by rfl) (hK : X.K = K := by rfl) : PE X (.Call (.Attribute o name apos) [] [] cpos) (tBM0 K T r to) := hK ▸ pe_bm0 pa slot hty hm ho hbase hline
/-! ### is True, of an int -/
end L2

set_option Elab.async false
set_option linter.all false
set_option maxRecDepth 100000
namespace L2
open PySem PySem.Spec PyProof.Rows PySem.SeqAt
/-! ### list(range(n)) -/
section
variable {X : Cx}
end
/-! ### d.values(), list(d.values()) -/
section
variable {X : Cx}
end
section
variable {prog : Program} {w : World} {K : Type} [DecidableEq K] {knd : KeyKind prog w K} {A : Around} {E : Value → Shared → Prop} {s : Shared}
end
section
variable {X : Cx}
theorem bt_set : bootBuiltins "set" = some (.type "set") := by decide +kernel
end
end L2

set_option Elab.async false
set_option linter.all false
set_option maxRecDepth 100000
namespace L2
open PySem PySem.Spec PyProof.Rows PySem.SeqAt
/-! ### the places of a set's elements rise -/
def Rises (xs : Array Nat) : Prop := ∀ (a b : Nat) (ha : a < xs.size) (hb : b < xs.size), a < b → xs[a] < xs[b]
theorem below_go {xs : Array Nat} (h : Rises xs) (j : Nat) : ∀ (fuel lo hi : Nat), lo ≤ hi → hi ≤ xs.size → hi - lo ≤ fuel → (∀ k (hk : k < xs.size), k < lo → xs[k] < j) → (∀ k (hk : k < xs.size), hi ≤ k → j ≤ xs[k]) →
    SetTable.below.go xs j fuel lo hi ≤ xs.size ∧ (∀ k (hk : k < xs.size), k < SetTable.below.go xs j fuel lo hi → xs[k] < j) ∧ (∀ k (hk : k < xs.size), SetTable.below.go xs j fuel lo hi ≤ k → j ≤ xs[k])
  | 0, lo, hi, h1, h2, h3, h4, h5 => by
    have e : lo = hi := by omega
    subst e
    exact ⟨h2, h4, h5⟩
  | fuel + 1, lo, hi, h1, h2, h3, h4, h5 => by
    unfold SetTable.below.go
    split
    · rename_i hlt
      have hm : (lo + hi) / 2 < xs.size := by omega
      have eg : xs.getD ((lo + hi) / 2) j = xs[(lo + hi) / 2] := by simp [Array.getD, hm]
      dsimp only
      rw [eg]
      split
      · rename_i hj
        refine below_go h j fuel _ hi (by omega) h2 (by omega) (fun k hk hkm => ?_) h5
        rcases Nat.lt_or_ge k ((lo + hi) / 2) with z | z
        · exact Nat.lt_trans (h k _ hk hm z) hj
        · have : k = (lo + hi) / 2 := by omega
          subst this; exact hj
      · rename_i hj
        refine below_go h j fuel lo _ (by omega) (by omega) (by omega) h4 (fun k hk hkm => ?_)
        rcases Nat.lt_or_ge ((lo + hi) / 2) k with z | z
        · exact Nat.le_trans (Nat.le_of_not_lt hj) (Nat.le_of_lt (h _ k hm hk z))
        · have : k = (lo + hi) / 2 := by omega
          subst this; exact Nat.le_of_not_lt hj
    · have e : lo = hi := by omega
      subst e
      exact ⟨h2, h4, h5⟩
theorem below_spec {xs : Array Nat} (h : Rises xs) (j : Nat) : SetTable.below xs j ≤ xs.size ∧ (∀ k (hk : k < xs.size), k < SetTable.below xs j → xs[k] < j) ∧ (∀ k (hk : k < xs.size), SetTable.below xs j ≤ k → j ≤ xs[k]) :=
  below_go h j xs.size 0 xs.size (Nat.zero_le _) (Nat.le_refl _) (by omega) (fun k _ z => absurd z (Nat.not_lt_zero _)) (fun k hk z => absurd hk (by omega))
theorem below_zero {xs : Array Nat} (h : Rises xs) : SetTable.below xs 0 = 0 := by
  obtain ⟨h1, h2, h3⟩ := below_spec h 0
  refine Classical.byContradiction fun hn => ?_
  exact absurd (h2 0 (by omega) (by omega)) (Nat.not_lt_zero _)
theorem below_next {xs : Array Nat} (h : Rises xs) {i : Nat} (hi : i < xs.size) : SetTable.below xs (xs[i] + 1) = i + 1 := by
  obtain ⟨h1, h2, h3⟩ := below_spec h (xs[i] + 1)
  rcases Nat.lt_trichotomy (SetTable.below xs (xs[i] + 1)) (i + 1) with z | z | z
  · have := h3 i hi (by omega); omega
  · exact z
  · have h4 := h2 (i + 1) (by omega) z
    have h5 := h i (i + 1) hi (by omega) (by omega)
    omega
theorem insert_at {xs : Array Nat} {p x k : Nat} (hp : p ≤ xs.size) (hk : k < (SetTable.insertAt xs p x).size) : (SetTable.insertAt xs p x)[k] = if h : k < p then xs[k]'(by omega) else if k = p then x else xs.getD (k - 1) 0 := by
  have hs : (SetTable.insertAt xs p x).size = xs.size + 1 := by
    unfold SetTable.insertAt; simp; omega
  have e : (SetTable.insertAt xs p x)[k]? = some (if h : k < p then xs[k]'(by omega) else if k = p then x else xs.getD (k - 1) 0) := by
    unfold SetTable.insertAt
    rw [Array.getElem?_append]
    simp only [Array.size_push, Array.size_extract]
    split
    · rename_i h
      rw [Array.getElem?_push]
      simp only [Array.size_extract]
      by_cases hkp : k < p
      · rw [if_neg (by omega), dif_pos hkp, Array.getElem?_extract]
        simp; omega
      · have : k = p := by omega
        subst this
        rw [if_pos (by omega), dif_neg hkp, if_pos rfl]
    · rename_i h
      rw [dif_neg (by omega), if_neg (by omega), Array.getElem?_extract]
      have hk' : k - 1 < xs.size := by omega
      rw [if_pos (by omega), show p + (k - (min p xs.size - 0 + 1)) = k - 1 by omega]
      simp [Array.getD, hk']
  rw [Array.getElem?_eq_getElem hk] at e
  exact Option.some.inj e
theorem insert_rises {xs : Array Nat} (h : Rises xs) {j : Nat} (hj : ∀ k (hk : k < xs.size), xs[k] ≠ j) : Rises (SetTable.insertAt xs (SetTable.below xs j) j) := by
  obtain ⟨h1, h2, h3⟩ := below_spec h j
  have hs : (SetTable.insertAt xs (SetTable.below xs j) j).size = xs.size + 1 := by
    unfold SetTable.insertAt; simp; omega
  generalize SetTable.below xs j = p at h1 h2 h3 hs
  intro a b ha hb hab
  rw [insert_at h1 ha, insert_at h1 hb]
  have gd : ∀ k, k < xs.size → ∃ hk : k < xs.size, xs.getD k 0 = xs[k] := fun k hk => ⟨hk, by simp [Array.getD, hk]⟩
  by_cases a1 : a < p
  · rw [dif_pos a1]
    by_cases b1 : b < p
    · rw [dif_pos b1]; exact h a b _ _ hab
    · rw [dif_neg b1]
      by_cases b2 : b = p
      · rw [if_pos b2]; exact h2 a (by omega) a1
      · rw [if_neg b2]
        obtain ⟨hk, e⟩ := gd (b - 1) (by omega)
        rw [e]; exact h a (b - 1) _ _ (by omega)
  · rw [dif_neg a1, dif_neg (by omega)]
    by_cases a2 : a = p
    · rw [if_pos a2, if_neg (by omega)]
      obtain ⟨hk, e⟩ := gd (b - 1) (by omega)
      rw [e]
      have := h3 (b - 1) hk (by omega)
      have := hj (b - 1) hk
      omega
    · rw [if_neg a2, if_neg (by omega)]
      obtain ⟨hk, e⟩ := gd (b - 1) (by omega)
      obtain ⟨hk2, e2⟩ := gd (a - 1) (by omega)
      rw [e, e2]; exact h _ _ _ _ (by omega)
theorem slot_free {t : SetTable} {j : Nat} (h : Rises t.place) (e : ∀ i, t.slot j ≠ .live i) : ∀ k (hk : k < t.place.size), t.place[k] ≠ j := fun k hk ek => by
  obtain ⟨h1, h2, h3⟩ := below_spec h j
  have hb : SetTable.below t.place j = k := by
    rcases Nat.lt_trichotomy (SetTable.below t.place j) k with z | z | z
    · have := h3 (SetTable.below t.place j) (by omega) (Nat.le_refl _)
      have := h (SetTable.below t.place j) k (by omega) hk z
      omega
    · exact z
    · have := h2 k hk z; omega
  refine e k ?_
  unfold SetTable.slot
  rw [hb]
  dsimp only
  rw [Array.getElem?_eq_getElem hk, ek]
  simp
theorem probe_go {t : SetTable} {hashAt : Nat → Int} {h : Int} : ∀ (fuel : Nat) (p : SetTable.Probe), (∀ d, p.dummy = some d → t.slot d = .dummy) → ∀ j dm, SetTable.probe.go t hashAt h fuel p = some (.empty j dm) → t.slot j = .empty ∧ ∀ d, dm = some d → t.slot d = .dummy
  | 0, p, _, j, dm, e => by unfold SetTable.probe.go at e; cases e
  | fuel + 1, p, hp, j, dm, e => by
    unfold SetTable.probe.go at e
    have adv : ∀ q : SetTable.Probe, (t.advance q).dummy = q.dummy := fun q => by unfold SetTable.advance; split <;> rfl
    cases hs : t.slot p.j with
    | empty =>
      rw [hs] at e
      cases e
      exact ⟨hs, hp⟩
    | dummy =>
      rw [hs] at e
      refine probe_go fuel _ (fun d hd => ?_) j dm e
      rw [adv] at hd
      cases hd
      exact hs
    | live i =>
      rw [hs] at e
      dsimp only at e
      split at e
      · cases e
      · exact probe_go fuel _ (fun d hd => by rw [adv] at hd; exact hp d hd) j dm e
structure Good (L : Bool) (t : SetTable) : Prop where
  led : t.led = L
  rise : Rises t.place
theorem rises_range (n : Nat) : Rises (Array.range n) := fun a b ha hb hab => by simpa using hab
theorem good_standIn {L : Bool} {t : SetTable} (h : Good L t) (n : Nat) : Good L (t.standIn n) := ⟨h.led, rises_range n⟩
theorem good_free {L : Bool} {t : SetTable} (h : Good L t) {hh : Int} {j : Nat} {b : Bool} (e : t.freeSlot hh = some (j, b)) : Good L (t.put j).1 := by
  refine ⟨h.led, insert_rises h.rise (slot_free h.rise ?_)⟩
  unfold SetTable.freeSlot at e
  split at e
  · rename_i j' dm hpr
    have := probe_go (t := t) _ (t.probeStart hh) (fun d hd => by cases hd) j' dm hpr
    cases dm with
    | none =>
      cases e
      exact fun i z => by have := this.1; rw [show (none : Option Nat).getD j' = j' from rfl, this] at z; cases z
    | some d =>
      cases e
      exact fun i z => by have := this.2 d rfl; rw [show (some d : Option Nat).getD j' = d from rfl, this] at z; cases z
  · cases e
theorem good_layNew {L : Bool} {t : SetTable} (h : Good L t) (es : Array (Int × Value)) (hh : Int) (x : Value) : Good L (layNew t es hh x).2.1 := by
  unfold layNew
  cases e : t.freeSlot hh with
  | none => exact good_standIn h _
  | some q =>
    obtain ⟨j, b⟩ := q
    have hg := good_free h e
    show Good L ((t.put j).1.orStandIn _)
    unfold SetTable.orStandIn
    split
    · exact hg
    · exact good_standIn hg _
theorem rises_of_pairwise {l : List Nat} (h : l.Pairwise (· < ·)) : Rises l.toArray := fun a b ha hb hab => by
  have := (List.pairwise_iff_getElem.mp h) a b (by simpa using ha) (by simpa using hb) hab
  simpa using this
theorem good_relay {L : Bool} {t : SetTable} (h : Good L t) (es : Array (Int × Value)) (n : Nat) : Good L (relayAll t es n).2.1 := by
  unfold relayAll
  split
  · rename_i t' order e
    dsimp only
    split
    · unfold SetTable.relaid SetTable.laid at e
      cases ho : SetTable.layClean (SetTable.sizeAbove n - 1) (es.map (·.1)) with
      | none => rw [ho] at e; cases e
      | some owner =>
        rw [ho] at e
        cases e
        refine ⟨h.led, rises_of_pairwise ?_⟩
        refine List.pairwise_map.mpr ?_
        refine List.Pairwise.filterMap _ ?_ List.pairwise_lt_range
        intro a b hab x hx y hy
        obtain ⟨k, _, rfl⟩ := Option.map_eq_some_iff.mp hx
        obtain ⟨k', _, rfl⟩ := Option.map_eq_some_iff.mp hy
        exact hab
    · exact good_standIn h _
  · exact good_standIn h _
end L2

set_option Elab.async false
set_option linter.all false
set_option maxRecDepth 100000
namespace L2
open PySem PySem.Spec PyProof.Rows PySem.SeqAt
/-! ### a set whose table is known to be G and whose elements are all different -/
section
variable {prog : Program} {w : World} {K : Type} [DecidableEq K] {knd : KeyKind prog w K} {A : Around} {E : Value → Shared → Prop} {s : Shared} {G : SetTable → Prop}
def Apart (knd : KeyKind prog w K) (l : List (Int × Value)) : Prop := l.Pairwise fun e e' => ∀ k, knd.is k e.2 = true → knd.is k e'.2 = false
theorem Apart.perm {l l' : List (Int × Value)} (h : Apart knd l) (p : l'.Perm l) : Apart knd l' :=
  (p.pairwise_iff fun {x y} hxy k hk => by
    cases e : knd.is k x.2 with
    | false => rfl
    | true => rw [hxy k e] at hk; cases hk).mpr h
theorem Apart.push {l : List (Int × Value)} {k : K} {x : Value} {hh : Int} (h : Apart knd l) (hn : ∀ e ∈ l, knd.is k e.2 = false) (hk : knd.is k x = true) : Apart knd (l ++ [(hh, x)]) := by
  refine List.pairwise_append.mpr ⟨h, List.pairwise_singleton _ _, fun e he b hb k' hk' => ?_⟩
  rw [List.mem_singleton.mp hb]
  show knd.is k' x = false
  rw [KeyKind.is_eq_decide hk k']
  refine decide_eq_false fun e' => ?_
  subst e'
  rw [hn e he] at hk'; cases hk'
structure Tab (knd : KeyKind prog w K) (G : SetTable → Prop) (o : Obj) (es : Array (Int × Value)) (ep : Nat) (t : SetTable) (S : K → Bool) (n : Nat) : Prop where
  ex : o.ExactSet
  dat : o.data = .set es ep t
  el : ElemsOf knd es.toList
  mem : ∀ k, S k = true ↔ ∃ e ∈ es.toList, knd.is k e.2 = true
  few : es.size < scanBound
  fit : t.fits es.size = true
  num : es.size = n
  good : G t
  apart : Apart knd es.toList
def SetG (knd : KeyKind prog w K) (G : SetTable → Prop) (h : Heap) (a : Addr) (S : K → Bool) (n : Nat) : Prop := ∃ o es ep t, h.get? a = some o ∧ Tab knd G o es ep t S n
/-- what is written is what stands there -/
theorem stored {h : Heap} {a : Addr} {o : Obj} {es : Array (Int × Value)} {ep : Nat} {t : SetTable} {S : K → Bool} {n : Nat} {es' : Array (Int × Value)} {t' : SetTable} {S' : K → Bool} {n' : Nat} (ho : h.get? a = some o) (T : Tab knd G o es ep t S n)
    (T' : ∀ o', o'.ExactSet → o'.data = .set es' (ep + 1) t' → Tab knd G o' es' (ep + 1) t' S' n') : ∃ o', (h.update a (Obj.putSet es' t')).get? a = some o' ∧ Tab knd G o' es' (ep + 1) t' S' n' := by
  have hp := putSet_of es' t' T.dat
  have hg := Heap.get?_update_self (Obj.putSet es' t') ho (by rw [hp]; rfl)
  rw [hp] at hg
  exact ⟨_, hg, T' _ T.ex rfl⟩
theorem addTailG (gr : ∀ t es n, G t → G (relayAll t es n).2.1) {g : Bool → Sem Unit} (hg : ∀ (b : Bool) (s₁ : Shared) (Q' : Unit → Shared → Prop), Q' () s₁ → wpAny (model prog w) A (g b) Q' E s₁)
    {a : Addr} {o : Obj} {es : Array (Int × Value)} {ep : Nat} {t : SetTable} {S : K → Bool} {n : Nat} (ho : s.heap.get? a = some o) (T : Tab knd G o es ep t S n)
    {es1 : Array (Int × Value)} {t2 : SetTable} {S' : K → Bool} {n' : Nat} (T1 : ∀ o', o'.ExactSet → o'.data = .set es1 (ep + 1) t2 → Tab knd G o' es1 (ep + 1) t2 S' n') {wasDummy : Bool} {R : Option Bool → Shared → Prop}
    (h : ∀ h', Heap.SameBut a s.heap h' → SetG knd G h' a S' n' → R (some true) { s with heap := h' }) :
    wpAny (model prog w) A (do
        storeSet a es1 t2
        if (!wasDummy && t2.tooFull) = true then do
            g (relayAll t2 es1 (SetTable.grown es1.size)).2.2
            storeSet a (relayAll t2 es1 (SetTable.grown es1.size)).1 (relayAll t2 es1 (SetTable.grown es1.size)).2.1
            pure (some true)
          else pure (some true)) R E s := by
  obtain ⟨o1, ho1, U1⟩ := stored ho T T1
  refine wpAny_bind (wpAny_storeSet_of ho T.dat ?_ (fits_of_scanBound U1.few))
  have hsb1 := Heap.SameBut.update s.heap a (Obj.putSet es1 t2)
  split
  · have hp := relayAll_perm t2 es1 (SetTable.grown es1.size)
    have hfr := relayAll_fits t2 es1 (SetTable.grown es1.size)
    have hgr := gr t2 es1 (SetTable.grown es1.size) U1.good
    generalize relayAll t2 es1 (SetTable.grown es1.size) = Rl at hp hfr hgr ⊢
    obtain ⟨es2, t3, gave2⟩ := Rl
    dsimp only at hp hfr hgr ⊢
    have hsz : es2.size = es1.size := by rw [← Array.length_toList, hp.length_eq, Array.length_toList]
    obtain ⟨o2, ho2, U2⟩ := stored (es' := es2) (t' := t3) (S' := S') (n' := n') ho1 U1 fun o' ex da => ⟨ex, da, U1.el.perm hp, fun k' => (U1.mem k').trans ⟨fun ⟨e, he, q⟩ => ⟨e, hp.mem_iff.mpr he, q⟩, fun ⟨e, he, q⟩ => ⟨e, hp.mem_iff.mp he, q⟩⟩, by rw [hsz]; exact U1.few, hfr, by rw [hsz]; exact U1.num, hgr, U1.apart.perm hp⟩
    refine wpAny_bind (hg _ _ _ ?_)
    refine wpAny_bind (wpAny_storeSet_of ho1 U1.dat ?_ (fits_of_scanBound U2.few))
    exact wpAny_pure (h _ (hsb1.trans (Heap.SameBut.update _ a _)) ⟨_, _, _, _, ho2, U2⟩)
  · exact wpAny_pure (h _ hsb1 ⟨_, _, _, _, ho1, U1⟩)
theorem addG (gl : ∀ t es h x, G t → G (layNew t es h x).2.1) (gr : ∀ t es n, G t → G (relayAll t es n).2.1) (gp : ∀ t : SetTable, G t → G { t with plain := false })
    {a : Addr} {S : K → Bool} {n : Nat} {k : K} {x : Value} {Q : Bool → Shared → Prop} (hkey : knd.is k x = true) (hsc : x.scannable = true) (hS : SetG knd G s.heap a S n) (hroom : n + 1 < scanBound)
    (h : ∀ h', Heap.SameBut a s.heap h' → SetG knd G h' a (fun k' => S k' || decide (k' = k)) (if S k then n else n + 1) → Q (!S k) { s with heap := h' }) :
    wpAny (model prog w) A (setAddHashed a x (knd.hash k)) Q E s := by
  obtain ⟨o, es, ep, t, ho, T⟩ := hS
  have hb1 : es.size + 1 < scanBound := by rw [T.num]; exact hroom
  unfold setAddHashed setAddHashedIn
  refine wpAny_holding (wpAny_bind (wpAny_setState_of ho T.dat T.fit ?_))
  dsimp only
  rw [byScan_of hsc T.few T.el]
  simp only [↓reduceIte]
  unfold setAddByScan
  refine wpAny_bind ?_
  refine wpAny_bind (wpAny_rule ?_)
  refine wpAny_bind (wpAny_setScan_of hkey ho T.dat T.fit T.el ?_)
  cases hr : List.findIdx? (fun e => knd.is k e.2) es.toList with
  | some j =>
    dsimp only
    obtain ⟨hj, hpj, _⟩ := List.findIdx?_eq_some_iff_getElem.mp hr
    have hSk : S k = true := (T.mem k).mpr ⟨es.toList[j], List.getElem_mem hj, hpj⟩
    refine wpAny_pure (wpAny_pure ?_)
    have e : s = { s with heap := s.heap } := by cases s; rfl
    have q := h s.heap (Heap.SameBut.refl a s.heap) ⟨o, es, ep, t, ho, T.ex, T.dat, T.el, fun k' => by
      rw [Bool.or_eq_true, decide_eq_true_eq, ← T.mem k']
      exact ⟨fun hk => hk.elim id (fun e => e ▸ hSk), .inl⟩, T.few, T.fit, by rw [hSk]; exact T.num, T.good, T.apart⟩
    rw [hSk] at q; rw [e]; exact q
  | none =>
    dsimp only
    have hno := List.findIdx?_eq_none_iff.mp hr
    have hSk : S k = false := by
      cases hk : S k with
      | false => rfl
      | true => obtain ⟨e, he, hp⟩ := (T.mem k).mp hk; rw [hno e he] at hp; cases hp
    have hgw : ∀ (b : Bool) {s₁ : Shared} {Q' : Unit → Shared → Prop}, Q' () s₁ → wpAny (model prog w) A (match b with | true => rule "set.scan.the-table-gave-way" | false => pure ()) Q' E s₁ := fun b s₁ Q' hq => by
      cases b <;> first | exact wpAny_pure hq | exact wpAny_rule hq
    have hperm := layNew_perm t es (knd.hash k) x
    have hfits := layNew_fits t es (knd.hash k) x
    have hgood := gl t es (knd.hash k) x T.good
    generalize layNew t es (knd.hash k) x = Ly at hperm hfits hgood ⊢
    obtain ⟨es1, t1, wasDummy, gave⟩ := Ly
    dsimp only at hperm hfits hgood ⊢
    rw [Array.toList_push] at hperm
    have hsz1 : es1.size = n + 1 := by rw [← Array.length_toList, hperm.length_eq, List.length_append, Array.length_toList, T.num]; rfl
    have mk : ∀ t2 : SetTable, t2.fits es1.size = true → G t2 → ∀ o', o'.ExactSet → o'.data = .set es1 (ep + 1) t2 → Tab knd G o' es1 (ep + 1) t2 (fun k' => S k' || decide (k' = k)) (n + 1) := fun t2 hf2 g2 o' ex da =>
      ⟨ex, da, (T.el.push hkey hsc).perm hperm, mem_push_iff hkey T.mem hperm, by rw [hsz1]; exact hroom, hf2, hsz1, g2, (T.apart.push (fun e he => by have := hno e he; simpa using this) hkey).perm hperm⟩
    refine wpAny_bind (hgw _ ?_)
    have hend : ∀ h', Heap.SameBut a s.heap h' → SetG knd G h' a (fun k' => S k' || decide (k' = k)) (n + 1) → Q true { s with heap := h' } := by
      intro h' hsb hS'; have := h h' hsb; rw [hSk] at this; exact this hS'
    split
    · refine wpAny_bind ?_
      rw [hashByValue_scannable 8 hsc]
      refine wpAny_pure ?_
      refine addTailG gr ?_ ho T (mk _ ?_ ?_) ?_
      · intro b s₁ Q' hq; cases b <;> first | exact wpAny_pure hq | exact wpAny_rule hq
      · split
        · exact hfits
        · exact SetTable.fits_plain_off hfits
      · split
        · exact hgood
        · exact gp _ hgood
      · intro h' hsb hS'; dsimp only; exact wpAny_pure (hend h' hsb hS')
    · refine wpAny_bind (wpAny_pure ?_)
      simp only [↓reduceIte]
      refine addTailG gr ?_ ho T (mk _ hfits hgood) ?_
      · intro b s₁ Q' hq; cases b <;> first | exact wpAny_pure hq | exact wpAny_rule hq
      · intro h' hsb hS'; dsimp only; exact wpAny_pure (hend h' hsb hS')
end
end L2

set_option Elab.async false
set_option linter.all false
set_option maxRecDepth 100000
set_option maxHeartbeats 4000000
namespace L2
open PySem PySem.Spec PyProof.Rows PySem.SeqAt
section
variable {prog : Program} {w : World} {A : Around} {R : Result → Shared → Prop} {I : Addr} {fp wr : List Addr} {Gm : Array GenState → Array GenState → Prop} {n : Nat} {P : Nat → Value → Prop} {St : Nat → Shared → Prop} {L : Bool}
theorem good_plain {t : SetTable} (h : Good L t) : Good L { t with plain := false } := ⟨h.led, h.rise⟩
theorem SetG.at' {K : Type} [DecidableEq K] {knd : KeyKind prog w K} {G : SetTable → Prop} {h h' : Heap} {a : Addr} {S S' : K → Bool} {m m' : Nat} (x : SetG knd G h a S m) (e : ∀ o, h.get? a = some o → h'.get? a = some o) (eS : ∀ k, S k = S' k) (em : m = m') : SetG knd G h' a S' m' := by
  obtain ⟨o, es, ep, t, ho, T⟩ := x
  have : S = S' := funext eS
  subst this; subst em
  exact ⟨o, es, ep, t, e o ho, T⟩
end
section
variable {prog : Program} {w : World} {A : Around} {E : Value → Shared → Prop} {s : Shared}
def ledOf (w : World) : Bool := !(w.params.followText "set-order")
theorem set_newG (a : Value) {Q₁ : Value → Shared → Prop}
    (h : Q₁ (.ref s.heap.objs.size) { s with heap := s.heap.push { cls := .type "set", dict := none, data := .set #[] 0 (.fresh 0 0 (ledOf w)) } }) :
    codeAny (model prog w) A (.call (.builtin "set.__new__") ⟨[.type "set", a], []⟩) (wants Q₁ E) s := by
  refine codeAny_of_tree ?_
  show wpAny _ A.in1 (do checkBuiltinCall "set.__new__" ⟨[.type "set", a], []⟩; again (.builtin "set.__new__" ⟨[.type "set", a], []⟩)) _ _ s
  refine wpAny_bind (wpAny_of_eq (F.newCall_set_1 a) (wpAny_pure ⟨plainId_quiet F.plain_set_new _, codeAny_builtin F.entry_set_new ?_⟩))
  rw [Around.under_plainId F.plain_set_new _]
  unfold Builtin.«set.__new__» Builtin.Frozenset.newClass
  have hsub := sub_set_self
  obtain ⟨hp, g, d, tk, os⟩ := s
  dsimp only
  wp_walk
  refine wpAny_askSetting (wpAny_pure ?_)
  dsimp only
  simp only [newObj]
  refine wpAny_bind (wpAny_alloc (wpAny_pure ?_))
  exact wpAny_pure h
end
end L2

set_option Elab.async false
set_option linter.all false
set_option maxRecDepth 100000
set_option maxHeartbeats 4000000
namespace L2
open PySem PySem.Spec PyProof.Rows PySem.SeqAt
/-! ### set(a list of ints) -/
section
variable {X : Cx}
end
end L2

set_option Elab.async false
set_option linter.all false
set_option maxRecDepth 100000
set_option maxHeartbeats 4000000
namespace L2
open PySem PySem.Spec PyProof.Rows PySem.SeqAt
/-! ### the orders in which a set may be gone over -/
theorem erase_perm {α : Type} : ∀ (l : List α) (i : Nat) (hi : i < l.length), (l[i] :: l.eraseIdx i).Perm l
  | x :: l, 0, _ => .rfl
  | x :: l, i + 1, hi => (List.Perm.swap x (l[i]'(by simpa using hi)) (l.eraseIdx i)).trans (List.Perm.cons x (erase_perm l i (by simpa using hi)))
theorem pick_go {α : Type} (next : Nat → Nat) : ∀ (fuel k : Nat) (left : List α) (out : Array α), fuel = left.length → (pickOrder.go next fuel k left out).toList.Perm (out.toList ++ left)
  | 0, k, left, out, h => by
    have : left = [] := List.eq_nil_of_length_eq_zero h.symm
    subst this
    unfold pickOrder.go; simp
  | fuel + 1, k, left, out, h => by
    unfold pickOrder.go
    have hi : next k % left.length < left.length := Nat.mod_lt _ (by omega)
    rw [List.getElem?_eq_getElem hi]
    dsimp only
    refine (pick_go next fuel (k + 1) _ _ (by rw [List.length_eraseIdx]; rw [if_pos hi]; omega)).trans ?_
    rw [Array.toList_push, List.append_assoc]
    refine List.Perm.append_left _ ?_
    exact erase_perm _ _ hi
theorem pick_perm {α : Type} (next : Nat → Nat) (xs : Array α) : (pickOrder next xs).toList.Perm xs.toList := by
  unfold pickOrder
  have := pick_go next xs.size 0 xs.toList #[] (by simp)
  simpa using this
section
variable {M : Model} {A : Around} {E : Value → Shared → Prop}
theorem choose_rule {s : Shared} {n : Nat} {Q : Nat → Shared → Prop} (hn : n ≠ 0) (h : ∀ i d', i < n → Q i { s with drawn := d' }) : wpAny M A (choose .order n) Q E s := fun Γ p hΓ => by
  show Sem.wp M Γ (.choose .order n .pure) _ _ _ _
  rw [Sem.wp_choose]
  refine ⟨hn, ?_⟩
  rw [Sem.wp_pure]
  exact h _ _ (Nat.mod_lt _ (by omega))
theorem draw_rule {α : Type} : ∀ (n : Nat) (xs : List α) (s : Shared) (Q : List α → Shared → Prop), n = xs.length → (∀ ys d', ys.Perm xs → Q ys { s with drawn := d' }) → wpAny M A (drawOrder n xs) Q E s
  | 0, xs, s, Q, hn, h => by
    have : xs = [] := List.eq_nil_of_length_eq_zero hn.symm
    subst this
    unfold drawOrder
    exact wpAny_pure (by have := h [] s.drawn .nil; cases s; exact this)
  | n + 1, [], s, Q, hn, h => by simp at hn
  | n + 1, x :: xs, s, Q, hn, h => by
    unfold drawOrder
    refine wpAny_bind (choose_rule (by simp) fun i d' hi => ?_)
    rw [List.getElem?_eq_getElem hi]
    dsimp only
    refine wpAny_bind (draw_rule n _ _ _ (by rw [List.length_eraseIdx, if_pos hi]; omega) fun ys d'' hp => ?_)
    refine wpAny_pure ?_
    exact h _ d'' ((List.Perm.cons _ hp).trans (erase_perm _ _ hi))
end
end L2

set_option Elab.async false
set_option linter.all false
set_option maxRecDepth 100000
set_option maxHeartbeats 4000000
namespace L2
open PySem PySem.Spec PyProof.Rows PySem.SeqAt
theorem slot_si_next : Slot "set_iterator" "__next__" "set_iterator.__next__" :=
  .of (owner := "set_iterator") (n := "__next__") (by rw [typeLookup_type, builtinLookup_eq_fast]; kernel_rfl) (by decide +kernel) (by decide +kernel) (by decide +kernel)
    (by first | exact .inl (by decide +kernel) | exact .inr (by decide +kernel)) (by rw [isSubtype_type]; kernel_rfl)
theorem entry_si_next : entryFor table "set_iterator.__next__" = some Builtin.«set_iterator.__next__» := entryFor_of_tree (by kernel_rfl)
theorem entry_set_iter : entryFor table "set.__iter__" = some Builtin.«frozenset.__iter__» :=
  entryFor_alias (id' := "frozenset.__iter__") (by kernel_rfl) rfl (by decide +kernel) (by kernel_rfl)
theorem owner_si : Manifest.owners.lookup (String.ofList ['r', 'o', 't', 'a', 'r', 'e', 't', 'i', '_', 't', 'e', 's'].reverse) = some Manifest.sig_set_iterator := by kernel_rfl
theorem args_si_next (a : Value) : argsOk "set_iterator.__next__" ⟨[a], []⟩ := by
  unfold argsOk; rw [signature?_of (id := "set_iterator.__next__") (n := ['_', '_', 't', 'x', 'e', 'n', '_', '_']) (o := ['r', 'o', 't', 'a', 'r', 'e', 't', 'i', '_', 't', 'e', 's']) (by kernel_rfl) owner_si]; kernel_rfl
/-! ### one step over a set that is not drawn -/
section
variable {prog : Program} {w : World} {A : Around} {E : Value → Shared → Prop} {s : Shared}
def ordOf (w : World) (a : Addr) (ep : Nat) (es : Array (Int × Value)) : List Value := ((if w.params.followText "set-order" then pickOrder (w.params.setOrder a ep) es else es).toList.map (·.2))
def slotAt (w : World) (t : SetTable) (i : Nat) : Nat := if w.params.followText "set-order" then 0 else if i = 0 then 0 else t.place.getD (i - 1) 0 + 1
theorem ord_perm (a : Addr) (ep : Nat) (es : Array (Int × Value)) : (ordOf w a ep es).Perm (es.toList.map (·.2)) := by
  unfold ordOf
  split
  · exact (pick_perm _ _).map _
  · exact .rfl
theorem next_rule {a : Addr} {o : Obj} {es : Array (Int × Value)} {ep : Nat} {t : SetTable} {i : Nat} {Q : Option (Value × Nat) → Shared → Prop} (ho : s.heap.get? a = some o) (hd : o.data = .set es ep t) (hf : t.fits es.size = true) (hg : Good (ledOf w) t) (hi : i ≤ es.size)
    (hn : w.params.followText "set-order" = true ∨ (!t.plain && decide (es.size > 1)) = false) (h : Q (((ordOf w a ep es)[i]?).map fun x => (x, slotAt w t (i + 1))) s) : wpAny (model prog w) A (setNext a (slotAt w t i) i ep) Q E s := by
  have hps : t.place.size = es.size := by
    unfold SetTable.fits at hf
    simp only [Bool.and_eq_true, beq_iff_eq] at hf
    exact hf.1
  unfold setNext
  refine wpAny_bind (wpAny_setState_of ho hd hf ?_)
  refine wpAny_bind ?_
  unfold setsByText
  refine wpAny_bind (wpAny_askSetting (wpAny_pure ?_))
  show wpAny _ _ (if w.params.followText "set-order" = true then _ else _) _ _ _
  unfold ordOf slotAt at h
  unfold slotAt
  cases hb : w.params.followText "set-order" with
  | true =>
    rw [hb] at h
    simp only [if_true] at h ⊢
    rw [if_neg (by simp)]
    refine wpAny_bind ?_
    unfold setWalk
    refine wpAny_bind (wpAny_setState_of ho hd hf ?_)
    refine wpAny_bind ?_
    unfold setsByText
    refine wpAny_bind (wpAny_askSetting (wpAny_pure ?_))
    show wpAny _ _ (if w.params.followText "set-order" = true then _ else _) _ _ _
    rw [if_pos hb]
    refine wpAny_bind (wpAny_askSetting (wpAny_pure ?_))
    refine wpAny_pure ?_
    rw [List.getElem?_map, Option.map_map, Array.getElem?_toList] at h
    exact h
  | false =>
    rw [hb] at h
    simp only [Bool.false_eq_true, if_false] at h ⊢
    have hled : t.led = true := by rw [hg.led]; unfold ledOf; rw [hb]; rfl
    refine wpAny_ite_split (fun hab => ?_) (fun _ => ?_)
    · rcases hn with z | z
      · rw [hb] at z; cases z
      · exact absurd (z.symm.trans hab) (by decide)
    refine wpAny_bind ?_
    show wpAny _ _ (if (!t.led && !es.isEmpty) = true then unsupported "set:maker-not-led" else pure ()) _ _ _
    rw [if_neg (by rw [hled]; simp)]
    refine wpAny_pure (wpAny_pure ?_)
    have hbel : SetTable.below t.place (if i = 0 then 0 else t.place.getD (i - 1) 0 + 1) = i := by
      by_cases h0 : i = 0
      · rw [if_pos h0, below_zero hg.rise, h0]
      · have hi1 : i - 1 < t.place.size := by omega
        rw [if_neg h0, show t.place.getD (i - 1) 0 = t.place[i - 1] by simp [Array.getD, hi1], below_next hg.rise hi1]
        omega
    rw [hbel]
    rw [List.getElem?_map, Array.getElem?_toList, if_neg (by omega), Nat.add_sub_cancel] at h
    by_cases hlt : i < es.size
    · have hlp : i < t.place.size := by omega
      rw [Array.getElem?_eq_getElem hlt, Array.getElem?_eq_getElem hlp]
      rw [Array.getElem?_eq_getElem hlt, show t.place.getD i 0 = t.place[i] by simp [Array.getD, hlp]] at h
      exact h
    · rw [Array.getElem?_eq_none (by omega)]
      rw [Array.getElem?_eq_none (by omega)] at h
      exact h
end
end L2

set_option Elab.async false
set_option linter.all false
set_option maxRecDepth 100000
set_option maxHeartbeats 4000000
namespace L2
open PySem PySem.Spec PyProof.Rows PySem.SeqAt
section
variable {prog : Program} {w : World} {A : Around} {E : Value → Shared → Prop} {s : Shared}
def IsSI (h : Heap) (it : Addr) (first : Value) (i : Nat) (a : Addr) (n ep : Nat) : Prop := ∃ o, h.get? it = some o ∧ o.cls = .type "set_iterator" ∧ o.data = .fields #[first, .int i 0, .ref a, .int n 0, .int ep 0]
theorem IsSI.typeIs {it a : Addr} {first : Value} {i n ep : Nat} (x : IsSI s.heap it first i a n ep) : s.TypeIs (.ref it) "set_iterator" := let ⟨o, ho, hc, _⟩ := x; ⟨o, ho, hc⟩
theorem si_item {it a : Addr} {o : Obj} {es : Array (Int × Value)} {ep : Nat} {t : SetTable} {i : Nat} {v : Value} {Q : Option Value → Shared → Prop} (hit : IsSI s.heap it (.int (slotAt w t i) 0) i a es.size ep) (ho : s.heap.get? a = some o) (hd : o.data = .set es ep t) (hf : t.fits es.size = true) (hg : Good (ledOf w) t)
    (hn : w.params.followText "set-order" = true ∨ (!t.plain && decide (es.size > 1)) = false) (hi : i < es.size) (hv : (ordOf w a ep es)[i]? = some v)
    (hQ : ∀ h', IsSI h' it (.int (slotAt w t (i + 1)) 0) (i + 1) a es.size ep → Heap.SameBut it s.heap h' → Q (some v) { s with heap := h' }) : wpAny (model prog w) A (pyNext (.ref it)) Q E s := by
  obtain ⟨oi, hoi, hci, hdi⟩ := id hit
  unfold pyNext
  refine wpAny_bind (wpAny_attempt (wpAny_callSpecial?_slot (name := Str.ofString "__next__") hit.typeIs slot_si_next (wpAny_call_entry slot_si_next hit.typeIs entry_si_next ?_ (args_si_next _))))
  unfold Builtin.«set_iterator.__next__»
  refine wpAny_bind (wpAny_pure ?_)
  refine wpAny_bind (wpAny_fieldsOf hoi hdi ?_)
  dsimp only
  refine wpAny_bind (wpAny_setEntries_of ho hd hf ?_)
  rw [if_neg (by simp)]
  simp only [Int.toNat_natCast]
  refine wpAny_bind (next_rule ho hd hf hg (by omega) hn ?_)
  rw [hv]
  show wpAny _ _ (setField (.ref it) 0 (rawInt (slotAt w t (i + 1) : Nat)) >>= fun _ => setField (.ref it) 1 (rawInt ((i : Int) + 1)) >>= fun _ => ret v) _ _ _
  refine wpAny_bind (wpAny_setField hoi hdi (by simp) ?_)
  have hdi1 := Obj.data_mapFields hdi (fun xs => xs.setIfInBounds 0 (rawInt (slotAt w t (i + 1) : Nat)))
  have hoi1 := Heap.get?_update_self (Obj.mapFields (fun xs => xs.setIfInBounds 0 (rawInt (slotAt w t (i + 1) : Nat)))) hoi (Obj.isFreed_of_fields hdi1)
  refine wpAny_bind (wpAny_setField hoi1 hdi1 (by simp) ?_)
  have hdi2 := Obj.data_mapFields hdi1 (fun xs => xs.setIfInBounds 1 (rawInt ((i : Int) + 1)))
  have hoi2 := Heap.get?_update_self (Obj.mapFields (fun xs => xs.setIfInBounds 1 (rawInt ((i : Int) + 1)))) hoi1 (Obj.isFreed_of_fields hdi2)
  refine wpAny_pure ⟨_, rfl, wpAny_pure (hQ _ ⟨_, hoi2, ?_, ?_⟩ ((Heap.SameBut.update ..).trans (Heap.SameBut.update ..)))⟩
  · rw [Obj.cls_mapFields, Obj.cls_mapFields]; exact hci
  · rw [hdi2]; simp [rawInt]
theorem si_end {it a : Addr} {o : Obj} {es : Array (Int × Value)} {ep : Nat} {t : SetTable} {Q : Option Value → Shared → Prop} (hh : A.handled = none) (hit : IsSI s.heap it (.int (slotAt w t es.size) 0) es.size a es.size ep) (ho : s.heap.get? a = some o) (hd : o.data = .set es ep t) (hf : t.fits es.size = true) (hg : Good (ledOf w) t)
    (hn : w.params.followText "set-order" = true ∨ (!t.plain && decide (es.size > 1)) = false)
    (hQ : ∀ h', Heap.ExtBut it s.heap h' → Q none { s with heap := h' }) : wpAny (model prog w) A (pyNext (.ref it)) Q E s := by
  obtain ⟨oi, hoi, hci, hdi⟩ := id hit
  have hv : (ordOf w a ep es)[es.size]? = none := List.getElem?_eq_none (by rw [(ord_perm (w := w) a ep es).length_eq]; simp)
  unfold pyNext
  refine wpAny_bind (wpAny_attempt (wpAny_callSpecial?_slot (name := Str.ofString "__next__") hit.typeIs slot_si_next (wpAny_call_entry slot_si_next hit.typeIs entry_si_next ?_ (args_si_next _))))
  unfold Builtin.«set_iterator.__next__»
  refine wpAny_bind (wpAny_pure ?_)
  refine wpAny_bind (wpAny_fieldsOf hoi hdi ?_)
  dsimp only
  refine wpAny_bind (wpAny_setEntries_of ho hd hf ?_)
  rw [if_neg (by simp)]
  simp only [Int.toNat_natCast]
  refine wpAny_bind (next_rule ho hd hf hg (Nat.le_refl _) hn ?_)
  rw [hv]
  show wpAny _ _ (setField (.ref it) 2 .none >>= fun _ => newExc (.type "StopIteration") [] >>= fun e => raiseNew e) _ _ _
  refine wpAny_bind (wpAny_setField hoi hdi (by simp) ?_)
  refine wpAny_bind ?_
  simp only [newExc, newTuple]
  refine wpAny_bind (wpAny_newObj_type ?_ (by size_fits))
  refine wpAny_bind (m := firstArgMember _ _) (wpAny_of_eq (a := Value.none) (by first | rfl | (simp only [firstArgMember]; rfl)) ?_)
  refine wpAny_newObj_type ?_ (by size_fits)
  simp only [raiseNew]
  refine wpAny_bind (wpAny_handled ?_)
  rw [show A.in1.handled = none from hh]
  refine wpAny_bind (wpAny_pure (wpAny_throw ?_))
  refine wpAny_bind (wpAny_isInstance (T := "StopIteration") (b := true) ⟨_, Heap.get?_push_size _ rfl, rfl⟩ isSubtype_stop ?_)
  exact wpAny_pure (hQ _ (((Heap.SameBut.update ..).extBut.push _).push _))
end
end L2

set_option Elab.async false
set_option linter.all false
set_option maxRecDepth 100000
set_option maxHeartbeats 4000000
namespace L2
open PySem PySem.Spec PyProof.Rows PySem.SeqAt
section
variable {prog : Program} {w : World} {A : Around} {E : Value → Shared → Prop} {s : Shared}
theorem drawn_rule {a : Addr} {o : Obj} {es : Array (Int × Value)} {ep : Nat} {t : SetTable} {Q : Bool → Shared → Prop} (ho : s.heap.get? a = some o) (hd : o.data = .set es ep t) (hf : t.fits es.size = true)
    (h : Q (!(w.params.followText "set-order") && (!t.plain && decide (es.size > 1))) s) : wpAny (model prog w) A (setDrawn a) Q E s := by
  unfold setDrawn
  refine wpAny_bind (wpAny_setState_of ho hd hf ?_)
  refine wpAny_bind ?_
  unfold setsByText
  refine wpAny_bind (wpAny_askSetting (wpAny_pure ?_))
  exact wpAny_pure h
theorem si_iter {a : Addr} {o : Obj} {es : Array (Int × Value)} {ep : Nat} {t : SetTable} {Q : Value → Shared → Prop} (ho : s.heap.get? a = some o) (hx : o.ExactSet) (hd : o.data = .set es ep t) (hf : t.fits es.size = true) (hfew : es.size < scanBound)
    (h1 : (!(w.params.followText "set-order") && (!t.plain && decide (es.size > 1))) = false → Q (.ref s.heap.objs.size) { s with heap := s.heap.push { cls := .type "set_iterator", data := .fields #[.int 0 0, .int 0 0, .ref a, .int es.size 0, .int ep 0] } })
    (h2 : ∀ (ps : List Nat) d', ps.Perm (List.range es.size) → Q (.ref (s.heap.objs.size + 1)) { s with heap := (s.heap.push { cls := .type "tuple", data := .seq (ps.map fun i : Nat => rawInt i).toArray }).push { cls := .type "set_iterator", data := .fields #[.ref s.heap.objs.size, .int 0 0, .ref a, .int es.size 0, .int ep 0] }, drawn := d' }) :
    wpAny (model prog w) A (pyIter (.ref a)) Q E s := by
  have hT : s.TypeIs (.ref a) "set" := ⟨o, ho, hx.1⟩
  refine wpAny_pyIter_slot hT F.slot_set_iter (wpAny_call_entry F.slot_set_iter hT entry_set_iter ?_ (F.args_set_iter_1 _))
  unfold Builtin.«frozenset.__iter__»
  refine wpAny_bind (wpAny_pure ?_)
  refine wpAny_bind ?_
  unfold Builtin.Frozenset.sizeOf
  refine wpAny_bind (wpAny_setEntries_of ho hd hf (wpAny_pure ?_))
  refine wpAny_bind (drawn_rule ho hd hf ?_)
  dsimp only
  refine wpAny_ite_split (fun hab => ?_) (fun hab => ?_)
  · refine wpAny_bind (draw_rule _ _ _ _ (by simp) fun ps d' hp => ?_)
    have hlen : ps.length = es.size := by rw [hp.length_eq]; simp
    refine wpAny_bind ?_
    unfold newTuple
    have hz := fits_of_scanBound hfew
    refine wpAny_newObj_type ?_ (by show (List.map _ ps).toArray.size ≤ sizeLine; simp; omega)
    refine wpAny_bind ?_
    unfold setEpoch
    refine wpAny_bind (wpAny_setState_of (Heap.get?_push_of_some _ ho) hd hf (wpAny_pure ?_))
    refine wpAny_bind ?_
    unfold newFields
    refine wpAny_newObj_type (wpAny_pure ⟨_, rfl, "set_iterator", _, ⟨_, Heap.get?_push_size _ rfl, rfl⟩, slot_si_next.lookup, ?_⟩)
    rw [Heap.size_push]
    exact h2 ps d' hp
  · refine wpAny_bind (wpAny_pure ?_)
    refine wpAny_bind ?_
    unfold setEpoch
    refine wpAny_bind (wpAny_setState_of ho hd hf (wpAny_pure ?_))
    refine wpAny_bind ?_
    unfold newFields
    refine wpAny_newObj_type (wpAny_pure ⟨_, rfl, "set_iterator", _, ⟨_, Heap.get?_push_size _ rfl, rfl⟩, slot_si_next.lookup, ?_⟩)
    exact h1 (by simpa using hab)
end
end L2

set_option Elab.async false
set_option linter.all false
set_option maxRecDepth 100000
set_option maxHeartbeats 4000000
namespace L2
open PySem PySem.Spec PyProof.Rows PySem.SeqAt
section
variable {prog : Program} {w : World} {A : Around} {E : Value → Shared → Prop} {s : Shared}
theorem sd_item {it a tp : Addr} {o ot : Obj} {es : Array (Int × Value)} {ep ct : Nat} {t : SetTable} {i k : Nat} {ps : List Nat} {v : Value} {hh : Int} {Q : Option Value → Shared → Prop} (hit : IsSI s.heap it (.ref tp) i a es.size ep) (ho : s.heap.get? a = some o) (hd : o.data = .set es ep t) (hf : t.fits es.size = true)
    (hot : s.heap.get? tp = some ot) (hdt : ot.data = .seq (ps.map fun i : Nat => rawInt i).toArray ct) (hk : ps[i]? = some k) (hv : es[k]? = some (hh, v))
    (hQ : ∀ h', IsSI h' it (.ref tp) (i + 1) a es.size ep → Heap.SameBut it s.heap h' → Q (some v) { s with heap := h' }) : wpAny (model prog w) A (pyNext (.ref it)) Q E s := by
  obtain ⟨oi, hoi, hci, hdi⟩ := id hit
  unfold pyNext
  refine wpAny_bind (wpAny_attempt (wpAny_callSpecial?_slot (name := Str.ofString "__next__") hit.typeIs slot_si_next (wpAny_call_entry slot_si_next hit.typeIs entry_si_next ?_ (args_si_next _))))
  unfold Builtin.«set_iterator.__next__»
  refine wpAny_bind (wpAny_pure ?_)
  refine wpAny_bind (wpAny_fieldsOf hoi hdi ?_)
  dsimp only
  refine wpAny_bind (wpAny_setEntries_of ho hd hf ?_)
  rw [if_neg (by simp)]
  refine wpAny_bind (wpAny_seqItems hot hdt ?_)
  simp only [Int.toNat_natCast]
  have e1 : (List.map (fun i : Nat => rawInt (i : Int)) ps).toArray[i]? = some (.int (k : Int) 0) := by
    rw [List.getElem?_toArray, List.getElem?_map, hk]; rfl
  rw [e1]
  dsimp only
  refine wpAny_bind ?_
  unfold setNextDrawn
  refine wpAny_bind (wpAny_setState_of ho hd hf ?_)
  dsimp only
  simp only [Int.toNat_natCast]
  rw [if_neg (by simp)]
  rw [hv]
  refine wpAny_pure ?_
  refine wpAny_bind (wpAny_setField hoi hdi (by simp) ?_)
  have hdi1 := Obj.data_mapFields hdi (fun xs => xs.setIfInBounds 1 (rawInt ((i : Int) + 1)))
  have hoi1 := Heap.get?_update_self (Obj.mapFields (fun xs => xs.setIfInBounds 1 (rawInt ((i : Int) + 1)))) hoi (Obj.isFreed_of_fields hdi1)
  refine wpAny_pure ⟨_, rfl, wpAny_pure (hQ _ ⟨_, hoi1, ?_, ?_⟩ (Heap.SameBut.update ..))⟩
  · rw [Obj.cls_mapFields]; exact hci
  · rw [hdi1]; simp [rawInt]
theorem sd_end {it a tp : Addr} {o ot : Obj} {es : Array (Int × Value)} {ep ct : Nat} {t : SetTable} {ps : List Nat} {Q : Option Value → Shared → Prop} (hh : A.handled = none) (hit : IsSI s.heap it (.ref tp) es.size a es.size ep) (ho : s.heap.get? a = some o) (hd : o.data = .set es ep t) (hf : t.fits es.size = true)
    (hot : s.heap.get? tp = some ot) (hdt : ot.data = .seq (ps.map fun i : Nat => rawInt i).toArray ct) (hp : ps.length = es.size)
    (hQ : ∀ h', Heap.ExtBut it s.heap h' → Q none { s with heap := h' }) : wpAny (model prog w) A (pyNext (.ref it)) Q E s := by
  obtain ⟨oi, hoi, hci, hdi⟩ := id hit
  unfold pyNext
  refine wpAny_bind (wpAny_attempt (wpAny_callSpecial?_slot (name := Str.ofString "__next__") hit.typeIs slot_si_next (wpAny_call_entry slot_si_next hit.typeIs entry_si_next ?_ (args_si_next _))))
  unfold Builtin.«set_iterator.__next__»
  refine wpAny_bind (wpAny_pure ?_)
  refine wpAny_bind (wpAny_fieldsOf hoi hdi ?_)
  dsimp only
  refine wpAny_bind (wpAny_setEntries_of ho hd hf ?_)
  rw [if_neg (by simp)]
  refine wpAny_bind (wpAny_seqItems hot hdt ?_)
  simp only [Int.toNat_natCast]
  have e1 : (List.map (fun i : Nat => rawInt (i : Int)) ps).toArray[es.size]? = none := by
    rw [List.getElem?_toArray, List.getElem?_eq_none (by simp; omega)]
  rw [e1]
  dsimp only
  refine wpAny_bind (wpAny_setField hoi hdi (by simp) ?_)
  have hdi1 := Obj.data_mapFields hdi (fun xs => xs.setIfInBounds 0 (rawInt 0))
  have hoi1 := Heap.get?_update_self (Obj.mapFields (fun xs => xs.setIfInBounds 0 (rawInt 0))) hoi (Obj.isFreed_of_fields hdi1)
  refine wpAny_bind (wpAny_setField hoi1 hdi1 (by simp) ?_)
  refine wpAny_bind ?_
  simp only [newExc, newTuple]
  refine wpAny_bind (wpAny_newObj_type ?_ (by size_fits))
  refine wpAny_bind (m := firstArgMember _ _) (wpAny_of_eq (a := Value.none) (by first | rfl | (simp only [firstArgMember]; rfl)) ?_)
  refine wpAny_newObj_type ?_ (by size_fits)
  simp only [raiseNew]
  refine wpAny_bind (wpAny_handled ?_)
  rw [show A.in1.handled = none from hh]
  refine wpAny_bind (wpAny_pure (wpAny_throw ?_))
  refine wpAny_bind (wpAny_isInstance (T := "StopIteration") (b := true) ⟨_, Heap.get?_push_size _ rfl, rfl⟩ isSubtype_stop ?_)
  exact wpAny_pure (hQ _ ((((Heap.SameBut.update ..).trans (Heap.SameBut.update ..)).extBut.push _).push _))
end
end L2

set_option Elab.async false
set_option linter.all false
set_option maxRecDepth 100000
set_option maxHeartbeats 4000000
namespace L2
open PySem PySem.Spec PyProof.Rows PySem.SeqAt
theorem slot_si_iter : Slot "set_iterator" "__iter__" "set_iterator.__iter__" :=
  .of (owner := "set_iterator") (n := "__iter__") (by rw [typeLookup_type, builtinLookup_eq_fast]; kernel_rfl) (by decide +kernel) (by decide +kernel) (by decide +kernel)
    (by first | exact .inl (by decide +kernel) | exact .inr (by decide +kernel)) (by rw [isSubtype_type]; kernel_rfl)
theorem entry_si_iter : entryFor table "set_iterator.__iter__" = some Builtin.«dict_keyiterator.__iter__» :=
  entryFor_alias (id' := "dict_keyiterator.__iter__") (by kernel_rfl) rfl (by decide +kernel) (by kernel_rfl)
theorem args_si_iter (a : Value) : argsOk "set_iterator.__iter__" ⟨[a], []⟩ := by
  unfold argsOk; rw [signature?_of (id := "set_iterator.__iter__") (n := ['_', '_', 'r', 'e', 't', 'i', '_', '_']) (o := ['r', 'o', 't', 'a', 'r', 'e', 't', 'i', '_', 't', 'e', 's']) (by kernel_rfl) owner_si]; kernel_rfl
section
variable {prog : Program} {w : World} {A : Around} {E : Value → Shared → Prop} {s : Shared}
theorem si_self {it a : Addr} {first : Value} {i n ep : Nat} {Q : Value → Shared → Prop} (hit : IsSI s.heap it first i a n ep) (h : Q (.ref it) s) : wpAny (model prog w) A (pyIter (.ref it)) Q E s :=
  wpAny_pyIter_slot hit.typeIs slot_si_iter (wpAny_call_entry slot_si_iter hit.typeIs entry_si_iter (wpAny_bind (wpAny_pure (wpAny_pure ⟨_, rfl, "set_iterator", _, hit.typeIs, slot_si_next.lookup, h⟩))) (args_si_iter _))
theorem IsSI.at' {h h' : Heap} {it a : Addr} {first : Value} {i n ep : Nat} (x : IsSI h it first i a n ep) (e : ∀ o, h.get? it = some o → h'.get? it = some o) : IsSI h' it first i a n ep := let ⟨o, ho, r⟩ := x; ⟨o, e _ ho, r⟩
theorem walkN (hh : A.handled = none) (I a : Addr) (hne : a ≠ I) {o : Obj} {es : Array (Int × Value)} {ep : Nat} {t : SetTable} (hd : o.data = .set es ep t) (hf : t.fits es.size = true) (hg : Good (ledOf w) t) (hn : w.params.followText "set-order" = true ∨ (!t.plain && decide (es.size > 1)) = false) :
    Walks prog w A I [I, a] [I] es.size (fun i v => (ordOf w a ep es)[i]? = some v) (fun i h => IsSI h I (.int (slotAt w t i) 0) i a es.size ep ∧ h.get? a = some o) where
  sub := fun b hb => by simp at hb; simp [hb]
  frame := fun _ _ _ st hk => ⟨st.1.at' fun o e => hk I (by simp) o e, hk a (by simp) o st.2⟩
  item := fun i s Q E hi st hQ => by
    have hl : (ordOf w a ep es).length = es.size := by rw [(ord_perm (w := w) a ep es).length_eq]; simp
    have hv : (ordOf w a ep es)[i]? = some (ordOf w a ep es)[i] := List.getElem?_eq_getElem (by omega)
    refine si_item st.1 st.2 hd hf hg hn hi hv fun h' hit' hs' => ?_
    exact hQ _ h' s.toks hv ⟨hit', hs'.extBut a o hne st.2⟩ (fun b o hb e => hs'.extBut b o (fun h => hb (by simp [h])) e)
  done := fun s Q E st hQ => si_end hh st.1 st.2 hd hf hg hn fun h' he' => hQ h' s.toks fun b o hb e => he' b o (fun h => hb (by simp [h])) e
  self := fun _ _ _ _ st hQ => si_self st.1 hQ
theorem walkD (hh : A.handled = none) (I a tp : Addr) (hne : a ≠ I) (hnt : tp ≠ I) {o ot : Obj} {es : Array (Int × Value)} {ep ct : Nat} {t : SetTable} {ps : List Nat} (hd : o.data = .set es ep t) (hf : t.fits es.size = true) (hdt : ot.data = .seq (ps.map fun i : Nat => rawInt i).toArray ct) (hp : ps.Perm (List.range es.size)) :
    Walks prog w A I [I, a, tp] [I] es.size (fun i v => (ps.map fun k => (es.getD k (0, .none)).2)[i]? = some v) (fun i h => IsSI h I (.ref tp) i a es.size ep ∧ h.get? a = some o ∧ h.get? tp = some ot) where
  sub := fun b hb => by simp at hb; simp [hb]
  frame := fun _ _ _ st hk => ⟨st.1.at' fun o e => hk I (by simp) o e, hk a (by simp) o st.2.1, hk tp (by simp) ot st.2.2⟩
  item := fun i s Q E hi st hQ => by
    have hl : ps.length = es.size := by rw [hp.length_eq]; simp
    have hk : ps[i]? = some (ps[i]'(by omega)) := List.getElem?_eq_getElem (by omega)
    have hlt : ps[i]'(by omega) < es.size := List.mem_range.mp (hp.mem_iff.mp (List.getElem_mem _))
    have hv : (ps.map fun k => (es.getD k (0, .none)).2)[i]? = some (es[ps[i]'(by omega)]'hlt).2 := by
      rw [List.getElem?_map, hk]
      simp [Array.getD, hlt]
    refine sd_item st.1 st.2.1 hd hf st.2.2 hdt hk (hh := (es[ps[i]'(by omega)]'hlt).1) (v := (es[ps[i]'(by omega)]'hlt).2) (Array.getElem?_eq_getElem hlt) fun h' hit' hs' => ?_
    exact hQ _ h' s.toks hv ⟨hit', hs'.extBut a o hne st.2.1, hs'.extBut tp ot hnt st.2.2⟩ (fun b o hb e => hs'.extBut b o (fun h => hb (by simp [h])) e)
  done := fun s Q E st hQ => sd_end hh st.1 st.2.1 hd hf st.2.2 hdt (by rw [hp.length_eq]; simp) fun h' he' => hQ h' s.toks fun b o hb e => he' b o (fun h => hb (by simp [h])) e
  self := fun _ _ _ _ st hQ => si_self st.1 hQ
end
end L2

set_option Elab.async false
set_option linter.all false
set_option maxRecDepth 100000
set_option maxHeartbeats 4000000
namespace L2
open PySem PySem.Spec PyProof.Rows PySem.SeqAt
section
variable {prog : Program} {w : World} {A : Around} {E : Value → Shared → Prop} {s : Shared}
theorem hint_set {a : Addr} {Q : Bool → Shared → Prop} (hT : s.TypeIs (.ref a) "set") (h : Q false s) : wpAny (model prog w) A (Builtin.List.listLengthHint (.ref a)) Q E s := by
  unfold Builtin.List.listLengthHint
  refine wpAny_bind (wpAny_specialOf hT F.slot_set_len.lookup ?_)
  generalize hid : ("set.__len__" : String) = id0
  wp_delta
  rw [show splitId id0 = some ("set", "__len__") from by subst hid; decide +kernel]
  subst hid
  refine wpAny_bind (wpAny_isInstance (T := "set") (b := true) hT (by rw [isSubtype_type]; kernel_rfl) ?_)
  refine wpAny_ite_split (fun hab => absurd hab (by decide)) (fun _ => ?_)
  refine wpAny_ite_split (fun _ => ?_) (fun hab => absurd (by decide +kernel) hab)
  refine wpAny_bind (wpAny_typeOf hT ?_)
  exact wpAny_pure h
theorem items_eq {l : List Value} {acc : Array Value} (h : ItemsOf (fun i v => l[i]? = some v) acc l.length) : acc.toList = l := by
  refine List.ext_getElem? fun i => ?_
  rw [Array.getElem?_toList]
  cases e : acc[i]? with
  | some v => exact (h.2 i v e).symm
  | none =>
    have : acc.size ≤ i := by simpa using e
    exact (List.getElem?_eq_none (by have := h.1; omega)).symm
theorem values_perm {es : Array (Int × Value)} {ps : List Nat} (hp : ps.Perm (List.range es.size)) : (ps.map fun k => (es.getD k (0, .none)).2).Perm (es.toList.map (·.2)) := by
  refine (hp.map _).trans ?_
  refine List.Perm.of_eq ?_
  refine List.ext_getElem (by simp) fun i h1 h2 => ?_
  have hi : i < es.size := by simpa using h1
  simp [Array.getD, hi]
theorem extend_set {R : Result → Shared → Prop} {a : Addr} {o : Obj} {es : Array (Int × Value)} {ep : Nat} {t : SetTable} (hh : A.handled = none) (ho : s.heap.get? a = some o) (hx : o.ExactSet) (hd : o.data = .set es ep t) (hf : t.fits es.size = true) (hfew : es.size < scanBound) (hg : Good (ledOf w) t)
    (S : Addr) (res : Value) (c₀ : Nat) (hS : s.heap.get? S = some { cls := .type "list", data := .seq #[] c₀ })
    (hR : ∀ h' d' tk acc' c', (∀ b o, b ≠ S → s.heap.get? b = some o → h'.get? b = some o) → h'.get? S = some { cls := .type "list", dict := none, data := .seq acc' c', slots := #[] } → acc'.toList.Perm (es.toList.map (·.2)) → R (.ok (.ret res)) { s with heap := h', drawn := d', toks := tk }) :
    wpAny (model prog w) A.in1 (Builtin.List.listExtendWith (.ref S) (.ref a) res)
      (fun fin s' => match fin with | .done f => R (.ok f) s' | .again c' => c'.quiet = true ∧ codeAny (model prog w) A c' R s') (fun e s' => R (.error e) s') s := by
  have hz := fits_of_scanBound hfew
  have halt : a < s.heap.objs.size := Heap.lt_size ho
  have hSlt : S < s.heap.objs.size := Heap.lt_size hS
  have hSa : S ≠ a := fun e => by
    rw [e, ho] at hS
    cases hS
    cases hd
  have hT : s.TypeIs (.ref a) "set" := ⟨o, ho, hx.1⟩
  have e1 : Builtin.List.listSameRef (.ref S) (.ref a) = false := by simp [Builtin.List.listSameRef, hSa]
  have key : ∀ (h2 : Heap) (d2 : Drawn) (c tk : Nat) (I : Addr) (fp : List Addr) (l : List Value) (St : Nat → Heap → Prop), l.length = es.size → l.Perm (es.toList.map (·.2)) → Walks prog w A.in1 I fp [I] es.size (fun i v => l[i]? = some v) St → S ∉ fp → s.heap.objs.size ≤ I →
      (∀ b o, b ≠ S → s.heap.get? b = some o → h2.get? b = some o) → h2.get? S = some { cls := .type "list", data := .seq #[] c } → St 0 h2 → codeAny (model prog w) A (.builtin "list.extend.loop" ⟨[.ref S, .ref I, res], []⟩) R { s with heap := h2, drawn := d2, toks := tk } := by
    intro h2 d2 c tk I fp l St hl hp W hSf hI hk hS2 hst
    refine codeAny_extend_loopS W.toS hz S hSf res es.size 0 _ #[] c rfl (Nat.zero_le _) hst hS2 (ItemsOf.nil _) fun s' acc' c' hm hS' hacc => ?_
    rw [Moved.eq_with hm]
    refine hR s'.heap d2 s'.toks acc' c' (fun b o hb e => hm.heap b o (fun hmem => ?_) (hk b o hb e)) hS' (by rw [items_eq (by rw [hl]; exact hacc)]; exact hp)
    rcases List.mem_cons.mp hmem with e' | hmem
    · exact hb e'
    · have := Heap.lt_size e
      rw [List.mem_singleton.mp hmem] at this
      exact absurd this (Nat.not_lt.mpr hI)
  unfold Builtin.List.listExtendWith
  refine wpAny_bind (wpAny_typeOf hT ?_)
  rw [if_neg (by rw [e1]; decide)]
  /- the list makes room, then the loop -/
  have touch : ∀ (h2 : Heap) (d2 : Drawn) (I : Addr) (fp : List Addr) (l : List Value) (St : Nat → Heap → Prop), l.length = es.size → l.Perm (es.toList.map (·.2)) → Walks prog w A.in1 I fp [I] es.size (fun i v => l[i]? = some v) St → S ∉ fp → s.heap.objs.size ≤ I →
      (∀ b o, s.heap.get? b = some o → h2.get? b = some o) → St 0 h2 →
      wpAny (model prog w) A.in1 (updateSeq S (·.push .none) >>= fun _ => updateSeq S (·.pop)) (fun _ s' => codeAny (model prog w) A (.builtin "list.extend.loop" ⟨[.ref S, .ref I, res], []⟩) R s') (fun e s' => R (.error e) s') { s with heap := h2, drawn := d2 } := by
    intro h2 d2 I fp l St hl hp W hSf hI hk hst
    have hS₁ := hk _ _ hS
    refine wpAny_bind (wpAny_updateSeq hS₁ rfl ?_)
    have hS₂ := Heap.get?_update_self (Obj.mapSeq (·.push Value.none)) hS₁ rfl
    refine wpAny_updateSeq (hz := by seq_fits) hS₂ rfl ?_
    have hS₃ := Heap.get?_update_self (Obj.mapSeq (·.pop)) hS₂ rfl
    have oth : ∀ b o, b ≠ S → h2.get? b = some o → ((h2.update S (Obj.mapSeq (·.push Value.none))).update S (Obj.mapSeq (·.pop))).get? b = some o := fun b o hb e =>
      (Heap.get?_update_other _ _ (Ne.symm hb)).trans ((Heap.get?_update_other _ _ (Ne.symm hb)).trans e)
    exact key _ d2 _ s.toks I fp l St hl hp W hSf hI (fun b o hb e => oth b o hb (hk b o e)) hS₃ (W.frame 0 _ _ hst fun b hb o e => oth b o (fun z => hSf (z ▸ hb)) e)
  refine wpAny_bind (si_iter ho hx hd hf hfew (fun hnd => ?_) fun ps d' hp => ?_)
  · have hTi : Shared.TypeIs { s with heap := s.heap.push { cls := .type "set_iterator", data := .fields #[.int 0 0, .int 0 0, .ref a, .int es.size 0, .int ep 0] } } (.ref a) "set" := ⟨o, Heap.get?_push_of_some _ ho, hx.1⟩
    refine wpAny_bind (wpAny_holding (hint_set hTi ?_))
    have hn : w.params.followText "set-order" = true ∨ (!t.plain && decide (es.size > 1)) = false := by
      cases hb : w.params.followText "set-order" with
      | true => exact .inl rfl
      | false => rw [hb] at hnd; exact .inr (by simpa using hnd)
    have hst : IsSI (s.heap.push { cls := .type "set_iterator", data := .fields #[.int 0 0, .int 0 0, .ref a, .int es.size 0, .int ep 0] }) s.heap.objs.size (.int (slotAt w t 0) 0) 0 a es.size ep := by
      refine ⟨_, Heap.get?_push_size _ rfl, rfl, ?_⟩
      unfold slotAt
      split <;> simp
    refine wpAny_ite_split (fun _ => ?_) (fun hab => absurd (by decide +kernel) hab)
    refine wpAny_bind (wpAny_rule ?_)
    refine wpAny_bind (wpAny_mono (touch _ s.drawn _ _ _ _ (by rw [(ord_perm (w := w) a ep es).length_eq]; simp) (ord_perm a ep es) (walkN (A := A.in1) hh s.heap.objs.size a (Nat.ne_of_lt halt) hd hf hg hn) (fun hm => ?_) (Nat.le_refl _) (fun b o e => Heap.get?_push_of_some _ e) ⟨hst, Heap.get?_push_of_some _ ho⟩) (fun _ s' hc => wpAny_pure ⟨plainId_quiet F.plain_extend_loop _, hc⟩) (fun _ _ he => he))
    rcases List.mem_cons.mp hm with z | z
    · exact absurd z (Nat.ne_of_lt hSlt)
    · exact hSa (List.mem_singleton.mp z)
  · have hTi : Shared.TypeIs { s with heap := (s.heap.push { cls := .type "tuple", data := .seq (ps.map fun i : Nat => rawInt i).toArray }).push { cls := .type "set_iterator", data := .fields #[.ref s.heap.objs.size, .int 0 0, .ref a, .int es.size 0, .int ep 0] }, drawn := d' } (.ref a) "set" := ⟨o, Heap.get?_push_of_some _ (Heap.get?_push_of_some _ ho), hx.1⟩
    refine wpAny_bind (wpAny_holding (hint_set hTi ?_))
    refine wpAny_ite_split (fun _ => ?_) (fun hab => absurd (by decide +kernel) hab)
    refine wpAny_bind (wpAny_rule ?_)
    have hst : IsSI ((s.heap.push { cls := .type "tuple", data := .seq (ps.map fun i : Nat => rawInt i).toArray }).push { cls := .type "set_iterator", data := .fields #[.ref s.heap.objs.size, .int 0 0, .ref a, .int es.size 0, .int ep 0] }) (s.heap.objs.size + 1) (.ref s.heap.objs.size) 0 a es.size ep := by
      have := Heap.get?_push_size (s.heap.push { cls := .type "tuple", data := .seq (ps.map fun i : Nat => rawInt i).toArray }) (rfl : Obj.isFreed { cls := .type "set_iterator", data := .fields #[.ref s.heap.objs.size, .int 0 0, .ref a, .int es.size 0, .int ep 0] } = false)
      rw [Heap.size_push] at this
      exact ⟨_, this, rfl, rfl⟩
    refine wpAny_bind (wpAny_mono (touch _ d' _ _ _ _ (by rw [List.length_map, hp.length_eq]; simp) (values_perm hp) (walkD (A := A.in1) hh (s.heap.objs.size + 1) a s.heap.objs.size (Nat.ne_of_lt (Nat.lt_succ_of_lt halt)) (Nat.ne_of_lt (Nat.lt_succ_self _)) hd hf rfl hp) (fun hm => ?_) (Nat.le_succ _) (fun b o e => Heap.get?_push_of_some _ (Heap.get?_push_of_some _ e)) ⟨hst, Heap.get?_push_of_some _ (Heap.get?_push_of_some _ ho), Heap.get?_push_of_some _ (Heap.get?_push_size _ rfl)⟩) (fun _ s' hc => wpAny_pure ⟨plainId_quiet F.plain_extend_loop _, hc⟩) (fun _ _ he => he))
    rcases List.mem_cons.mp hm with z | z
    · exact absurd z (Nat.ne_of_lt (Nat.lt_succ_of_lt hSlt))
    · rcases List.mem_cons.mp z with z | z
      · exact hSa z
      · exact absurd (List.mem_singleton.mp z) (Nat.ne_of_lt hSlt)
theorem collectSet {a : Addr} {o : Obj} {es : Array (Int × Value)} {ep : Nat} {t : SetTable} {Q : List Value → Shared → Prop} (hh : A.handled = none) (ho : s.heap.get? a = some o) (hx : o.ExactSet) (hd : o.data = .set es ep t) (hf : t.fits es.size = true) (hfew : es.size < scanBound) (hg : Good (ledOf w) t)
    (hQ : ∀ h' d' tk acc, (∀ b o, s.heap.get? b = some o → h'.get? b = some o) → s.heap.objs.size < h'.objs.size → acc.Perm (es.toList.map (·.2)) → Q acc { s with heap := h', drawn := d', toks := tk }) : wpAny (model prog w) A (collect (.ref a)) Q E s := by
  have ext : ∀ R : Result → Shared → Prop, (∀ h' d' tk acc' c', (∀ b o, s.heap.get? b = some o → h'.get? b = some o) → h'.get? s.heap.objs.size = some { cls := .type "list", dict := none, data := .seq acc' c', slots := #[] } → acc'.toList.Perm (es.toList.map (·.2)) → R (.ok (.ret (.ref s.heap.objs.size))) { s with heap := h', drawn := d', toks := tk }) →
      codeAny (model prog w) A (.builtin "proto.collect" ⟨[.ref a], []⟩) R s := fun R hR => by
    refine codeAny_builtin F.entry_proto_collect ?_
    rw [Around.under_plainId F.plain_proto_collect _]
    show wpAny _ A.in1 (newList [] >>= fun l => again (.builtin "list.__iadd__" ⟨[l, .ref a], []⟩)) _ _ s
    refine wpAny_bind (wpAny_newObj_type ?_)
    refine wpAny_pure ⟨plainId_quiet F.plain_list_iadd _, codeAny_builtin F.entry_list_iadd ?_⟩
    rw [Around.under_plainId F.plain_list_iadd _]
    show wpAny _ A.in1 (Builtin.List.listExtendWith (.ref s.heap.objs.size) (.ref a) (.ref s.heap.objs.size)) _ _ _
    refine extend_set (R := R) (s := { s with heap := s.heap.push { cls := .type "list", data := .seq ([] : List Value).toArray } }) hh (Heap.get?_push_of_some _ ho) hx hd hf hfew hg s.heap.objs.size _ 0 (Heap.get?_push_size _ rfl) fun h' d' tk acc' c' hk hS' hp => ?_
    exact hR h' d' tk acc' c' (fun b o e => hk b o (Nat.ne_of_lt (Heap.lt_size e)) (Heap.get?_push_of_some _ e)) hS' hp
  unfold collect
  refine wpAny_bind (wpAny_runValue (ext _ fun h' d' tk acc' c' hk hS' hp => ?_))
  show wpAny _ A (load s.heap.objs.size >>= _) _ _ _
  refine wpAny_bind (wpAny_load hS' ?_)
  exact wpAny_pure (hQ h' d' tk acc'.toList hk (Heap.lt_size hS') hp)
end
section
variable {X : Cx}
end
end L2

set_option Elab.async false
set_option linter.all false
set_option maxRecDepth 100000
set_option maxHeartbeats 4000000
/-! the greatest of a list of ints -/
namespace L2
open PySem PySem.Spec PyProof PyProof.Rows
section
variable {X : Cx}
end
end L2

set_option Elab.async false
set_option linter.all false
set_option maxRecDepth 100000
set_option maxHeartbeats 4000000
/-! dicts of the module, by texts -/
namespace L2
open PySem PySem.Spec PyProof PyProof.Rows
inductive Ents (w : World) : List DictEntry → List (Str × V) → Prop
  | nil : Ents w [] []
  | cons {x : Str} {t : Tok} {y : V} {v : Value} {es : List DictEntry} {kvs : List (Str × V)} : RelV y v → Ents w es kvs → Ents w (⟨PyData.keyHash w.params x, .str x t, v⟩ :: es) ((x, y) :: kvs)
theorem Ents.vs {P : Program} {w : World} {es : List DictEntry} {kvs : List (Str × V)} (h : Ents w es kvs) : ∃ vs : List (Str × Value), KV kvs vs ∧ PySem.Pairs (PySem.strKind P w) es vs ∧ vs.map (·.1) = kvs.map (·.1) ∧ ∀ e ∈ es, ∃ k, (PySem.strKind P w).is k e.key = true ∧ e.hash = (PySem.strKind P w).hash k := by
  induction h with
  | nil => exact ⟨[], .nil, .nil, rfl, fun _ h => nomatch h⟩
  | @cons x t y v es kvs r _ ih =>
    obtain ⟨vs, h1, h2, h3, h4⟩ := ih
    have hx : (PySem.strKind P w).is x (.str x t) = true := by show Value.isStrOf x (.str x t) = true; simp [Value.isStrOf]
    refine ⟨(x, v) :: vs, .cons ⟨rfl, r⟩ h1, .cons hx rfl h2, by rw [List.map_cons, List.map_cons, h3], fun e he => ?_⟩
    rcases List.mem_cons.mp he with rfl | he
    · exact ⟨x, hx, rfl⟩
    · exact h4 e he
structure ModD (w : World) (K : PySem.W.Frag) (d : Addr) (kvs : List (Str × V)) : Prop where
  low : (d == sysModules) = false
  nd : (kvs.map (·.1)).Nodup
  at' : ∃ (o : Obj) (es : List DictEntry) (ep : Nat), K.lookup d = some o ∧ o.ExactDict ∧ o.data = .dict es.toArray ep ∧ Ents w es kvs
section
variable {X : Cx} {pins : List (Addr × Obj)} {σ : St} {H : Hp} {s : Shared} {d : Addr} {kvs : List (Str × V)}
theorem ModD.dict (h : ModD X.w X.K d kvs) (I : Inv X pins σ H s) : ∃ vs : List (Str × Value), KV kvs vs ∧ s.heap.DictOf (PySem.strKind X.prog X.w) d vs ∧ ∃ ob, s.heap.get? d = some ob ∧ ob.dict = none := by
  obtain ⟨o, es, ep, h1, h2, h3, h4⟩ := h.at'
  obtain ⟨vs, r1, r2, r3, r4⟩ := h4.vs (P := X.prog)
  have e := I.kIn d o h1
  exact ⟨vs, r1, ⟨o, es.toArray, ep, e, h2, h3, fun x hx => r4 x (by simpa using hx), by simpa using r2, by rw [r3]; exact h.nd⟩, o, e, h2.2.1⟩
end
section
variable {X : Cx}
theorem RelO.isSome {o : Option V} {p : Option Value} (h : RelO o p) : p.isSome = o.isSome := by
  cases o <;> cases p <;> first | rfl | exact h.elim
end
end L2

set_option Elab.async false
set_option linter.all false
set_option maxRecDepth 100000
set_option maxHeartbeats 4000000
/-! zip of two tuples -/
namespace L2
open PySem PySem.Spec PyProof PyProof.Rows
section
variable {prog : Program} {w : World} {A : Around} {E : Value → Shared → Prop} {s : Shared}
/-- a tuple's iterator stands at k -/
def TSt (i t : Addr) (zs : Array Value) (k : Nat) (h : Heap) : Prop := h.IsTupleIter i t k ∧ h.IsTuple t zs
theorem TSt.ext {i t b : Addr} {zs : Array Value} {k : Nat} {h h' : Heap} (x : TSt i t zs k h) (hs : Heap.ExtBut b h h') (n1 : i ≠ b) (n2 : t ≠ b) : TSt i t zs k h' := ⟨x.1.extBut hs n1, x.2.extBut hs n2⟩
theorem next_tup {i t : Addr} {k : Nat} {zs : Array Value} {v : Value} {Q : Value → Shared → Prop} (st : TSt i t zs k s.heap) (nit : t ≠ i) (hv : zs[k]? = some v)
    (q : ∀ h', TSt i t zs (k + 1) h' → Heap.SameBut i s.heap h' → Q v { s with heap := h' }) : wpAny (model prog w) A (Builtin.SmallTypes.nextOf (.ref i)) Q E s := by
  obtain ⟨hi, ht⟩ := id st
  obtain ⟨ob, e1, e2, e3⟩ := id hi
  obtain ⟨ot, f1, _, m, f2⟩ := id ht
  unfold Builtin.SmallTypes.nextOf
  refine wpAny_bind (wpAny_callSpecial?_slot (name := Str.ofString "__next__") hi.typeIs PySem.F.slot_tuple_iterator_next (wpAny_call_entry PySem.F.slot_tuple_iterator_next hi.typeIs PySem.F.entry_tuple_iterator_next ?_ (PySem.F.args_tuple_iterator_next_1 _)))
  show wpAny _ _ (field (.ref i) 0 >>= _) _ _ s
  refine wpAny_bind (wpAny_field e1 e3 (x := .ref t) rfl ?_)
  show wpAny _ _ (if (Value.ref t == Value.none) = true then _ else _) _ _ s
  have hno : ¬ ((Value.ref t == Value.none) = true) := Bool.false_ne_true
  rw [if_neg hno]
  show wpAny _ _ (field (.ref i) 1 >>= _) _ _ s
  refine wpAny_bind (wpAny_field e1 e3 (x := .int k 0) rfl ?_)
  show wpAny _ _ (seqItems? (.ref t) >>= _) _ _ s
  refine wpAny_bind (wpAny_seqItems f1 f2 ?_)
  simp only [Int.toNat_natCast, hv]
  refine wpAny_bind (wpAny_setField e1 e3 (by simp) (wpAny_pure ⟨v, rfl, wpAny_pure (q _ ⟨?_, ?_⟩ (Heap.SameBut.update ..))⟩))
  · exact ⟨_, Heap.get?_update_self _ e1 (Obj.isFreed_of_fields (Obj.data_mapFields e3 _)), (Obj.cls_mapFields ..).trans e2, by rw [Obj.data_mapFields e3]; simp [rawInt]⟩
  · exact ht.extBut (Heap.SameBut.update ..).extBut nit
theorem end_tup {i t : Addr} {k : Nat} {zs : Array Value} {Q : Value → Shared → Prop} (hh : A.handled = none) (st : TSt i t zs k s.heap) (hv : zs[k]? = none)
    (q : ∀ h' e, Heap.ExtBut i s.heap h' → (∃ o, h'.get? e = some o ∧ o.cls = .type "StopIteration") → E (.ref e) { s with heap := h' }) : wpAny (model prog w) A (Builtin.SmallTypes.nextOf (.ref i)) Q E s := by
  obtain ⟨hi, ht⟩ := id st
  obtain ⟨ob, e1, e2, e3⟩ := id hi
  obtain ⟨ot, f1, _, m, f2⟩ := id ht
  unfold Builtin.SmallTypes.nextOf
  refine wpAny_bind (wpAny_callSpecial?_slot (name := Str.ofString "__next__") hi.typeIs PySem.F.slot_tuple_iterator_next (wpAny_call_entry PySem.F.slot_tuple_iterator_next hi.typeIs PySem.F.entry_tuple_iterator_next ?_ (PySem.F.args_tuple_iterator_next_1 _)))
  show wpAny _ _ (field (.ref i) 0 >>= _) _ _ s
  refine wpAny_bind (wpAny_field e1 e3 (x := .ref t) rfl ?_)
  show wpAny _ _ (if (Value.ref t == Value.none) = true then _ else _) _ _ s
  have hno : ¬ ((Value.ref t == Value.none) = true) := Bool.false_ne_true
  rw [if_neg hno]
  show wpAny _ _ (field (.ref i) 1 >>= _) _ _ s
  refine wpAny_bind (wpAny_field e1 e3 (x := .int k 0) rfl ?_)
  show wpAny _ _ (seqItems? (.ref t) >>= _) _ _ s
  refine wpAny_bind (wpAny_seqItems f1 f2 ?_)
  simp only [Int.toNat_natCast, hv]
  refine wpAny_bind (wpAny_rule (wpAny_bind (wpAny_setField e1 e3 (by simp) ?_)))
  show wpAny _ _ (newExc (.type "StopIteration") [] >>= fun z => _) _ _ _
  refine wpAny_bind ?_
  simp only [newTuple, newExc]
  refine wpAny_bind (wpAny_newObj_type (hd := by size_fits) ?_)
  refine wpAny_bind (m := firstArgMember _ _) (wpAny_of_eq (a := Value.none) (by first | (simp only [firstArgMember]; rfl) | rfl) ?_)
  refine wpAny_newObj_type (hd := by size_fits) ?_
  simp only [raiseNew]
  refine wpAny_bind (wpAny_handled ?_)
  have hn : A.in1.handled = none := hh
  first | rw [hn] | rw [hh]
  refine wpAny_bind (wpAny_pure (wpAny_throw (q _ _ (((Heap.SameBut.update ..).extBut.push _).push _) ⟨_, Heap.get?_push_size _ rfl, rfl⟩)))

variable {z TI TO i1 i2 t1 t2 : Addr} {xs ys : Array Value} {k1 k2 : Nat} {a b : Value}
end
end L2

set_option Elab.async false
set_option linter.all false
set_option maxRecDepth 100000
set_option maxHeartbeats 4000000
/-! zip of two tuples, gone over -/
namespace L2
open PySem PySem.Spec PyProof PyProof.Rows
section
variable {prog : Program} {w : World} {A : Around} {E : Value → Shared → Prop} {s : Shared} {z TI TO i1 i2 t1 t2 : Addr} {xs ys : Array Value} {k1 k2 : Nat} {a b : Value}
end
end L2

set_option Elab.async false
set_option linter.all false
set_option maxRecDepth 100000
set_option maxHeartbeats 4000000
namespace L2
open PySem PySem.Spec PyProof PyProof.Rows
theorem SqT.apart {X : Cx} {pins : List (Addr × Obj)} {σ : St} {H : Hp} {s : Shared} {a c : Addr} {xs : List V} (I : Inv X pins σ H s) (hf : FpOk X pins H c) (h : SqT X.K H a xs) : a ≠ c := by
  rintro rfl
  rcases h with h | ⟨o, its, n, hk, _⟩
  · rcases h with e | ⟨o, e⟩ <;> (rw [hf.1] at e; cases e)
  · have e := I.ok.mod.kin a o hk
    rcases hf.2.2.2.1 with z | z
    · exact I.ok.noex a o e z
    · exact absurd (Nat.lt_of_lt_of_le (Heap.lt_size (I.ok.bs a o e).1) z) (Nat.lt_irrefl _)
end L2

set_option Elab.async false
set_option linter.all false
set_option maxRecDepth 100000
set_option maxHeartbeats 4000000
namespace L2
open PySem PySem.Spec PyProof PyProof.Rows
/-! a tuple cut, the whole of it is itself -/
section
variable {prog : Program} {w : World} {A : Around} {E : Value → Shared → Prop} {s : Shared}
end
section
variable {X : Cx}
/-! a text of a text, of an int -/
/-! a global that is an object -/
theorem mt_extendA : MtR X "list.extend" rExtend := mt_extend
theorem rExtend_at {H : Hp} {Q : VK} (l b : Addr) : rExtend (.ref l) [.ref b] H Q = ∃ xs zs, H l = some (.lst xs) ∧ H b = some (.lst zs) ∧ xs.length + zs.length ≤ sizeLine ∧ Q .non (upd H l (.lst (xs ++ zs))) :=
  propext ⟨fun ⟨_, _, xs, zs, e1, e2, q⟩ => by cases e1; cases e2; exact ⟨xs, zs, q⟩, fun ⟨xs, zs, q⟩ => ⟨l, b, xs, zs, rfl, rfl, q⟩⟩
end
section
variable {K : PySem.W.Frag} {a b : Addr} {xs ys : List V} {g : TG} {te : TE} {nT : Nat} {σ : St} {D : Addr} {Q : VK} {H : Hp}
end
theorem SqT.same {K : PySem.W.Frag} {H H' : Hp} {a : Addr} {xs : List V} (h : SqT K H a xs) (sm : Same H H') : SqT K H' a xs := by
  rcases h with (h | ⟨o, h⟩) | h
  · exact .inl (.inl (sm _ _ h))
  · exact .inl (.inr ⟨o, sm _ _ h⟩)
  · exact .inr h
theorem at0 {α : Type} {x : α} {xs : List α} : atI (x :: xs) 0 = some x := atI_nat (j := 0) rfl
end L2

set_option Elab.async false
set_option linter.all false
set_option maxRecDepth 100000
set_option maxHeartbeats 4000000
namespace L2
open PySem PySem.Spec PyProof PyProof.Rows
section
variable {X : Cx}
end
end L2

set_option Elab.async false
set_option linter.all false
set_option maxRecDepth 100000
set_option maxHeartbeats 4000000
/-! a list gone over from behind -/
namespace L2
open PySem PySem.Spec PyProof PyProof.Rows
section
variable {K : PySem.W.Frag} {a : Addr} {xs : List V} {g : TG} {σ : St} {H : Hp}
end
end L2

set_option Elab.async false
set_option linter.all false
set_option maxRecDepth 100000
set_option maxHeartbeats 4000000
/-! list(a dict): its keys -/
namespace L2
open PySem PySem.Spec PyProof PyProof.Rows
section
variable {X : Cx}
end
end L2

set_option Elab.async false
set_option linter.all false
set_option maxRecDepth 100000
set_option maxHeartbeats 4000000
/-! sum of a list of ints, how often a text stands in a list -/
namespace L2
open PySem PySem.Spec PyProof PyProof.Rows PySem.SeqAt
section
variable {X : Cx}
end
end L2

set_option Elab.async false
set_option linter.all false
set_option maxRecDepth 100000
namespace L2
open PySem PySem.Spec PyProof.Rows PySem.SeqAt

/-! ### objects of own classes -/
structure Fl (K : PySem.W.Frag) (C : Addr) (f : Str) : Prop where
  c : Cls K C
  n : NoAttr K C f
structure MethAt (K : PySem.W.Frag) (C : Addr) (m qual : Str) (st : Stmt) : Prop where
  ex : ∃ f fd, Fun K m qual st f fd ∧ Meth K C m f
  cl : Cls K C
structure MakeAt (K : PySem.W.Frag) (mg : Str → Option Value) (x : Str) (C : Addr) (qual : Str) (st : Stmt) : Prop where
  ex : ∃ f fd, Fun K "__init__" qual st f fd ∧ Mk K C f ∧ mg x = some (.ref C)
structure Mcal (P : Program) (w : World) (K : PySem.W.Frag) (mg : Str → Option Value) (base : Heap) (k : Nat) (C : Addr) (m : Str) (ps : List Str) (sp : Sp) : Prop where
  ex : ∃ f fd, FnOk P w K mg base CX0 k f fd ps sp ∧ Binds K fd ps [] ∧ Meth K C m f
  cl : Cls K C
structure Mkal (P : Program) (w : World) (K : PySem.W.Frag) (mg : Str → Option Value) (base : Heap) (k : Nat) (x : Str) (C : Addr) (ps : List Str) (sp : Sp) : Prop where
  ex : ∃ f fd, FnOk P w K mg base CX0 k f fd ps sp ∧ Binds K fd ps [] ∧ Mk K C f ∧ mg x = some (.ref C)
section
variable {P : Program} {w : World} {K : PySem.W.Frag} {mg : Str → Option Value} {base : Heap}
end
section
variable {X : Cx} {o e value : Expr} {es : List Expr} {f m : Str} {pos pos' apos p : Pos} {ta tv : TE} {t : TA} {C : Addr} {x : Str} {ps : List Str} {sp : Sp} {j k : Nat}
end
section
variable {C : Addr} {f m : Str} {sp : Sp} {ta tv : TE} {t : TA} {σ : St} {H : Hp} {Q : VK}
end
theorem lk_hit {f : Str} {v : V} {fs : List (Str × V)} : List.lookup f ((f, v) :: fs) = some v := by simp [List.lookup]
theorem lk_miss {f g : Str} {v : V} {fs : List (Str × V)} (h : (f == g) = false) : List.lookup f ((g, v) :: fs) = List.lookup f fs := by simp [List.lookup, h]
theorem lk_nil {f : Str} : List.lookup f ([] : List (Str × V)) = none := rfl
theorem putF_hit {f : Str} {v x : V} {r : List (Str × V)} : putF f v ((f, x) :: r) = (f, v) :: r := by simp [putF]
theorem putF_miss {f g : Str} {v x : V} {r : List (Str × V)} (h : ¬ g = f) : putF f v ((g, x) :: r) = (g, x) :: putF f v r := by simp [putF, h]
theorem putF_nil {f : Str} {v : V} : putF f v [] = [(f, v)] := rfl
end L2

set_option Elab.async false
set_option linter.all false
set_option maxRecDepth 100000
/-! a text split by another, a text read as a number -/
namespace L2
open PySem PySem.Spec PyProof.Rows PySem.SeqAt
section
variable {X : Cx}
end
end L2

set_option Elab.async false
set_option linter.all false
set_option maxRecDepth 100000
namespace L2
open PySem PySem.Spec PyProof.Rows
/-! ### targets, expressions, turns that the proof never comes to -/
section
variable {X : Cx} {tg e : Expr}
theorem mt_clearA : MtR X "list.clear" rClear := mt_clear
end
end L2

set_option Elab.async false
set_option linter.all false
set_option maxRecDepth 100000
set_option maxHeartbeats 4000000
namespace L2
open PySem PySem.Spec PyProof.Rows PySem.SeqAt
/-! ### sets of texts -/
def stepS (l : List Str) (x : Str) : List Str := if l.any (· == x) = true then l else l ++ [x]
def fmS (val : Nat → Str) (i : Nat) : List Str := ((List.range i).map val).foldl stepS []
theorem fmS_zero (val : Nat → Str) : fmS val 0 = [] := rfl
theorem fmS_succ (val : Nat → Str) (i : Nat) : fmS val (i + 1) = stepS (fmS val i) (val i) := by
  unfold fmS; rw [List.range_succ, List.map_append, List.foldl_append]; rfl
theorem fmS_len (val : Nat → Str) : ∀ i, (fmS val i).length ≤ i
  | 0 => by rw [fmS_zero]; exact Nat.le_refl _
  | i + 1 => by
    rw [fmS_succ]; unfold stepS
    have ih := fmS_len val i
    split
    · omega
    · rw [List.length_append, List.length_singleton]; omega
theorem stepS_any (l : List Str) (v k : Str) : (stepS l v).any (· == k) = (l.any (· == k) || decide (k = v)) := by
  unfold stepS
  by_cases h : l.any (· == v) = true
  · rw [if_pos h]
    by_cases e : k = v
    · subst e; rw [h]; simp
    · simp [e]
  · rw [if_neg h, List.any_append]
    by_cases e : k = v
    · subst e; simp
    · have hb : (v == k) = false := by simpa [beq_iff_eq] using (fun h' : v = k => e h'.symm)
      simp [hb, e]
theorem stepS_len (l : List Str) (v : Str) : (stepS l v).length = if l.any (· == v) then l.length else l.length + 1 := by
  unfold stepS; split <;> simp
theorem fmS_any (val : Nat → Str) : ∀ (i : Nat) (k : Str), (fmS val i).any (· == k) = ((List.range i).map val).any (· == k)
  | 0, k => rfl
  | i + 1, k => by
    rw [fmS_succ, stepS_any, fmS_any val i k, List.range_succ, List.map_append, List.any_append]
    congr 1
    by_cases e : k = val i
    · simp [e]
    · simp [e]; exact fun h => e h.symm
theorem strs_at : ∀ {vs : List Value} {ss : List Str}, StrsAre vs ss → ∀ (i : Nat) (v : Value), vs[i]? = some v → ∃ t, v = .str (ss.getD i "") t
  | _, _, .nil, i, v, h => by simp at h
  | _, _, .cons n t hr, 0, v, h => by simp at h; exact ⟨t, by rw [← h]; rfl⟩
  | _, _, .cons n t hr, i + 1, v, h => by
    simp only [List.getElem?_cons_succ] at h
    obtain ⟨t', e⟩ := strs_at hr i v h
    exact ⟨t', by rw [e]; rfl⟩
theorem strK_is (prog : Program) (w : World) (x : Str) (t : Tok) : (strKind prog w).is x (.str x t) = true := by
  show Value.isStrOf x (.str x t) = true
  simp [Value.isStrOf]
section
variable {prog : Program} {w : World} {A : Around} {R : Result → Shared → Prop} {I : Addr} {fp wr : List Addr} {Gm : Array GenState → Array GenState → Prop} {n : Nat} {P : Nat → Value → Prop} {St : Nat → Shared → Prop} {L : Bool}
theorem setLoopS (W : WalksS prog w A.in1 I fp wr Gm n P St) (S : Addr) (hSf : S ∉ fp) (val : Nat → Str) (hval : ∀ i v, P i v → ∃ t, v = .str (val i) t) (hb : n + 1 < scanBound) :
    ∀ (k i : Nat) (s : Shared), n - i = k → i ≤ n → St i s → SetG (strKind prog w) (Good L) s.heap S (fun k' => (fmS val i).any (· == k')) (fmS val i).length →
      (∀ s', Moved (S :: wr) Gm s s' → SetG (strKind prog w) (Good L) s'.heap S (fun k' => (fmS val n).any (· == k')) (fmS val n).length → R (.ok (.ret .none)) s') →
      codeAny (model prog w) A (.builtin "set.update.loop" ⟨[.ref S, .ref I], []⟩) R s := by
  have hSw : S ∉ wr := fun h => hSf (W.sub _ h)
  have hsub : ∀ b ∈ wr, b ∈ S :: wr := fun b hb => List.mem_cons_of_mem _ hb
  intro k
  induction k with
  | zero =>
    intro i s hk hi hst hS hR
    have hin : i = n := by omega
    subst hin
    refine codeAny_builtin F.entry_set_update_loop ?_
    rw [Around.under_plainId F.plain_set_update_loop _]
    show wpAny _ A.in1 (pyNext (.ref I) >>= _) _ _ s
    refine wpAny_bind (W.done s _ _ hst fun s' hm => ?_)
    show wpAny _ A.in1 (ret Value.none) _ _ s'
    exact wpAny_pure (hR s' (hm.mono hsub) (hS.at' (fun o e => hm.heap S _ hSw e) (fun _ => rfl) rfl))
  | succ k ih =>
    intro i s hk hi hst hS hR
    have hlt : i < n := by omega
    refine codeAny_builtin F.entry_set_update_loop ?_
    rw [Around.under_plainId F.plain_set_update_loop _]
    show wpAny _ A.in1 (pyNext (.ref I) >>= _) _ _ s
    refine wpAny_bind (W.item i s _ _ hlt hst fun v s' hP hst' hm => ?_)
    obtain ⟨t, rfl⟩ := hval i v hP
    have hS' := hS.at' (h' := s'.heap) (fun o e => hm.heap S _ hSw e) (fun _ => rfl) rfl
    show wpAny _ A.in1 (holding [Value.str (val i) t] (setAdd S (.str (val i) t)) >>= _) _ _ s'
    refine wpAny_bind (wpAny_holding ?_)
    unfold setAdd
    refine wpAny_holding ?_
    refine wpAny_bind ((strKind prog w).pyHash (k := val i) (strK_is _ _ _ _) ?_)
    have hroom : (fmS val i).length + 1 < scanBound := by have := fmS_len val i; omega
    refine addG (G := Good L) (knd := strKind prog w) (s := { s' with toks := s'.toks + 1 }) (fun t es h x g => good_layNew g es h x) (fun t es m g => good_relay g es m) (fun t g => good_plain g) (strK_is _ _ _ _) rfl hS' hroom fun h' hsb hS2 => ?_
    have hSi := hS2.at' (h' := h') (fun o e => e) (S' := fun k' => (fmS val (i + 1)).any (· == k')) (m' := (fmS val (i + 1)).length) (fun k' => by rw [fmS_succ, stepS_any]) (by rw [fmS_succ, stepS_len])
    refine wpAny_pure ⟨plainId_quiet F.plain_set_update_loop _, ih (i + 1) _ (by omega) hlt (W.frame _ s' _ _ hst' (Nat.le_succ _) fun b hb o e => ?_) hSi fun s'' hm'' hS'' => ?_⟩
    · rw [hsb.2 b (fun h : b = S => hSf (by rw [← h]; exact hb))]; exact e
    · refine hR s'' (Moved.trans W.gtrans ((hm.mono hsub).then_heap (Nat.le_succ _) fun b o hb e => ?_) hm'') hS''
      rw [hsb.2 b (fun h : b = S => hb (by rw [h]; exact List.mem_cons_self))]; exact e
end
section
variable {prog : Program} {w : World} {A : Around} {E : Value → Shared → Prop} {s : Shared}
theorem call_setT {l : Addr} {items : Array Value} {ns : List Str} {Q : Value → Shared → Prop} (hh : A.handled = none) (hl : s.heap.IsList l items) (hi : StrsAre items.toList ns) (hb : items.size + 1 < scanBound)
    (h : ∀ (h' : Heap) (tk : Nat), SetG (strKind prog w) (Good (ledOf w)) h' s.heap.objs.size (fun k' => (fmS (fun i => ns.getD i "") items.size).any (· == k')) (fmS (fun i => ns.getD i "") items.size).length →
      (∀ b o, b < s.heap.objs.size → s.heap.get? b = some o → h'.get? b = some o) → Q (.ref s.heap.objs.size) { s with heap := h', toks := tk }) :
    wpAny (model prog w) A (call (.type "set") [.ref l]) Q E s := by
  obtain ⟨c, tl, hmro⟩ := F.called_set.mro
  have hmade := F.called_set.made
  have hsub := F.called_set.sub
  refine wpAny_call (codeAny_of_tree ?_)
  show wpAny _ _ (callAny (.type "set") _) _ _ _
  refine wpAny_pure ⟨Code.quiet_builtin _ (by decide +kernel), codeAny_builtin F.entry_type_call ?_⟩
  rw [Around.under_plain (weight_type_call_type "set" [.ref l] []) rfl]
  have h1 := F.called_set.notType
  have h2 := F.called_set.canCreate
  have hct := F.typeCall_set_1 (.ref l)
  repeat (any_goals (first | assumption | wp_step))
  refine codeAny_mono (set_newG (.ref l) (E := E) (Q₁ := fun obj s₁ => obj = .ref s.heap.objs.size ∧ s₁ = { s with heap := s.heap.push { cls := .type "set", dict := none, data := .set #[] 0 (.fresh 0 0 (ledOf w)) } }) ⟨rfl, rfl⟩) fun r s₁ hr => ?_
  cases r with
  | error e => exact hr
  | ok fl =>
    cases fl with
    | ret obj =>
      obtain ⟨rfl, rfl⟩ := hr
      have hS : (s.heap.push { cls := .type "set", dict := none, data := .set #[] 0 (.fresh 0 0 (ledOf w)) }).get? s.heap.objs.size = some { cls := .type "set", dict := none, data := .set #[] 0 (.fresh 0 0 (ledOf w)) } := Heap.get?_push_size _ rfl
      have hT : Shared.TypeIs { s with heap := s.heap.push { cls := .type "set", dict := none, data := .set #[] 0 (.fresh 0 0 (ledOf w)) } } (.ref s.heap.objs.size) "set" := ⟨_, hS, rfl⟩
      have hli := F.called_set.init.lookup
      have hbi := F.called_set.init.bind (.ref s.heap.objs.size)
      repeat (any_goals (first | assumption | wp_step))
      refine codeAny_mono (codeAny_call_builtin (R := wants (fun r s₂ => r = .none ∧ ∃ h' tk, s₂ = { s with heap := h', toks := tk } ∧
          SetG (strKind prog w) (Good (ledOf w)) h' s.heap.objs.size (fun k' => (fmS (fun i => ns.getD i "") items.size).any (· == k')) (fmS (fun i => ns.getD i "") items.size).length ∧
          (∀ b o, b < s.heap.objs.size → s.heap.get? b = some o → h'.get? b = some o)) E) F.called_set.init.plain F.entry_set_init (check_set_init_1 hT ?_)) fun r₂ s₂ hr₂ => ?_
      · obtain ⟨ol, hol, hcl, nl, hdl⟩ := hl
        obtain ⟨ocls, odict, odata, oslots⟩ := ol
        simp only at hcl hdl
        subst hcl; subst hdl
        have hol' : (s.heap.push { cls := .type "set", dict := none, data := .set #[] 0 (.fresh 0 0 (ledOf w)) }).get? l = some { cls := .type "list", dict := odict, data := .seq items nl, slots := oslots } := Heap.get?_push_of_some _ hol
        have hsls := F.sub_list_set
        have hslf := F.sub_list_frozenset
        have hne : (Value.type "list" == Value.type "dict") = false := by decide
        have hl1 : (s.heap.push { cls := .type "set", dict := none, data := .set #[] 0 (.fresh 0 0 (ledOf w)) }).IsList l items := ⟨_, hol', rfl, nl, rfl⟩
        unfold Builtin.«set.__init__» noKeywords Builtin.Frozenset.updateFrom
        generalize hPI : pyIter = PI
        wp_walk
        subst hPI
        refine wpAny_pyIter_list hl1 ?_
        refine wpAny_bind (wpAny_runValue ?_)
        have hlS : l < s.heap.objs.size := Heap.lt_size hol
        have hh3 : A.in1.in1.in1.handled = none := by simp [hh]
        have hneI : l ≠ (s.heap.push { cls := .type "set", dict := none, data := .set #[] 0 (.fresh 0 0 (ledOf w)) }).objs.size := by
          rw [Heap.size_push]; exact Nat.ne_of_lt (Nat.lt_succ_of_lt hlS)
        have hSf : s.heap.objs.size ∉ [(s.heap.push { cls := .type "set", dict := none, data := .set #[] 0 (.fresh 0 0 (ledOf w)) }).objs.size, l] := by
          rw [Heap.size_push]; simp only [List.mem_cons, List.mem_singleton, List.not_mem_nil, or_false, not_or]
          exact ⟨Nat.ne_of_lt (Nat.lt_succ_self _), Nat.ne_of_gt hlS⟩
        have hval : ∀ (i : Nat) (v : Value), items[i]? = some v → ∃ t, v = .str ((fun i => ns.getD i "") i) t := fun i v hv => strs_at hi i v (by rw [Array.getElem?_toList]; exact hv)
        refine setLoopS (L := ledOf w) ((Walks.list hh3 _ l hneI items).toS) s.heap.objs.size hSf (fun i => ns.getD i "") hval hb (items.size - 0) 0 _ (by omega) (Nat.zero_le _) ⟨⟨_, Heap.get?_push_size _ rfl, rfl, rfl⟩, (hl1.push _)⟩ ?hS0 ?hR
        case hS0 =>
          refine ⟨{ cls := .type "set", dict := none, data := .set #[] 0 (.fresh 0 0 (ledOf w)) }, #[], 0, .fresh 0 0 (ledOf w), Heap.get?_push_of_some _ hS, ?_⟩
          exact ⟨⟨rfl, rfl, rfl⟩, rfl, fun e he => by simp at he, fun k => by simp [fmS_zero], by decide, rfl, rfl, ⟨rfl, fun a b ha => absurd ha (Nat.not_lt_zero _)⟩, List.Pairwise.nil⟩
        case hR =>
          intro s' hm hS'
          obtain ⟨h', g', d', tk', os'⟩ := s'
          have eg : g' = s.gens := hm.gens
          have ed : d' = s.drawn := hm.drawn
          have eo : os' = s.os := hm.os
          subst eg; subst ed; subst eo
          show wpAny _ _ _ _ _ _
          refine wpAny_pure ?_
          show wpAny _ _ (ret Value.none) _ _ _
          refine wpAny_pure ⟨rfl, h', tk', rfl, hS', fun b o hb e => ?_⟩
          have hb1 : b ≠ s.heap.objs.size := Nat.ne_of_lt hb
          have hb2 : b ≠ (s.heap.push { cls := .type "set", dict := none, data := .set #[] 0 (.fresh 0 0 (ledOf w)) }).objs.size := by
            rw [Heap.size_push]; exact Nat.ne_of_lt (Nat.lt_succ_of_lt hb)
          exact hm.heap b o (by simp only [List.mem_cons, List.mem_singleton, List.not_mem_nil, or_false, not_or]; exact ⟨hb1, hb2⟩) (Heap.get?_push_of_some _ (Heap.get?_push_of_some _ e))
      · cases r₂ with
        | error e => exact hr₂
        | ok fl₂ =>
          cases fl₂ with
          | ret r =>
            obtain ⟨rfl, h', tk, rfl, hS', hk'⟩ := hr₂
            repeat (any_goals (first | assumption | wp_step))
            exact h _ _ hS' hk'
          | _ => exact hr₂.elim
    | _ => exact hr.elim
end
def rSetT (K : PySem.W.Frag) (SO : Addr → List Str → HO) : List V → Hp → VK → Prop := fun xs H Q => ∃ p, ∃ ns : List Str, xs = [.ref p] ∧ SqL K H p (ns.map V.str) ∧ ns.length ≤ 60 ∧ ∀ (l : Addr) (ds : List Str), H l = none → ds.Nodup → (∀ x, x ∈ ds ↔ x ∈ ns) → ds.length ≤ ns.length → Q (.ref l) (upd H l (SO l ds))
def rSortSetT (SO : Addr → List Str → HO) : List V → Hp → VK → Prop := fun xs H Q => ∃ p, ∃ ds : List Str, xs = [.ref p] ∧ H p = some (SO p ds) ∧ ds.length ≤ 60 ∧ ∀ (l : Addr) (ts : List Str), H l = none → ts.Perm ds → sortedS ts = true → Q (.ref l) (upd H l (.lst (ts.map V.str)))
def keyT (e : Int × Value) : Str := match e.2 with
  | .str d _ => d
  | _ => ""
/-- a set of these ints, in the order in which they stand -/
def GST (w : World) (h : Heap) (a : Addr) (ds : List Str) : Prop := ∃ o es ep t, h.get? a = some o ∧ o.ExactSet ∧ o.data = .set es ep t ∧ es.size < scanBound ∧ t.fits es.size = true ∧ Good (ledOf w) t ∧ (∀ e ∈ es.toList, ∃ tk, e.2 = .str (keyT e) tk) ∧ es.toList.map keyT = ds
def setOT (w : World) (a : Addr) (ds : List Str) : HO := .ext fun h => GST w h a ds
theorem gst_of {prog : Program} {w : World} {h : Heap} {a : Addr} {S : Str → Bool} {n : Nat} (x : SetG (strKind prog w) (Good (ledOf w)) h a S n) : ∃ ds, GST w h a ds ∧ ds.Nodup ∧ (∀ k, k ∈ ds ↔ S k = true) ∧ ds.length = n := by
  obtain ⟨o, es, ep, t, ho, T⟩ := x
  have hk : ∀ e ∈ es.toList, ∃ tk, e.2 = .str (keyT e) tk := fun e he => by
    obtain ⟨⟨k, hk, _⟩, _⟩ := T.el e he
    obtain ⟨tk, e2⟩ := Value.isStrOf_shape hk
    exact ⟨tk, by unfold keyT; rw [e2]⟩
  have his : ∀ e ∈ es.toList, ∀ k, (strKind prog w).is k e.2 = true ↔ k = keyT e := fun e he k => by
    obtain ⟨tk, e2⟩ := hk e he
    constructor
    · intro z
      obtain ⟨tk', e3⟩ := Value.isStrOf_shape z
      rw [e3] at e2
      cases e2; rfl
    · rintro rfl; rw [e2]; exact strK_is _ _ _ _
  refine ⟨es.toList.map keyT, ⟨o, es, ep, t, ho, T.ex, T.dat, T.few, T.fit, T.good, hk, rfl⟩, ?_, fun k => ?_, by rw [List.length_map, Array.length_toList]; exact T.num⟩
  · refine List.pairwise_map.mpr (List.Pairwise.imp_of_mem (fun {x y} hx hy hab e => ?_) T.apart)
    have h1 := hab (keyT x) ((his x hx _).mpr rfl)
    rw [(his y hy _).mpr e] at h1; cases h1
  · rw [T.mem, List.mem_map]
    constructor
    · rintro ⟨e, he, rfl⟩; exact ⟨e, he, (his e he _).mpr rfl⟩
    · rintro ⟨e, he, z⟩; exact ⟨e, he, ((his e he _).mp z).symm⟩
section
variable {X : Cx}
theorem call_setTT {m : Nat} (hr : Room m X.A) {K : PySem.W.Frag} (hK : X.K = K) : CallR X (.type "set") (rSetT K (setOT X.w)) := by
  subst hK
  intro pins s σ H xs us Q I r h
  obtain ⟨p, ns, rfl, hq, h60, q⟩ := h
  obtain ⟨u, rfl, ru⟩ := vals1 r
  cases ru
  obtain ⟨its, rv, pl, hz⟩ := I.list hq
  have hlen : its.length = ns.length := by rw [← rv.length, List.length_map]
  refine call_setT (ns := ns) hr.hd pl.isList (by simpa using vals_strs rv) (by simp only [List.size_toArray]; unfold scanBound; omega) fun h' tk hS hk => ?_
  obtain ⟨ds, hg, hnd, hmem, hdl⟩ := gst_of hS
  obtain ⟨o, es, ep, t, ho, hrest⟩ := id hg
  refine ⟨.ref s.heap.objs.size, _, I.laid (fun b o e => hk b o (Heap.lt_size e) e) (Nat.le_refl _) (show ObjOk X.prog X.w _ h' _ (setOT X.w s.heap.objs.size ds) from ⟨hg, ⟨o, ho⟩, fun h1 h2 g k => ?_⟩), rfl, q _ ds (I.hok.fresh (Nat.le_refl _)) hnd (fun x => ?_) ?_⟩
  · obtain ⟨o, es, ep, t, ho, rest⟩ := g
    exact ⟨o, es, ep, t, k o ho, rest⟩
  · rw [hmem, fmS_any]
    simp only [List.size_toArray, List.any_map, List.any_eq_true, List.mem_range]
    constructor
    · rintro ⟨i, hi, e⟩
      have e' : ns.getD i "" = x := by simpa using e
      rw [← e', List.getD_eq_getElem?_getD, List.getElem?_eq_getElem (by omega)]
      exact List.getElem_mem _
    · intro hx
      obtain ⟨i, hi, e⟩ := List.mem_iff_getElem.mp hx
      exact ⟨i, by omega, by simp [List.getD_eq_getElem?_getD, List.getElem?_eq_getElem hi, e]⟩
  · rw [hdl]
    have := fmS_len (fun i => ns.getD i "") its.toArray.size
    simp only [List.size_toArray] at this ⊢
    omega
end
def keyVT (v : Value) : Str := match v with
  | .str d _ => d
  | _ => ""
theorem strs_of : ∀ (l : List Value), (∀ v ∈ l, ∃ tk, v = .str (keyVT v) tk) → StrsAre l (l.map keyVT)
  | [], _ => .nil
  | v :: l, h => by
    obtain ⟨tk, e⟩ := h v List.mem_cons_self
    have r := strs_of l fun u hu => h u (List.mem_cons_of_mem _ hu)
    rw [List.map_cons]
    generalize keyVT v = d at e ⊢
    subst e
    exact .cons d tk r
section
variable {prog : Program} {w : World} {A : Around} {E : Value → Shared → Prop} {s : Shared}
theorem sortedSetT {a : Addr} {o : Obj} {es : Array (Int × Value)} {ep : Nat} {t : SetTable} {Q : Value → Shared → Prop} (hh : A.handled = none) (ho : s.heap.get? a = some o) (hx : o.ExactSet) (hd : o.data = .set es ep t) (hf : t.fits es.size = true) (h64 : es.size < 64) (hg : Good (ledOf w) t)
    (hint : ∀ e ∈ es.toList, ∃ tk, e.2 = .str (keyT e) tk)
    (hQ : ∀ h' d' tk q out c ns', (∀ b o, s.heap.get? b = some o → h'.get? b = some o) → s.heap.objs.size ≤ q → h'.get? q = some (seqObj "list" out c) → StrsAre out.toList ns' → ns'.Perm (es.toList.map keyT) → sortedS ns' = true → Q (.ref q) { s with heap := h', drawn := d', toks := tk }) :
    wpAny (model prog w) A (call (.builtin "sorted") [.ref a]) Q E s := by
  refine Calls.call_function_entry kind_sorted plain_sorted entry_sorted (args_sorted1 _) ?_
  unfold Builtin.«sorted»
  refine wpAny_bind (m := checkCount "sorted" 1 1 _) (wpAny_pure ?_)
  refine wpAny_bind (collectSet hh ho hx hd hf (by unfold scanBound; omega) hg fun h' d' tk acc hk hlt hp => ?_)
  have hal : acc.length = es.size := by rw [hp.length_eq]; simp
  have hI : StrsAre acc (acc.map keyVT) := strs_of acc fun v hv => by
    obtain ⟨e, he, rfl⟩ := List.mem_map.mp (hp.mem_iff.mp hv)
    exact hint e he
  have hperm : (acc.map keyVT).Perm (es.toList.map keyT) := by
    have := hp.map keyVT
    rw [List.map_map] at this
    exact this
  refine wpAny_bind (wpAny_newList ?_ (by rw [hal, sizeLine_eq]; omega))
  have hoL : (h'.push (seqObj "list" acc.toArray 0)).get? h'.objs.size = some (seqObj "list" acc.toArray 0) := Heap.get?_push_size _ rfl
  show wpAny _ _ _ _ _ { s with heap := h'.push (seqObj "list" acc.toArray 0), drawn := d', toks := tk }
  refine wpAny_bind (wpAny_holding (wpAny_call_entry slot_list_sort ⟨_, hoL, rfl⟩ entry_list_sort (list_sort_treeK strKind_oneLt hoL hI.keysOf (fun v₁ v₂ rest e => keyKind_strs (by rw [← e]; exact hI)) (by omega) fun st' b1 b2 => ⟨_, rfl, ?_⟩) (args_list_sort _)))
  obtain ⟨ns', a1, a2, a3⟩ := sorted_out_str hI b1 b2
  generalize (arrOf st').map (·.2) = out at a1 ⊢
  obtain ⟨c, hc⟩ := sortedHeap_at (out := out) hoL
  refine wpAny_pure ⟨_, rfl, hQ _ d' tk h'.objs.size out c ns' (fun b o e => ?_) (Nat.le_of_lt hlt) hc a1 (a2.trans hperm) a3⟩
  have hb := Heap.lt_size (hk b o e)
  rw [sortedHeap_old (Nat.ne_of_lt hb) (by rw [Heap.size_push]; exact Nat.lt_succ_of_lt hb)]
  exact Heap.get?_push_of_some _ (hk b o e)
end
section
variable {X : Cx}
theorem call_sortSetT {m : Nat} (hr : Room m X.A) : CallR X (.builtin "sorted") (rSortSetT (setOT X.w)) := by
  intro pins s σ H xs us Q I r h
  obtain ⟨p, ds, rfl, e, h60, q⟩ := h
  obtain ⟨u, rfl, ru⟩ := vals1 r
  cases ru
  obtain ⟨o, es, ep, t, ho, hx, hd, hfew, hf, hg, hint, hds⟩ := (show ObjOk X.prog X.w H s.heap p (setOT X.w p ds) from I.hok p _ e).1
  have hz : es.size ≤ 60 := by rw [← hds, List.length_map, Array.length_toList] at h60; exact h60
  have hs : sizeLine = 16777216 := sizeLine_eq
  refine sortedSetT hr.hd ho hx hd hf (by omega) hg hint fun h' d' tk qa out c ns' hk hq hc a1 a2 a3 => ?_
  have hl : ns'.length ≤ 60 := by rw [a2.length_eq, List.length_map, Array.length_toList]; exact hz
  have I2 := I.laid (t' := tk) (a := qa) (o := .lst (ns'.map V.str)) hk hq (show ObjOk X.prog X.w _ h' _ (.lst (ns'.map V.str)) from ⟨by rw [List.length_map]; omega, out.toList, c, strs_vals a1, by simpa using hc⟩)
  refine ⟨.ref qa, _, ?_, rfl, q _ ns' (I.hok.fresh hq) (by rw [← hds]; exact a2) a3⟩
  exact ⟨I2.ok, I2.os, I2.bare, I2.base, I2.loc, I2.cell, I2.free, I2.freeC, I2.pin, I2.hok, I2.len⟩
theorem call_setTTW {m : Nat} (K : PySem.W.Frag) (w : World) (hr : Room m X.A) (hK : X.K = K := by rfl) (hw : X.w = w := by rfl) : CallR X (.type "set") (rSetT K (setOT w)) := hw ▸ call_setTT hr hK
theorem call_sortSetTW {m : Nat} (w : World) (hr : Room m X.A) (hw : X.w = w := by rfl) : CallR X (.builtin "sorted") (rSortSetT (setOT w)) := hw ▸ call_sortSetT hr
end
/-! ### a choice, as a test -/
section
variable {X : Cx} {c a b : Expr} {tA tB1 tB2 : TT} {pos : Pos}
end
end L2

set_option Elab.async false
set_option linter.all false
set_option maxRecDepth 100000
set_option maxHeartbeats 4000000
namespace L2
open PySem PySem.Spec PyProof.Rows PySem.SeqAt PySem.Builtin PySem.Builtin.Str PySem.StrLaws
/-! ### texts parted -/
section
variable {X : Cx}
end
end L2

set_option Elab.async false
set_option linter.all false
namespace L2
open PySem PySem.Spec PyProof.Rows PySem.SeqAt PySem.Builtin PySem.Builtin.Str PySem.StrLaws
/-! ### is True, is False -/
def rIsB : R2 := fun x y H Q => ∃ b, y = .bl b ∧ flatV x = true ∧ Q (.bl (decide (x = .bl b))) H
theorem op_isB {X : Cx} : OpR X (compareOp .Is) rIsB := by
  intro pins s σ H x y v u Q I rx ry h
  obtain ⟨b, rfl, hx, q⟩ := h
  cases ry
  cases x with
  | non => cases rx; exact wpAny_pure (a := Value.bool false) ⟨.bl false, H, I, rfl, q⟩
  | bl k => cases rx; cases k <;> cases b <;> exact wpAny_pure (a := Value.bool _) ⟨.bl _, H, I, rfl, q⟩
  | int i => obtain ⟨t, rfl⟩ := rx; exact wpAny_pure (a := Value.bool false) ⟨.bl false, H, I, rfl, q⟩
  | str i => obtain ⟨t, rfl⟩ := rx; exact wpAny_pure (a := Value.bool false) ⟨.bl false, H, I, rfl, q⟩
  | _ => cases hx
theorem rIsB_at {H : Hp} {Q : VK} (x : V) (b : Bool) : rIsB x (.bl b) H Q = (flatV x = true ∧ Q (.bl (decide (x = .bl b))) H) :=
  propext ⟨fun ⟨_, e, q⟩ => by cases e; exact q, fun q => ⟨b, rfl, q⟩⟩
/-! ### a text that starts with another; a tuple and a tuple -/
end L2

set_option Elab.async false
set_option linter.all false
set_option maxRecDepth 100000
set_option maxHeartbeats 4000000
namespace L2
open PySem PySem.Spec PyProof.Rows
/-! ### list.insert, list.pop(at) -/
section
variable {X : Cx}
end
end L2

set_option Elab.async false
set_option linter.all false
set_option maxRecDepth 100000
namespace L2
open PySem PySem.Spec PyProof.Rows

/-! ### dicts whose keys are tuples of ints and None -/
abbrev OKey := List (Option Int)
def MO (P : Program) (w : World) : HeapKind P w (OKey) := heapK (optK P w) (show 0 ≤ 7 by decide)
def ODict (P : Program) (w : World) (a : Addr) (xs : List (OKey × Addr × Value)) : HO :=
  .ext fun h => ∃ o es ep, h.get? a = some o ∧ o.ExactDict ∧ o.data = .dict es ep ∧ es.toList = xs.map (entryOfKey (MO P w)) ∧ (xs.map (·.1)).Nodup
def KeyO (H : Hp) (k : OKey) (b : Addr) : Prop := H b = some (.tup (k.map optV))
def ORow (H : Hp) (p : OKey × V) (q : OKey × Addr × Value) : Prop := q.1 = p.1 ∧ KeyO H p.1 q.2.1 ∧ RelV p.2 q.2.2
def DO (P : Program) (w : World) (H : Hp) (a : Addr) (kvs : List (OKey × V)) : Prop :=
  ∃ xs, H a = some (ODict P w a xs) ∧ (a == sysModules) = false ∧ xs.length ≤ sizeLine ∧ Paired (ORow H) kvs xs
theorem KeyO.mono {H H' : Hp} {k : OKey} {b : Addr} (h : KeyO H k b) (sm : ∀ c xs, H c = some (.tup xs) → H' c = some (.tup xs)) : KeyO H' k b := by
  exact sm _ _ h
theorem DO.mono {P : Program} {w : World} {H H' : Hp} {a : Addr} {kvs : List (OKey × V)} (h : DO P w H a kvs) (sm : Same H H') : DO P w H' a kvs := by
  obtain ⟨xs, h1, h2, h3, h4⟩ := h
  exact ⟨xs, sm _ _ h1, h2, h3, Paired.imp' (fun p q z => ⟨z.1, z.2.1.mono fun c ys e => sm _ _ e, z.2.2⟩) h4⟩
theorem DO.len {P : Program} {w : World} {H : Hp} {a : Addr} {kvs : List (OKey × V)} (h : DO P w H a kvs) : kvs.length ≤ sizeLine := by
  obtain ⟨xs, h1, h2, h3, h4⟩ := h
  rw [Paired.length h4]; exact h3
section
variable {P : Program} {w : World} {H : Hp}
theorem ORow.val : ∀ {kvs : List (OKey × V)} {xs : List (OKey × Addr × Value)} (k : OKey), Paired (ORow H) kvs xs → RelO (valV kvs k) ((atKey xs k).map (·.2))
  | _, _, k, .nil => True.intro
  | _, _, k, @Paired.cons _ _ _ p q kvs xs r t => by
    have ih := ORow.val k t
    obtain ⟨e1, e2, e3⟩ := r
    by_cases h : p.1 = k
    · have h1 : valV (p :: kvs) k = some p.2 := by simp [valV, h]
      have h2 : atKey (q :: xs) k = some q.2 := by simp [atKey, e1, h]
      rw [h1, h2]; exact e3
    · have hn : ¬ q.1 = k := fun z => h (e1.symm.trans z)
      have h1 : valV (p :: kvs) k = valV kvs k := by simp [valV, h]
      have h2 : atKey (q :: xs) k = atKey xs k := by simp [atKey, hn]
      rw [h1, h2]; exact ih
end
section
variable {X : Cx} {pins : List (Addr × Obj)} {σ : St} {H : Hp} {s : Shared} {a b : Addr} {k : OKey} {kvs : List (OKey × V)}
theorem Inv.keyO (I : Inv X pins σ H s) (h : KeyO H k b) : (MO X.prog X.w).is s.heap k b := by
  obtain ⟨_, its2, r2, o2, e2, c2, n2, d2⟩ : (k.map optV).length ≤ sizeLine ∧ ∃ its : List Value, Vals (k.map optV) its ∧ IsTup s.heap b its.toArray := by obtain ⟨z, its, r, p⟩ := I.hok b _ h; exact ⟨z, its, r, p.tup⟩
  exact ⟨b, o2, _, n2, rfl, e2, c2, d2, by simpa using items_of_vals r2⟩
theorem Inv.dO (I : Inv X pins σ H s) (h : DO X.prog X.w H a kvs) : ∃ xs, H a = some (ODict X.prog X.w a xs) ∧ (a == sysModules) = false ∧ xs.length ≤ sizeLine ∧ Paired (ORow H) kvs xs ∧ s.heap.DictOfH (MO X.prog X.w) a xs := by
  obtain ⟨xs, h1, h2, h3, h4⟩ := h
  obtain ⟨⟨o, es, ep, e1, e2, e3, e4, e5⟩, _, _⟩ := I.hok a _ h1
  refine ⟨xs, h1, h2, h3, h4, o, es, ep, e1, e2, e3, e4, ?_, e5⟩
  have all : ∀ {l : List (OKey × V)} {m : List (OKey × Addr × Value)}, Paired (ORow H) l m → ∀ x ∈ m, (MO X.prog X.w).is s.heap x.1 x.2.1 := by
    intro l m r
    induction r with
    | nil => intro x hx; simp at hx
    | cons r t ih =>
      intro x hx
      rcases List.mem_cons.mp hx with rfl | hx
      · rw [r.1]; exact I.keyO r.2.1
      · exact ih x hx
  exact all h4
theorem odict_ok {P : Program} {w : World} {H' : Hp} {h' : Heap} {xs : List (OKey × Addr × Value)} (m : h'.DictOfH (MO P w) a xs) : ObjOk P w H' h' a (ODict P w a xs) := by
  obtain ⟨o, es, ep, e1, e2, e3, e4, _, e5⟩ := m
  exact ⟨⟨o, es, ep, e1, e2, e3, e4, e5⟩, ⟨o, e1⟩, fun h1 h2 ⟨o, es, ep, q1, q⟩ z => ⟨o, es, ep, z _ q1, q⟩⟩
/-! the rules -/
def rNotInO (P : Program) (w : World) : R2 := fun x y H Q => ∃ b a k kvs, x = .ref b ∧ y = .ref a ∧ DO P w H a kvs ∧ KeyO H k b ∧ Q (.bl (!(valV kvs k).isSome)) H
theorem op_notInO {n : Nat} (hr : Room n X.A) : OpR X (compareOp .NotIn) (rNotInO X.prog X.w) := by
  intro pins s σ H x y v u Q I rx ry h
  obtain ⟨b, a, k, kvs, rfl, rfl, hd, hk, q⟩ := h
  cases rx
  cases ry
  obtain ⟨xs, h1, h2, h3, h4, m⟩ := I.dO hd
  refine wpAny_notIn_heap (show (MO X.prog X.w).room X.A.in1 from by show X.A.units + 1 + 1 < cLine; have := hr.un; omega) (I.keyO hk) h2 m ?_
  have e := (ORow.val k h4).isSome_eq
  rw [Option.isSome_map] at e
  rw [← e]
  exact ⟨.bl _, H, I.tok _, rfl, q⟩
def rIxO (P : Program) (w : World) : R2 := fun x y H Q => ∃ a b k kvs v, x = .ref a ∧ y = .ref b ∧ DO P w H a kvs ∧ KeyO H k b ∧ valV kvs k = some v ∧ Q v H
theorem ix_O {n : Nat} (hr : Room n X.A) : IxR X (rIxO X.prog X.w) := by
  intro value slice pins s σ H x y v u Q I rx ry h hs
  obtain ⟨a, b, k, kvs, z, rfl, rfl, hd, hk, hv, q⟩ := h
  cases rx
  cases ry
  obtain ⟨xs, h1, h2, h3, h4, m⟩ := I.dO hd
  obtain ⟨w', hw, rw'⟩ := RelO.some_of (v := z) (o := (atKey xs k).map (·.2)) (by rw [← hv]; exact ORow.val k h4)
  obtain ⟨p, hp, hp2⟩ := Option.map_eq_some_iff.mp hw
  have hl : typeLookup (.type "dict") "__getitem__" = pure (some (.builtin "dict.__getitem__")) := PySem.F.slot_dict_getitem.lookup
  refine subscriptTail_builtinR (x := w') m.typeIs hl ?_ hs
  refine wpAny_getItem_heap (show (MO X.prog X.w).room X.A.in1 from by show X.A.units + 1 + 1 < cLine; have := hr.un; omega) (I.keyO hk) m hp ?_
  rw [hp2]
  exact ⟨rfl, z, H, I.tok _, rw', q⟩
def rSetO (P : Program) (w : World) : TSet := fun o i v H Q => ∃ a b k kvs, o = .ref a ∧ i = .ref b ∧ DO P w H a kvs ∧ KeyO H k b ∧ valV kvs k = none ∧ kvs.length < sizeLine ∧ ∀ u, DO P w (upd H a u) a (kvs ++ [(k, v)]) → Q (upd H a u)
theorem set_O {n : Nat} (hr : Room n X.A) : PSet X (rSetO X.prog X.w) := by
  intro pins s σ H o i v ov iv u Q I ro ri rv h
  obtain ⟨a, b, k, kvs, rfl, rfl, hd, hk, hv, hl, q⟩ := h
  cases ro
  cases ri
  obtain ⟨xs, h1, h2, h3, h4, m⟩ := I.dO hd
  have hx : atKey xs k = none := by
    have e := ORow.val k h4
    rw [hv] at e
    cases hq : atKey xs k with
    | none => rfl
    | some p => rw [hq] at e; exact e.elim
  refine wpAny_setItem_heap (hsz := h3) (show (MO X.prog X.w).room X.A.in1 from by show X.A.units + 1 + 1 < cLine; have := hr.un; omega) (I.keyO hk) m fun h' m' hs => ?_
  rw [storedH_new hx] at m'
  have keep : ∀ c ys, H c = some (.tup ys) → upd H a (ODict X.prog X.w a (xs ++ [(k, b, u)])) c = some (.tup ys) := fun c ys e => by
    rw [upd_ne (ne_of e h1 (fun z => nomatch z))]; exact e
  refine ⟨upd H a (ODict X.prog X.w a (xs ++ [(k, b, u)])), d_write I (by rw [h1]; exact True.intro) hs (let ⟨o, _, _, e, _⟩ := m'; ⟨o, e⟩) (odict_ok m'), q _ ⟨_, upd_same, h2, ?_, ?_⟩⟩
  · rw [List.length_append, ← Paired.length h4]
    show kvs.length + 1 ≤ sizeLine
    omega
  · exact Paired.snoc ⟨rfl, hk.mono keep, rv⟩ (Paired.imp' (fun p q z => ⟨z.1, z.2.1.mono keep, z.2.2⟩) h4)
def tDGetO (P : Program) (w : World) (td ty : TE) : TE := fun σ H Q => td σ H fun x H1 => ∃ a kvs, x = .ref a ∧ DO P w H1 a kvs ∧ ty σ H1 fun y H2 => ∃ b k kvs', y = .ref b ∧ DO P w H2 a kvs' ∧ KeyO H2 k b ∧ Q ((valV kvs' k).getD .non) H2
theorem pe_getO {n : Nat} (hr : Room n X.A) {o e : Expr} {td ty : TE} {apos cpos : Pos} (ho : PE X o td) (he : PE X e ty) (m : M1 X o "get" apos e cpos) : PE X (.Call (.Attribute o "get" apos) [e] [] cpos) (tDGetO X.prog X.w td ty) := by
  intro pins s σ H Q I h
  refine wpAny_Call_method m.base m.few m.line PySem.F.plainAttrs_dict PySem.F.slot_dict_get PySem.F.type_dict_get (thn (ho pins s σ H _ I h) fun u s1 ⟨x, H1, I1, rx, a, kvs, ex, d, q1⟩ => ?_)
  subst ex
  obtain rfl : u = Value.ref a := rx
  obtain ⟨xs, h1, h2, h3, h4, mm⟩ := I1.dO d
  refine ⟨mm.typeIs, fun b q => ?_, ?_⟩
  · cases q
    obtain ⟨ob, _, _, g1, g2, _⟩ := mm
    exact ⟨ob, g1, g2.2.1⟩
  rw [m.trees]
  refine Calls.callWith_builtin rfl (Calls.evalArgs_plain (Calls.spliced_cons (thn (he pins s1 σ H1 _ I1 q1) fun iv s2 ⟨y, H2, I2, ry, b, k, kvs', ey, d2, kk, q2⟩ => Calls.spliced_nil ?_)))
  subst ey
  obtain rfl : iv = Value.ref b := ry
  obtain ⟨xs2, g1, g2, g3, g4, m2⟩ := I2.dO d2
  refine call_meetsIn PySem.F.slot_dict_get m2.typeIs PySem.F.entry_dict_get (PySem.F.args_dict_get_2 _ _) (meetsH_dict_get (MO X.prog X.w) a b g2) ⟨by show X.A.units + 1 + 1 < cLine; have := hr.un; omega, k, xs2, I2.keyO kk, m2, ?_⟩
  exact ⟨_, H2, I2.tok _, (ORow.val k g4).getD (d := V.non) (show RelV .non Value.none from rfl), q2⟩
/-- {k: v} whose key is a tuple of ints and None -/
def tDisp1O (P : Program) (w : World) (tk tv : TE) : TE := fun σ H Q => ∀ p, H p = none → ∀ u, DO P w (upd H p u) p [] → tk σ (upd H p u) fun y H1 => tv σ H1 fun z H2 => ∃ b k, y = .ref b ∧ KeyO H2 k b ∧ DO P w H2 p [] ∧ ∀ u', DO P w (upd H2 p u') p [(k, z)] → Q (.ref p) (upd H2 p u')
theorem pe_disp1O {n : Nat} (hr : Room n X.A) {ek ev : Expr} {tk tv : TE} {pos : Pos} (hk : PE X ek tk) (hv : PE X ev tv) : PE X (.Dict [some ek] [ev] pos) (tDisp1O X.prog X.w tk tv) := by
  intro pins s σ H Q I q
  have hn := I.hok.fresh (Nat.le_refl s.heap.objs.size)
  have hm : (s.heap.push { cls := .type "dict", data := .dict #[] }).DictOfH (MO X.prog X.w) s.heap.objs.size [] := ⟨_, #[], 0, Heap.get?_push_size _ rfl, ⟨rfl, rfl, rfl⟩, rfl, rfl, (fun x hx => by simp at hx), List.nodup_nil⟩
  have I1 := I.laid (a := s.heap.objs.size) (o := ODict X.prog X.w s.heap.objs.size []) (t' := s.toks) (fun _ _ q => Heap.get?_push_of_some _ q) (Nat.le_refl _) (odict_ok hm)
  have hD : DO X.prog X.w (upd H s.heap.objs.size (ODict X.prog X.w s.heap.objs.size [])) s.heap.objs.size [] := ⟨[], upd_same, beq_eq_false_iff_ne.mpr (Ne.symm (Nat.ne_of_lt I.big)), Nat.zero_le _, .nil⟩
  refine wpAny_Dict_any rfl rfl (by simp) (by simp) (pairTrees_cons_walk (thn (hk pins _ σ _ _ I1 (q _ hn _ hD)) fun u s1 ⟨x, H1, I1', rx, q1⟩ => thn (hv pins s1 σ H1 _ I1' q1) fun w2 s2 ⟨y, H2, I2, ry, b, k, ex, kk, d2, q2⟩ => pairTrees_nil_walk ?_))
  subst ex
  obtain rfl : u = Value.ref b := rx
  obtain ⟨xs, h1, h2, h3, h4, m⟩ := I2.dO d2
  cases h4
  unfold storeAll
  rw [List.forIn_cons]
  refine wpAny_bind (wpAny_bind (wpAny_dictSet_heap (knd := MO X.prog X.w) (k := k) (xs := []) (hsz := Nat.zero_le _) (show (MO X.prog X.w).room X.A from by show X.A.units + 1 < cLine; have := hr.un; omega) (I2.keyO kk) m fun h' m' hs => wpAny_pure ?_))
  dsimp only
  rw [List.forIn_nil]
  refine wpAny_pure ?_
  have keep : ∀ c ys, H2 c = some (.tup ys) → upd H2 s.heap.objs.size (ODict X.prog X.w s.heap.objs.size [(k, b, w2)]) c = some (.tup ys) := fun c ys e => by
    rw [upd_ne (ne_of e h1 (fun z => nomatch z))]; exact e
  have m2 : h'.DictOfH (MO X.prog X.w) s.heap.objs.size [(k, b, w2)] := m'
  exact ⟨.ref s.heap.objs.size, upd H2 s.heap.objs.size (ODict X.prog X.w s.heap.objs.size [(k, b, w2)]), d_write I2 (by rw [h1]; exact True.intro) hs (let ⟨o, _, _, e, _⟩ := m2; ⟨o, e⟩) (odict_ok m2), rfl, q2 _ ⟨_, upd_same, h2, by rw [sizeLine_eq]; simp, .cons ⟨rfl, kk.mono keep, ry⟩ .nil⟩⟩
end
end L2

set_option Elab.async false
set_option linter.all false
set_option maxRecDepth 100000
namespace L2
open PySem PySem.Spec PyProof.Rows

/-! ### exceptions: how one lies behind a call -/
def CX1 (P : Program) (w : World) : CXT := fun outer H s E e s' =>
  ∃ (H' : Hp) (hR : Heap) (a : Addr) (C a0 : Value) (fl : List Addr), e = .ref a ∧ s'.os = s.os ∧ AllBare s'.gens ∧
    Un (frs outer) [] H H' s.heap hR ∧ HOk P w H' hR ∧ (∀ b ∈ fl, H' b = none ∧ (b ∈ frs outer ∨ s.heap.get? b = none)) ∧ (∀ b ∈ frs outer, b ∈ fl) ∧
    Heap.FlyingW (PySem.W.hideAll hR fl) outer a C a0 s'.heap ∧ hR.UpToSlots s'.heap ∧ E C none H'

/-- a def's body, where exceptions are as CX1 tells -/
structure Lv (X : Cx) (E : XK) : Prop where
  st : X.stack = X.env :: X.outer
  fr : X.env.frame = some X.env.locals
  ex : X.ex = []
  calm : X.calm = true
  xe : ∀ e s', wpAny (model X.prog X.w) X.A (leaving X.env e) (fun _ s'' => CX1 X.prog X.w X.outer X.H₀ X.s₀ E e s'') (fun e' s'' => CX1 X.prog X.w X.outer X.H₀ X.s₀ E e' s'') s' → X.xe e s'
section
variable {X : Cx} {E : XK} {x : Str} {C : Addr} {bmB : List Value} {B newId initId : String} {np cpos pos : Pos} {e : Expr} {es : List Expr} {t : TA}
theorem Lv.sub (L : Lv X E) {b : Addr} (h : b ∈ frs X.outer) : b ∈ frs X.stack := by
  rw [L.st]; unfold frs; rw [List.filterMap_cons, L.fr]; exact List.mem_cons_of_mem _ h
end

/-! ### defs that may raise -/
structure CalX (P : Program) (w : World) (K : PySem.W.Frag) (mg : Str → Option Value) (base : Heap) (k : Nat) (x : Str) (ps : List Str) (sp : Sp) : Prop where
  ex : ∃ f fd, FnOk P w K mg base (CX1 P w) k f fd ps sp ∧ Binds K fd ps [] ∧ PySem.W.keepIn K (.ref f) = true ∧ mg x = some (.ref f)
section
variable {P : Program} {w : World} {K : PySem.W.Frag} {mg : Str → Option Value} {base : Heap}
theorem FnOk.up {CX : CXT} {k : Nat} {f : Addr} {fd : FuncData} {ps : List Str} {sp : Sp} (F : FnOk P w K mg base CX0 k f fd ps sp) : FnOk P w K mg base CX k f fd ps sp :=
  ⟨F.len, fun A outer s H args us vs Q E hr he hb hv hs => codeAny_mono (F.run A outer s H args us vs Q E hr he hb hv hs) fun r s' h => by
    cases r with
    | error e => exact False.elim h
    | ok fl => cases fl <;> exact h⟩
theorem Cal.x {k : Nat} {x : Str} {ps : List Str} {sp : Sp} (c : Cal P w K mg base k x ps sp) : CalX P w K mg base k x ps sp := by
  obtain ⟨f, fd, F, b, kp, m⟩ := c.ex
  exact ⟨f, fd, F.up, b, kp, m⟩
/-- a promise that knows no exception -/
theorem CalX.calm {k : Nat} {x : Str} {ps : List Str} {sp sp' : Sp} (c : CalX P w K mg base k x ps sp) (h : ∀ vs H Q E, sp' vs H Q E → sp vs H Q E0) : Cal P w K mg base k x ps sp' := by
  obtain ⟨f, fd, F, b, kp, m⟩ := c.ex
  refine ⟨f, fd, ⟨fun vs H Q E q => F.len vs H Q _ (h _ _ _ _ q), fun A outer s H args us vs Q E hr he hb hv hs => codeAny_mono (F.run A outer s H args us vs Q E0 hr he hb hv (h _ _ _ _ hs)) fun r s' h => ?_⟩, b, kp, m⟩
  cases r with
  | error e => obtain ⟨_, _, _, _, _, _, _, _, _, _, _, _, _, _, _, q⟩ := h; exact False.elim q
  | ok fl => cases fl <;> exact h
end
section
variable {X : Cx}
end

/-! ### try: what may raise stands at a fixed place: the names are as they were when it began -/
/-- an exception out of a call at these names -/
def XA (X : Cx) (Ee : XK) (pins : List (Addr × Obj)) (σ : St) : Value → Shared → Prop := fun e s' => ∃ H0 s0, Inv X pins σ H0 s0 ∧ CX1 X.prog X.w X.stack H0 s0 Ee e s'
def EAt (X : Cx) (Ee : XK) (e : Expr) (t : TE) : Prop :=
  ∀ (pins : List (Addr × Obj)) (s : Shared) (σ : St) (H : Hp) (Q : VK), Inv X pins σ H s → t σ H Q → wpAny (model X.prog X.w) X.A (eval e X.env) (EP X pins σ Q) (XA X Ee pins σ) s
def SsAt (X : Cx) (Ee : XK) (st : List Stmt) (t : TS) : Prop :=
  ∀ (pins : List (Addr × Obj)) (s : Shared) (σ : St) (H : Hp) (D : Ends), Inv X pins σ H s → t D σ H → wpAny (model X.prog X.w) X.A (execs st X.env) (SP X pins D) (XA X Ee pins σ) s
section
variable {X : Cx} {Ee : XK}
theorem PE.at {e : Expr} {t : TE} (h : PE X.nox e t) : EAt X Ee e t := fun pins s σ H Q I q =>
  wpAny_mono (h pins s σ H Q (I.wish _) q) (fun _ _ ⟨v, H', I', r, q⟩ => ⟨v, H', I'.unwish, r, q⟩) fun _ _ z => False.elim z
theorem PSs.at {st : List Stmt} {t : TS} (h : PSs X.nox st t) : SsAt X Ee st t := fun pins s σ H D I q =>
  wpAny_mono (h pins s σ H D (I.wish _) q) (fun _ _ q => q.unwish) fun _ _ z => False.elim z
end

/-! ### within an except suite -/
section
variable {X : Cx} {pins : List (Addr × Obj)} {σ : St} {H : Hp} {s : Shared}
end

/-! ### try: .. except C as n: .. -/
section
variable {X : Cx} {x n : Str} {C : Addr} {bmB : List Value} {B newId initId : String} {np hp pos : Pos} {body suite : List Stmt} {b₀ : Stmt} {tb : XK → TS} {th : TS} {rest : List ExceptHandler}
end
end L2

set_option Elab.async false
set_option linter.all false
set_option maxRecDepth 100000
namespace L2
open PySem PySem.Spec PyProof.Rows

/-! ### the program's own exceptions, as the written part has them -/
def tailQ (K : PySem.W.Frag) (bmB : List Value) : List Value → Bool
  | [] => bmB == []
  | v :: r => (v :: r) == bmB || match v with
    | .ref A => (match K.lookup A with
      | some ⟨_, _, .cls cd, _⟩ => PySem.W.nsOkIn K cd.ns && quietNames.all (fun n => PySem.W.nsIn K cd.ns n == some none) && tailQ K bmB r
      | _ => false)
    | _ => false
def excQ (K : PySem.W.Frag) (C : Addr) (bmB : List Value) (newId : String) : Bool := match K.lookup C with
  | some ⟨.type "type", _, .cls cd, sl⟩ => (match cd.mro, sl.toList with
    | .ref C' :: bm, [_, _, _, _, some (.builtin n), _] => C' == C && n == newId && !cd.hasDel && tailQ K bmB bm && PySem.W.nsOkIn K cd.ns && quietNames.all fun n => PySem.W.nsIn K cd.ns n == some none
    | _, _ => false)
  | _ => false
/-! ### its class -/
section
variable {prog : Program} {w : World} {A : Around} {E : Value → Shared → Prop} {h : Heap} {g : Array GenState} {d : Drawn} {t : Nat} {os : OsState} {a : Addr} {o : Obj} {K : PySem.W.Frag}
  {x : Str} {C : Addr} {bmB : List Value} {B newId : String} {mg : Str → Option Value}
end

/-! ### isinstance(e, C) -/
section
variable {X : Cx}
/-- what of the text an exception's class must have -/
structure ExcC (K : PySem.W.Frag) (C : Addr) : Prop where
  q : excQ K C [.type "ValueError", .type "Exception", .type "BaseException", .type "object"] "ValueError.__new__" = true
  sub : PySem.W.subIn K (.ref C) (.type "object") = some true
  cls : PySem.W.findIn K (.ref C) "__class__" = some (some (.builtin "object.__class__"))
end
end L2

set_option Elab.async false
set_option linter.all false
set_option maxRecDepth 100000
namespace L2
open PySem PySem.Spec PyProof.Rows

/-! ### defs that are called within an except suite -/
structure RoomH (k : Nat) (A : Around) : Prop where
  dp : A.depth + 3 * k + 5 < recursionLimit
  un : A.units + 16 * k + 200 < cLine
theorem Room.h {k : Nat} {A : Around} (r : Room k A) : RoomH k A := ⟨r.dp, r.un⟩
theorem RoomH.mono {j k : Nat} {A : Around} (r : RoomH k A) (h : j ≤ k) : RoomH j A := ⟨by have := r.dp; omega, by have := r.un; omega⟩
theorem RoomH.deeper {k : Nat} {A : Around} (r : RoomH (k + 1) A) (env : Env) : RoomH k (A.deeper env) :=
  ⟨by have := r.dp; show A.depth + 1 + 3 * k + 5 < _; omega, by have := r.un; show A.units + 3 + 16 * k + 200 < _; omega⟩
theorem RoomH.depth {k : Nat} {A : Around} (r : RoomH k A) : A.depth < recursionLimit := by have := r.dp; omega
structure FnOkH (P : Program) (w : World) (K : PySem.W.Frag) (mg : Str → Option Value) (base : Heap) (k : Nat) (f : Addr) (fd : FuncData) (ps : List Str) (sp : Sp) : Prop where
  len : ∀ vs H Q E, sp vs H Q E → vs.length = ps.length
  run : ∀ (A : Around) (outer : List Env) (s : Shared) (H : Hp) (args : Args) (us : List Value) (vs : List V) (Q : VK), RoomH k A → Env0 P w K mg base A outer s H → BindsTo s fd args (ps.zip us) → Vals vs us → sp vs H Q E0 →
    codeAny (model P w) A (.call (.ref f) args) (CR CX0 outer P w H s Q E0) s
structure CalH (P : Program) (w : World) (K : PySem.W.Frag) (mg : Str → Option Value) (base : Heap) (k : Nat) (x : Str) (ps : List Str) (sp : Sp) : Prop where
  ex : ∃ f fd, FnOkH P w K mg base k f fd ps sp ∧ Binds K fd ps [] ∧ PySem.W.keepIn K (.ref f) = true ∧ mg x = some (.ref f)
section
variable {P : Program} {w : World} {K : PySem.W.Frag} {mg : Str → Option Value} {base : Heap}
end
section
variable {X : Cx}
end
/-! ### the rules as the texts use them -/
structure ExcAt (K : PySem.W.Frag) (mg : Str → Option Value) (x : Str) (C : Addr) : Prop where
  c : ExcC K C
  m : mg x = some (.ref C)
section
variable {X : Cx} {E : XK} {x n : Str} {C : Addr} {np cpos hp pos : Pos} {e : Expr} {es body suite : List Stmt} {b₀ : Stmt} {t : TA} {tb : XK → TS} {th : TS} {rest : List ExceptHandler}
end
structure ClsAt (mg : Str → Option Value) (x : Str) (C : Addr) : Prop where
  m : mg x = some (.ref C)
/-! ### try: .. except C: .. (without a name) -/
section
variable {X : Cx} {x : Str} {C : Addr} {np hp pos : Pos} {body suite : List Stmt} {b₀ : Stmt} {tb : XK → TS} {th : TS} {rest : List ExceptHandler}
end
end L2

set_option Elab.async false
set_option linter.all false
set_option maxRecDepth 100000
set_option maxHeartbeats 4000000
/-! ### a comprehension with a test over enumerate; list(reversed(a list)) -/
namespace L2
open PySem PySem.Spec PyProof PyProof.Rows
section
variable {K : PySem.W.Frag} {a b : Addr} {xs ys : List V} {g : TG} {te : TE} {nT : Nat} {σ : St} {D : Addr} {Q : VK} {H : Hp}
end
section
variable {prog : Program} {w : World} {A : Around} {E : Value → Shared → Prop} {s : Shared}
end
end L2

set_option Elab.async false
set_option linter.all false
set_option maxRecDepth 100000
set_option maxHeartbeats 4000000
/-! ### dict(a dict); the items of a dict gone over; a list of ints less than another -/
namespace L2
open PySem PySem.Spec PyProof PyProof.Rows
section
variable {X : Cx}
end
section
variable {X : Cx}
end
section
variable {d : Addr} {o : Obj} {kvs : List (Key × V)} {g : TG} {σ : St} {H : Hp}
end
end L2
namespace PySem.SeqAt
open AutoSeq1 (wpAny_loadPart')
open MeetsSeq MeetsSeq2 MeetsSeq3
end PySem.SeqAt
namespace L2
open PySem PySem.Spec PyProof PyProof.Rows
section
variable {X : Cx}
end
end L2
namespace L2
open PySem PySem.Spec PyProof PyProof.Rows
section
variable {X : Cx}
end
end L2

set_option Elab.async false
set_option linter.all false
set_option maxRecDepth 100000
namespace L2
open PySem PySem.Spec PyProof.Rows

/-! ### dicts whose keys are ints and None -/
def oIs : Option Int → Value → Bool
  | none, v => (match v with | .none => true | _ => false)
  | some i, v => Value.isInt i v
theorem oIs_rel : ∀ {k : Option Int} {v : Value}, oIs k v = true → RelV (optV k) v
  | none, v, h => by
    cases v <;> first | rfl | cases h
  | some i, v, h => Value.isInt_shape (k := i) (v := v) h
theorem oIs_of : ∀ {k : Option Int} {v : Value}, RelV (optV k) v → oIs k v = true
  | none, v, h => by
    obtain rfl : v = Value.none := h
    rfl
  | some i, v, h => by
    obtain ⟨t, rfl⟩ := (show ∃ t, v = Value.int i t from h)
    simp [oIs, Value.isInt]
def optKind (prog : Program) (w : World) : PySem.KeyKind prog w (Option Int) where
  is := oIs
  hash := (optK prog w).hash
  inj := fun v a b ha hb => (optK prog w).inj (h := default) (oIs_rel ha) (oIs_rel hb)
  byValue := fun k v h => by
    have r := oIs_rel h
    cases k with
    | none => obtain rfl : v = Value.none := r; rfl
    | some i => obtain ⟨t, rfl⟩ := (show ∃ t, v = Value.int i t from r); rfl
  pyHash := fun {A E s k v Q} hv h => by
    have r := oIs_rel hv
    cases k with
    | none =>
      obtain rfl : v = Value.none := r
      exact hash_none h
    | some i =>
      obtain ⟨t, rfl⟩ := (show ∃ t, v = Value.int i t from r)
      exact wpAny_pyHash_int h
  eqBool := fun {A E s a b u v Q} hu hv h => by
    have q := eqAt_V (A := A) (s := s) (oIs_rel hu) (oIs_rel hv) (optV_flat a) (optV_flat b)
    rw [optV_eq] at q
    exact q prog w E Q h
  «strs» := fun k x t v h => by
    cases k with
    | none => cases h
    | some i => simp [oIs, Value.isInt] at h
def OpD (P : Program) (w : World) (a : Addr) (kvs : List (Option Int × V)) : HO :=
  .ext fun h => kvs.length ≤ sizeLine ∧ (a == sysModules) = false ∧ ∃ vs, KV kvs vs ∧ h.DictOf (optKind P w) a vs
theorem opd_ok {P : Program} {w : World} {H' : Hp} {h' : Heap} {a : Addr} {kvs : List (Option Int × V)} {vs : List (Option Int × Value)} (z : kvs.length ≤ sizeLine) (hd : (a == sysModules) = false) (rel : KV kvs vs) (m : h'.DictOf (optKind P w) a vs) : ObjOk P w H' h' a (OpD P w a kvs) := by
  obtain ⟨o, es, ep, e1, e⟩ := id m
  exact ⟨⟨z, hd, vs, rel, m⟩, ⟨o, e1⟩, fun h1 h2 ⟨z', hd', vs', rel', o', es', ep', q1, q⟩ y => ⟨z', hd', vs', rel', o', es', ep', y _ q1, q⟩⟩
section
variable {X : Cx} {pins : List (Addr × Obj)} {σ : St} {H : Hp} {s : Shared} {a : Addr} {kvs : List (Option Int × V)}
theorem Inv.op (I : Inv X pins σ H s) (h : H a = some (OpD X.prog X.w a kvs)) : kvs.length ≤ sizeLine ∧ (a == sysModules) = false ∧ ∃ vs, KV kvs vs ∧ s.heap.DictOf (optKind X.prog X.w) a vs := (I.hok a _ h).1
def rIxOp (P : Program) (w : World) : R2 := fun x y H Q => ∃ a k kvs v, x = .ref a ∧ y = optV k ∧ H a = some (OpD P w a kvs) ∧ valV kvs k = some v ∧ Q v H
theorem ix_Op : IxR X (rIxOp X.prog X.w) := by
  intro value slice pins s σ H x y v u Q I rx ry h hs
  obtain ⟨a, k, kvs, z, rfl, rfl, e, l, q⟩ := h
  cases rx
  obtain ⟨_, hd, vs, rel, dd⟩ := I.op e
  obtain ⟨w', hw, rw'⟩ := RelO.some_of (v := z) (o := valueAt vs k) (by rw [← l]; exact rel.val k)
  have hl : typeLookup (.type "dict") "__getitem__" = pure (some (.builtin "dict.__getitem__")) := PySem.F.slot_dict_getitem.lookup
  exact subscriptTail_builtinR (x := w') dd.typeIs hl (wpAny_getItem_of (knd := optKind X.prog X.w) (oIs_of ry) dd.mapOf hw ⟨rfl, z, H, I.tok _, rw', q⟩) hs
def rSetOp (P : Program) (w : World) : TSet := fun o i v H Q => ∃ a k kvs, o = .ref a ∧ i = optV k ∧ H a = some (OpD P w a kvs) ∧ kvs.length < sizeLine ∧ Q (upd H a (OpD P w a (putK kvs k v)))
theorem set_Op : PSet X (rSetOp X.prog X.w) := by
  intro pins s σ H o i v ov iv u Q I ro ri rv h
  obtain ⟨a, k, kvs, rfl, rfl, e, hl, q⟩ := h
  cases ro
  obtain ⟨z, hd, vs, rel, dd⟩ := I.op e
  have hz : vs.length ≤ sizeLine := by rw [← rel.length]; exact z
  have hl' : (putK kvs k v).length ≤ sizeLine := by have := length_putK kvs k v; omega
  refine wpAny_setItem_pairs (knd := optKind X.prog X.w) (hsz := hz) (oIs_of ri) dd fun h' dd' hs => ⟨_, ?_, q⟩
  have he : ∃ q, h'.get? a = some q := let ⟨q, _, _, hq, _⟩ := dd'; ⟨q, hq⟩
  exact d_write I (by rw [e]; exact True.intro) hs he (opd_ok hl' hd (rel.put k rv) dd')
def tDNewOp (P : Program) (w : World) : TE := fun _ H Q => ∀ p, H p = none → Q (.ref p) (upd H p (OpD P w p []))
theorem pe_dnewOp {pos : Pos} : PE X (.Dict [] [] pos) (tDNewOp X.prog X.w) := fun pins s σ H Q I h => by
  have hb : (s.heap.objs.size == sysModules) = false := beq_eq_false_iff_ne.mpr (Ne.symm (Nat.ne_of_lt I.big))
  have hm : (s.heap.push { cls := .type "dict", data := .dict #[] }).DictOf (optKind X.prog X.w) s.heap.objs.size [] := ⟨_, #[], 0, Heap.get?_push_size _ rfl, ⟨rfl, rfl, rfl⟩, rfl, (fun x hx => by simp at hx), .nil, List.nodup_nil⟩
  exact wpAny_Dict_empty ⟨.ref s.heap.objs.size, _, I.laid (a := s.heap.objs.size) (o := OpD X.prog X.w s.heap.objs.size []) (t' := s.toks) (fun _ _ q => Heap.get?_push_of_some _ q) (Nat.le_refl _) (opd_ok (Nat.zero_le _) hb .nil hm), rfl, h _ (I.hok.fresh (Nat.le_refl _))⟩
end
section
variable {X : Cx} (P : Program) (w : World)
theorem ix_OpW (hP : X.prog = P := by rfl) (hw : X.w = w := by rfl) : IxR X (rIxOp P w) := by subst hP hw; exact ix_Op
theorem set_OpW (hP : X.prog = P := by rfl) (hw : X.w = w := by rfl) : PSet X (rSetOp P w) := by subst hP hw; exact set_Op
theorem pe_dnewOpW {pos : Pos} (hP : X.prog = P := by rfl) (hw : X.w = w := by rfl) : PE X (.Dict [] [] pos) (tDNewOp P w) := by subst hP hw; exact pe_dnewOp
end
end L2

set_option Elab.async false
set_option linter.all false
set_option maxRecDepth 100000
set_option maxHeartbeats 4000000
/-! zip of a list and a tuple -/
namespace L2
open PySem PySem.Spec PyProof PyProof.Rows
section
variable {prog : Program} {w : World} {A : Around} {E : Value → Shared → Prop} {s : Shared}
def LSt (i t : Addr) (zs : Array Value) (k : Nat) (h : Heap) : Prop := h.IsListIter i t k ∧ h.IsList t zs
theorem LSt.ext {i t b : Addr} {zs : Array Value} {k : Nat} {h h' : Heap} (x : LSt i t zs k h) (hs : Heap.ExtBut b h h') (n1 : i ≠ b) (n2 : t ≠ b) : LSt i t zs k h' := ⟨x.1.extBut hs n1, x.2.extBut hs n2⟩
theorem next_lst {i t : Addr} {k : Nat} {zs : Array Value} {v : Value} {Q : Value → Shared → Prop} (st : LSt i t zs k s.heap) (nit : t ≠ i) (hv : zs[k]? = some v)
    (q : ∀ h', LSt i t zs (k + 1) h' → Heap.SameBut i s.heap h' → Q v { s with heap := h' }) : wpAny (model prog w) A (Builtin.SmallTypes.nextOf (.ref i)) Q E s :=
  wpAny_nextOf_list_item st.1 st.2 hv fun h' r m => q h' ⟨r, st.2.extBut m.extBut nit⟩ m
theorem end_lst {i t : Addr} {k : Nat} {zs : Array Value} {Q : Value → Shared → Prop} (hh : A.handled = none) (st : LSt i t zs k s.heap) (hv : zs[k]? = none)
    (q : ∀ h' e, Heap.ExtBut i s.heap h' → (∃ o, h'.get? e = some o ∧ o.cls = .type "StopIteration") → E (.ref e) { s with heap := h' }) : wpAny (model prog w) A (Builtin.SmallTypes.nextOf (.ref i)) Q E s :=
  wpAny_nextOf_list_end hh st.1 st.2 hv fun h' e m he => q h' e m he
variable {z TI TO i1 i2 t1 t2 : Addr} {xs ys : Array Value} {k1 k2 : Nat} {a b : Value}
theorem zipM_item {x y : Value} {Q : Value → Shared → Prop} (D : ZipApart z TI TO i1 i2 t1 t2) (gz : IsZip s.heap z TI TO .none) (gI : IsPair s.heap TI (.ref i1) (.ref i2)) (gO : IsPair s.heap TO a b)
    (g1 : LSt i1 t1 xs k1 s.heap) (g2 : TSt i2 t2 ys k2 s.heap) (hx : xs[k1]? = some x) (hy : ys[k2]? = some y)
    (q : ∀ h', IsZip h' z TI TO (rawInt s.heap.objs.size) → IsPair h' TO x y → LSt i1 t1 xs (k1 + 1) h' → TSt i2 t2 ys (k2 + 1) h' → IsPair h' s.heap.objs.size x y → h'.objs.size = s.heap.objs.size + 1 →
      (∀ c o, c ≠ z → c ≠ TO → c ≠ i1 → c ≠ i2 → s.heap.get? c = some o → h'.get? c = some o) → Q (.ref s.heap.objs.size) { s with heap := h' }) :
    wpAny (model prog w) A (Builtin.«zip.__next__» ⟨[.ref z], []⟩) (fun fin s' => ∃ v, fin = .done (.ret v) ∧ Q v s') E s := by
  show wpAny _ _ (field (.ref z) 2 >>= fun _ => _) _ _ _
  refine wpAny_bind (wpAny_field gz rfl (x := .bool false) rfl ?_)
  show wpAny _ _ (field (.ref z) 3 >>= fun _ => _) _ _ _
  refine wpAny_bind (wpAny_field gz rfl (x := .ref TI) rfl (wpAny_bind (wpAny_seqItems gI rfl ?_)))
  show wpAny _ _ (Builtin.SmallTypes.ownedTupleIsFree (.ref z) >>= fun _ => _) _ _ _
  refine wpAny_bind ?_
  unfold Builtin.SmallTypes.ownedTupleIsFree
  refine wpAny_bind (wpAny_field gz rfl (x := .none) rfl (wpAny_pure ?_))
  simp only [if_true]
  refine wpAny_bind (wpAny_rule (wpAny_bind (wpAny_field gz rfl (x := .ref TO) rfl (wpAny_bind (wpAny_setField_rec gz (by simp) fun ha z1 m1 => ?_)))))
  replace z1 : IsZip ha z TI TO .ellipsis := z1
  refine wpAny_bind ?_
  simp only [List.zipIdx_nil, List.zipIdx_cons, List.forIn_nil, List.forIn_cons]
  refine wpAny_bind (wpAny_bind (wpAny_onRaise ?_))
  show wpAny _ _ (Builtin.SmallTypes.nextOf (.ref i1) >>= fun _ => _) _ _ _
  refine wpAny_bind (next_lst (g1.ext m1.extBut D.i1z D.l1z) D.l1i1 hx fun hb r1 m2 => wpAny_pure ?_)
  have o2 : IsPair hb TO a b := m2.extBut _ _ D.TOi1 (m1.extBut _ _ D.TOz gO)
  refine wpAny_bind (wpAny_seqItems o2 rfl (wpAny_bind (wpAny_updateSeq_pair o2 fun hc o3 m3 => wpAny_bind (wpAny_letGo (wpAny_pure ?_)))))
  replace o3 : IsPair hc TO x b := o3
  refine wpAny_bind (wpAny_bind (wpAny_onRaise ?_))
  show wpAny _ _ (Builtin.SmallTypes.nextOf (.ref i2) >>= fun _ => _) _ _ _
  refine wpAny_bind (next_tup (((g2.ext m1.extBut D.i2z D.l2z).ext m2.extBut D.i12.symm D.l2i1).ext m3.extBut D.TOi2.symm D.l2TO) D.l2i2 hy fun hd r2 m4 => wpAny_pure ?_)
  have o4 : IsPair hd TO x b := m4.extBut _ _ D.TOi2 o3
  refine wpAny_bind (wpAny_seqItems o4 rfl (wpAny_bind (wpAny_updateSeq_pair o4 fun he o5 m5 => wpAny_bind (wpAny_letGo (wpAny_pure (wpAny_pure ?_))))))
  replace o5 : IsPair he TO x y := o5
  refine wpAny_bind (wpAny_seqItems o5 rfl (wpAny_bind (wpAny_newTuple ?_)))
  have hsz : he.objs.size = s.heap.objs.size := by rw [m5.1, m4.1, m3.1, m2.1, m1.1]
  have z5 : IsZip he z TI TO .ellipsis := m5.extBut _ _ D.TOz.symm (m4.extBut _ _ D.i2z.symm (m3.extBut _ _ D.TOz.symm (m2.extBut _ _ D.i1z.symm z1)))
  have kp : ∀ c o, c ≠ z → c ≠ TO → c ≠ i1 → c ≠ i2 → s.heap.get? c = some o → he.get? c = some o := fun c o c1 c2 c3 c4 e => m5.extBut _ _ c2 (m4.extBut _ _ c4 (m3.extBut _ _ c2 (m2.extBut _ _ c3 (m1.extBut _ _ c1 e))))
  have r1' : LSt i1 t1 xs (k1 + 1) he := ((r1.ext m3.extBut D.TOi1.symm D.l1TO).ext m4.extBut D.i12 D.l1i2).ext m5.extBut D.TOi1.symm D.l1TO
  have r2' : TSt i2 t2 ys (k2 + 1) he := r2.ext m5.extBut D.TOi2.symm D.l2TO
  have zlt : z < he.objs.size := Heap.lt_size z5
  show wpAny _ _ (Builtin.SmallTypes.ownedTupleHandOut (.ref z) (.ref he.objs.size) >>= fun _ => _) _ _ _
  refine wpAny_bind ?_
  unfold Builtin.SmallTypes.ownedTupleHandOut
  have z6 : IsZip (he.push { cls := .type "tuple", data := .seq #[x, y] }) z TI TO .ellipsis := Heap.get?_push_of_some _ z5
  refine wpAny_bind (wpAny_setField_rec z6 (by simp) fun hf z7 m7 => ?_)
  replace z7 : IsZip hf z TI TO (rawInt he.objs.size) := z7
  refine wpAny_setField_rec z7 (by simp) fun hg z8 m8 => ?_
  replace z8 : IsZip hg z TI TO (rawInt he.objs.size) := z8
  have up : ∀ c o, c ≠ z → he.get? c = some o → hg.get? c = some o := fun c o c1 e => m8.extBut _ _ c1 (m7.extBut _ _ c1 (Heap.get?_push_of_some _ e))
  have t8 : IsPair hg he.objs.size x y := m8.extBut _ _ (Nat.ne_of_gt zlt) (m7.extBut _ _ (Nat.ne_of_gt zlt) (Heap.get?_push_size _ rfl))
  have s8 : hg.objs.size = he.objs.size + 1 := by rw [m8.1, m7.1, Heap.size_push]
  rw [hsz] at z8 t8 s8
  refine wpAny_pure ⟨_, rfl, ?_⟩
  show Q (.ref he.objs.size) _
  rw [hsz]
  have ex : Heap.ExtBut z he hg := fun c o c1 e => up c o c1 e
  exact q hg z8 (up _ _ D.TOz o5) (r1'.ext ex D.i1z D.l1z) (r2'.ext ex D.i2z D.l2z) t8 s8 fun c o c1 c2 c3 c4 e => up c o c1 (kp c o c1 c2 c3 c4 e)
theorem zipM_end {Q : Fin → Shared → Prop} (hh : A.handled = none) (D : ZipApart z TI TO i1 i2 t1 t2) (gz : IsZip s.heap z TI TO .none) (gI : IsPair s.heap TI (.ref i1) (.ref i2)) (gO : IsPair s.heap TO a b)
    (g1 : LSt i1 t1 xs k1 s.heap) (g2 : TSt i2 t2 ys k2 s.heap) (hend : xs[k1]? = none ∨ ys[k2]? = none)
    (q : ∀ h' e, (∀ c o, c ≠ z → c ≠ TO → c ≠ i1 → c ≠ i2 → s.heap.get? c = some o → h'.get? c = some o) → (∃ o, h'.get? e = some o ∧ o.cls = .type "StopIteration") → E (.ref e) { s with heap := h' }) :
    wpAny (model prog w) A (Builtin.«zip.__next__» ⟨[.ref z], []⟩) Q E s := by
  show wpAny _ _ (field (.ref z) 2 >>= fun _ => _) _ _ _
  refine wpAny_bind (wpAny_field gz rfl (x := .bool false) rfl ?_)
  show wpAny _ _ (field (.ref z) 3 >>= fun _ => _) _ _ _
  refine wpAny_bind (wpAny_field gz rfl (x := .ref TI) rfl (wpAny_bind (wpAny_seqItems gI rfl ?_)))
  show wpAny _ _ (Builtin.SmallTypes.ownedTupleIsFree (.ref z) >>= fun _ => _) _ _ _
  refine wpAny_bind ?_
  unfold Builtin.SmallTypes.ownedTupleIsFree
  refine wpAny_bind (wpAny_field gz rfl (x := .none) rfl (wpAny_pure ?_))
  simp only [if_true]
  refine wpAny_bind (wpAny_rule (wpAny_bind (wpAny_field gz rfl (x := .ref TO) rfl (wpAny_bind (wpAny_setField_rec gz (by simp) fun ha z1 m1 => ?_)))))
  replace z1 : IsZip ha z TI TO .ellipsis := z1
  refine wpAny_bind ?_
  simp only [List.zipIdx_nil, List.zipIdx_cons, List.forIn_nil, List.forIn_cons]
  refine wpAny_bind (wpAny_bind (wpAny_onRaise ?_))
  show wpAny _ _ (Builtin.SmallTypes.nextOf (.ref i1) >>= fun _ => _) _ _ _
  have stop : ∀ {h' : Heap} {e : Addr}, IsZip h' z TI TO .ellipsis → (∃ o, h'.get? e = some o ∧ o.cls = .type "StopIteration") → e ≠ z := fun {h' e} hz ⟨o, ho, hc⟩ n => by
    subst n; rw [hz] at ho; cases ho; simp at hc
  rcases hx : xs[k1]? with _ | x
  · refine wpAny_bind (end_lst hh (g1.ext m1.extBut D.i1z D.l1z) hx fun hb e m2 he => ?_)
    have z2 : IsZip hb z TI TO .ellipsis := m2 _ _ D.i1z.symm z1
    have nz := stop z2 he
    obtain ⟨oe, p1, p2⟩ := he
    exact wpAny_setField_rec z2 (by simp) fun hc _ m3 => q hc e (fun c o c1 _ c3 _ x => m3.extBut _ _ c1 (m2 _ _ c3 (m1.extBut _ _ c1 x))) ⟨oe, m3.extBut _ _ nz p1, p2⟩
  · have hy : ys[k2]? = none := by
      rcases hend with h | h
      · rw [hx] at h; cases h
      · exact h
    refine wpAny_bind (next_lst (g1.ext m1.extBut D.i1z D.l1z) D.l1i1 hx fun hb r1 m2 => wpAny_pure ?_)
    have o2 : IsPair hb TO a b := m2.extBut _ _ D.TOi1 (m1.extBut _ _ D.TOz gO)
    refine wpAny_bind (wpAny_seqItems o2 rfl (wpAny_bind (wpAny_updateSeq_pair o2 fun hc o3 m3 => wpAny_bind (wpAny_letGo (wpAny_pure ?_)))))
    refine wpAny_bind (wpAny_bind (wpAny_onRaise ?_))
    show wpAny _ _ (Builtin.SmallTypes.nextOf (.ref i2) >>= fun _ => _) _ _ _
    refine wpAny_bind (end_tup hh (((g2.ext m1.extBut D.i2z D.l2z).ext m2.extBut D.i12.symm D.l2i1).ext m3.extBut D.TOi2.symm D.l2TO) hy fun hd e m4 he => ?_)
    have z4 : IsZip hd z TI TO .ellipsis := m4 _ _ D.i2z.symm (m3.extBut _ _ D.TOz.symm (m2.extBut _ _ D.i1z.symm z1))
    have nz := stop z4 he
    obtain ⟨oe, p1, p2⟩ := he
    exact wpAny_setField_rec z4 (by simp) fun hg _ m5 => q hg e (fun c o c1 c2 c3 c4 x => m5.extBut _ _ c1 (m4 _ _ c4 (m3.extBut _ _ c2 (m2.extBut _ _ c3 (m1.extBut _ _ c1 x))))) ⟨oe, m5.extBut _ _ nz p1, p2⟩
theorem nextM_item {x y : Value} {Q : Option Value → Shared → Prop} (D : ZipApart z TI TO i1 i2 t1 t2) (gz : IsZip s.heap z TI TO .none) (gI : IsPair s.heap TI (.ref i1) (.ref i2)) (gO : IsPair s.heap TO a b)
    (g1 : LSt i1 t1 xs k1 s.heap) (g2 : TSt i2 t2 ys k2 s.heap) (hx : xs[k1]? = some x) (hy : ys[k2]? = some y)
    (q : ∀ h', IsZip h' z TI TO (rawInt s.heap.objs.size) → IsPair h' TO x y → LSt i1 t1 xs (k1 + 1) h' → TSt i2 t2 ys (k2 + 1) h' → IsPair h' s.heap.objs.size x y → h'.objs.size = s.heap.objs.size + 1 →
      (∀ c o, c ≠ z → c ≠ TO → c ≠ i1 → c ≠ i2 → s.heap.get? c = some o → h'.get? c = some o) → Q (some (.ref s.heap.objs.size)) { s with heap := h' }) : wpAny (model prog w) A (pyNext (.ref z)) Q E s := by
  have ty : s.TypeIs (.ref z) "zip" := ⟨_, gz, rfl⟩
  unfold pyNext
  exact wpAny_bind (wpAny_attempt (wpAny_callSpecial?_slot (name := Str.ofString "__next__") ty PySem.F.slot_zip_next (wpAny_call_entry PySem.F.slot_zip_next ty PySem.F.entry_zip_next
    (zipM_item D gz gI gO g1 g2 hx hy fun h' a1 a2 a3 a4 a5 a6 a7 => wpAny_pure (q h' a1 a2 a3 a4 a5 a6 a7)) (PySem.F.args_zip_next_1 _))))
theorem nextM_end {Q : Option Value → Shared → Prop} (hh : A.handled = none) (D : ZipApart z TI TO i1 i2 t1 t2) (gz : IsZip s.heap z TI TO .none) (gI : IsPair s.heap TI (.ref i1) (.ref i2)) (gO : IsPair s.heap TO a b)
    (g1 : LSt i1 t1 xs k1 s.heap) (g2 : TSt i2 t2 ys k2 s.heap) (hend : xs[k1]? = none ∨ ys[k2]? = none)
    (q : ∀ h', (∀ c o, c ≠ z → c ≠ TO → c ≠ i1 → c ≠ i2 → s.heap.get? c = some o → h'.get? c = some o) → Q none { s with heap := h' }) : wpAny (model prog w) A (pyNext (.ref z)) Q E s := by
  have ty : s.TypeIs (.ref z) "zip" := ⟨_, gz, rfl⟩
  unfold pyNext
  refine wpAny_bind (wpAny_attempt (wpAny_callSpecial?_slot (name := Str.ofString "__next__") ty PySem.F.slot_zip_next (wpAny_call_entry PySem.F.slot_zip_next ty PySem.F.entry_zip_next
    (zipM_end hh D gz gI gO g1 g2 hend fun h' e kk he => ?_) (PySem.F.args_zip_next_1 _))))
  obtain ⟨o, ho, hc⟩ := he
  exact wpAny_bind (wpAny_isInstance (T := "StopIteration") (b := true) ⟨o, ho, hc⟩ isSubtype_stop (wpAny_pure (q _ kk)))
abbrev mz1 (h : Heap) (t1 : Addr) : Heap := h.push { cls := .type "list_iterator", data := .fields #[.ref t1, .int 0 0] }
abbrev mz2 (h : Heap) (t1 t2 : Addr) : Heap := (mz1 h t1).push { cls := .type "tuple_iterator", data := .fields #[.ref t2, .int 0 0] }
abbrev mz3 (h : Heap) (t1 t2 : Addr) : Heap := (mz2 h t1 t2).push { cls := .type "tuple", data := .seq #[.ref h.objs.size, .ref (mz1 h t1).objs.size] }
abbrev mz4 (h : Heap) (t1 t2 : Addr) : Heap := (mz3 h t1 t2).push { cls := .type "tuple", data := .seq #[.none, .none] }
abbrev mz5 (h : Heap) (t1 t2 : Addr) : Heap := (mz4 h t1 t2).push { cls := .type "zip", data := .fields #[.none, .bool false, .bool false, .ref (mz2 h t1 t2).objs.size, .ref (mz3 h t1 t2).objs.size] }
theorem meets_zipM (t1 t2 : Addr) (xs ys : Array Value) : Meets (Builtin.«zip.__new__» ⟨[.type "zip", .ref t1, .ref t2], []⟩) (fun _ R s => s.heap.IsList t1 xs ∧ s.heap.IsTuple t2 ys ∧
      R (.ok (.ret (.ref (mz4 s.heap t1 t2).objs.size))) { s with heap := mz5 s.heap t1 t2 }) :=
  .of_wp fun prog w A R s q => by
    obtain ⟨hp, g, d, tk, os⟩ := s
    obtain ⟨e1, e2, q⟩ := q
    have hsub := sub_zip
    have f1 : Heap.IsList (Shared.heap ⟨hp, g, d, tk, os⟩) t1 xs := e1
    have f2 : Heap.IsTuple (Shared.heap ⟨hp.push { cls := .type "list_iterator", data := .fields #[.ref t1, .int 0 0] }, g, d, tk, os⟩) t2 ys := Heap.IsTuple.push e2 _
    wp_walk using wpAny_pyIter_list f1, wpAny_pyIter_tuple f2
    exact ⟨_, rfl, q⟩
theorem call_zipM {Q : Value → Shared → Prop} (e1 : s.heap.IsList t1 xs) (e2 : s.heap.IsTuple t2 ys)
    (q : ∀ h', IsZip h' (s.heap.objs.size + 4) (s.heap.objs.size + 2) (s.heap.objs.size + 3) .none → IsPair h' (s.heap.objs.size + 2) (.ref s.heap.objs.size) (.ref (s.heap.objs.size + 1)) →
      IsPair h' (s.heap.objs.size + 3) .none .none → LSt s.heap.objs.size t1 xs 0 h' → TSt (s.heap.objs.size + 1) t2 ys 0 h' →
      (∀ c o, s.heap.get? c = some o → h'.get? c = some o) → Q (.ref (s.heap.objs.size + 4)) { s with heap := h' }) : wpAny (model prog w) A (call (.type "zip") [.ref t1, .ref t2]) Q E s := by
  refine callType_new PySem.F.called_zip (by decide) (PySem.F.typeCall_zip_2 _ _) (PySem.F.newCall_zip_2 _ _) (fun obj => PySem.F.args_object_init_3 obj _ _) PySem.F.entry_zip_new (meets_zipM t1 t2 xs ys) ⟨e1, e2, ?_⟩
  have z1 : (mz1 s.heap t1).objs.size = s.heap.objs.size + 1 := Heap.size_push ..
  have z2 : (mz2 s.heap t1 t2).objs.size = s.heap.objs.size + 2 := by rw [Heap.size_push, z1]
  have z3 : (mz3 s.heap t1 t2).objs.size = s.heap.objs.size + 3 := by rw [Heap.size_push, z2]
  have z4 : (mz4 s.heap t1 t2).objs.size = s.heap.objs.size + 4 := by rw [Heap.size_push, z3]
  have p : ∀ {h : Heap} {o : Obj} {c : Addr} {u : Obj}, h.get? c = some u → (h.push o).get? c = some u := fun e => Heap.get?_push_of_some _ e
  have kk : ∀ c o, s.heap.get? c = some o → (mz5 s.heap t1 t2).get? c = some o := fun c o e => p (p (p (p (p e))))
  have g5 : (mz5 s.heap t1 t2).get? (mz4 s.heap t1 t2).objs.size = some _ := Heap.get?_push_size _ rfl
  have g4 : (mz5 s.heap t1 t2).get? (mz3 s.heap t1 t2).objs.size = some _ := p (Heap.get?_push_size _ rfl)
  have g3 : (mz5 s.heap t1 t2).get? (mz2 s.heap t1 t2).objs.size = some _ := p (p (Heap.get?_push_size _ rfl))
  have g2 : (mz5 s.heap t1 t2).get? (mz1 s.heap t1).objs.size = some _ := p (p (p (Heap.get?_push_size _ rfl)))
  have g1 : (mz5 s.heap t1 t2).get? s.heap.objs.size = some _ := p (p (p (p (Heap.get?_push_size _ rfl))))
  show _ ∧ _
  rw [z2, z3, z4] at g5
  rw [z1, z2] at g3
  rw [z3] at g4
  rw [z1] at g2
  rw [z4]
  have tt : ∀ {t zs}, s.heap.IsTuple t zs → (mz5 s.heap t1 t2).IsTuple t zs := fun ⟨o, e, r⟩ => ⟨o, kk _ _ e, r⟩
  have tl : ∀ {t zs}, s.heap.IsList t zs → (mz5 s.heap t1 t2).IsList t zs := fun ⟨o, e, r⟩ => ⟨o, kk _ _ e, r⟩
  exact ⟨⟨_, g5, rfl⟩, q _ g5 g3 g4 ⟨⟨_, g1, rfl, rfl⟩, tl e1⟩ ⟨⟨_, g2, rfl, rfl⟩, tt e2⟩ kk⟩
end
def Itm (K : PySem.W.Frag) (a b : Addr) : It :=
  ⟨fun i H => ∃ xs ys x y, SqL K H a xs ∧ SqT K H b ys ∧ xs[i]? = some x ∧ ys[i]? = some y,
   fun i H v H' => ∃ t x y, H t = none ∧ v = .ref t ∧ H' = upd H t (.tup [x, y]) ∧ (∀ xs, SqL K H a xs → xs[i]? = some x) ∧ ∀ ys, SqT K H b ys → ys[i]? = some y,
   fun i H => ∃ xs ys, SqL K H a xs ∧ SqT K H b ys ∧ (xs.length ≤ i ∨ ys.length ≤ i)⟩
def MZ (z TI TO i1 i2 l1 l2 : Addr) (i : Nat) (h : Heap) : Prop :=
  IsZip h z TI TO .none ∧ IsPair h TI (.ref i1) (.ref i2) ∧ (∃ a b, IsPair h TO a b) ∧ h.IsListIter i1 l1 i ∧ h.IsTupleIter i2 l2 i
theorem mz_ne {z TI TO i1 i2 l1 l2 : Addr} {i : Nat} {h : Heap} {xs : Array Value} (st : MZ z TI TO i1 i2 l1 l2 i h) (h1 : h.IsList l1 xs) : ∀ c ∈ [z, TI, TO, i1, i2], l1 ≠ c := by
  obtain ⟨s1, s2, ⟨a, b, s3⟩, ⟨o4, s4, c4, _⟩, ⟨o5, s5, c5, _⟩⟩ := st
  have n4 : o4.cls ≠ .type "list" := by rw [c4]; decide
  have n5 : o5.cls ≠ .type "list" := by rw [c5]; decide
  have nz : Value.type "zip" ≠ Value.type "list" := by decide
  have nt : Value.type "tuple" ≠ Value.type "list" := by decide
  intro c hc
  simp only [List.mem_cons, List.mem_nil_iff, or_false] at hc
  rcases hc with rfl | rfl | rfl | rfl | rfl
  · exact list_ne h1 s1 nz
  · exact list_ne h1 s2 nt
  · exact list_ne h1 s3 nt
  · exact list_ne h1 s4 n4
  · exact list_ne h1 s5 n5
theorem turn_zipM {P : Program} {w : World} {K : PySem.W.Frag} {elts : List Expr} {k : Nat} {pos : Pos} {z TI TO i1 i2 l1 l2 : Addr} (D : ZApart z TI TO i1 i2) : Turn P w K (.Tuple elts k pos) (Itm K l1 l2) [z, TI, TO, i1, i2] z (MZ z TI TO i1 i2 l1 l2) where
  mem := by simp
  obj := fun i h st b hb => by
    obtain ⟨s1, s2, ⟨_, _, s3⟩, ⟨o4, s4, c4, d4⟩, ⟨o5, s5, c5, d5⟩⟩ := st
    simp only [List.mem_cons, List.mem_nil_iff, or_false] at hb
    rcases hb with rfl | rfl | rfl | rfl | rfl
    · exact ⟨_, s1, fun v e => by cases e⟩
    · exact ⟨_, s2, fun v e => by cases e⟩
    · exact ⟨_, s3, fun v e => by cases e⟩
    · exact ⟨_, s4, fun v e => by rw [d4] at e; cases e⟩
    · exact ⟨_, s5, fun v e => by rw [d5] at e; cases e⟩
  keep := fun i h h' st kk => by
    obtain ⟨s1, s2, ⟨a, b, s3⟩, s4, s5⟩ := st
    exact ⟨kk z (by simp) _ s1, kk TI (by simp) _ s2, ⟨a, b, kk TO (by simp) _ s3⟩, s4.at fun o e => kk i1 (by simp) o e, s5.at fun o e => kk i2 (by simp) o e⟩
  item := by
    intro X hP hw hK hc i pins s σ H E I hf st hg
    subst hP hw hK
    obtain ⟨xs, ys, x, y, q1, q2, hx, hy⟩ := hg
    obtain ⟨is1, rv1, p1, _⟩ := I.list q1
    obtain ⟨is2, rv2, p2, _⟩ := I.tuple q2
    obtain ⟨u1, hu1, ru1⟩ := rv1.get hx
    obtain ⟨u2, hu2, ru2⟩ := rv2.get hy
    have n1 : ∀ c ∈ [z, TI, TO, i1, i2], _ ≠ c := fun c hc' => mz_ne st p1.isList c hc'
    have n2 : ∀ c ∈ [z, TI, TO, i1, i2], l2 ≠ c := fun c hc' => SqT.apart I (hf c hc') q2
    have D' : ZipApart z TI TO i1 i2 l1 l2 := ⟨D.TIz, D.TOz, D.i1z, D.i2z, D.TITO, D.TIi1, D.TIi2, D.TOi1, D.TOi2, D.i12, n1 _ (by simp), n1 _ (by simp), n1 _ (by simp), n1 _ (by simp), n2 _ (by simp), n2 _ (by simp), n2 _ (by simp), n2 _ (by simp)⟩
    obtain ⟨s1, s2, ⟨a, b, s3⟩, s4, s5⟩ := st
    have e1 : s.heap.IsList l1 is1.toArray := p1.isList
    have e2 : s.heap.IsTuple l2 is2.toArray := p2
    refine nextM_item D' s1 s2 s3 ⟨s4, e1⟩ ⟨s5, e2⟩ (x := u1) (y := u2) (by simpa using hu1) (by simpa using hu2) fun h' a1 a2 a3 a4 a5 a6 kk => ?_
    refine ⟨_, rfl, wpAny_letOwnedTupleGo_zip a1 fun h'' hz' hs' => ?_⟩
    have lt : ∀ {c o}, s.heap.get? c = some o → s.heap.objs.size ≠ c := fun e => Nat.ne_of_gt (Heap.lt_size e)
    have zne : s.heap.objs.size ≠ z := lt s1
    have keep2 : ∀ b o, b ∉ [z, TI, TO, i1, i2] → s.heap.get? b = some o → h''.get? b = some o := fun b o hb e => by
      simp only [List.mem_cons, List.mem_nil_iff, or_false, not_or] at hb
      exact hs'.extBut _ _ hb.1 (kk b o hb.1 hb.2.2.1 hb.2.2.2.1 hb.2.2.2.2 e)
    have hsz : H s.heap.objs.size = none := I.hok.fresh (Nat.le_refl _)
    have tupN : IsPair h'' s.heap.objs.size u1 u2 := hs'.extBut _ _ zne a5
    have nlt : ∀ c ∈ [z, TI, TO, i1, i2], c ≠ s.heap.objs.size := fun c hc' => by
      obtain ⟨o4, e4, _⟩ := id s4
      obtain ⟨o5, e5, _⟩ := id s5
      simp only [List.mem_cons, List.mem_nil_iff, or_false] at hc'
      rcases hc' with rfl | rfl | rfl | rfl | rfl
      · exact (lt s1).symm
      · exact (lt s2).symm
      · exact (lt s3).symm
      · exact (lt e4).symm
      · exact (lt e5).symm
    refine ⟨.ref s.heap.objs.size, upd H s.heap.objs.size (.tup [x, y]), I.turnedLaid (t' := s.toks) keep2 hf (Nat.le_refl _) ⟨smallL (by show 2 ≤ 1000000; decide), [u1, u2], .cons ru1 (.cons ru2 .nil), ⟨_, tupN, rfl, rfl, 0, rfl⟩⟩, rfl, ⟨_, x, y, hsz, rfl, rfl, fun xs' q' => ?_, fun ys' q' => ?_⟩,
      ⟨hz', hs'.extBut _ _ D.TIz (kk _ _ D.TIz D.TITO D.TIi1 D.TIi2 s2), ⟨_, _, hs'.extBut _ _ D.TOz a2⟩, a3.1.extBut hs'.extBut D.i1z, a4.1.extBut hs'.extBut D.i2z⟩, fun c hc' => ?_⟩
    · rw [I.list_inj q' q1]; exact hx
    · rw [I.tuple_inj q' q2]; exact hy
    · rw [upd_ne (nlt c hc')]; exact (hf c hc').1
  done := by
    intro X hP hw hK hc i pins s σ H E I hf st hg
    subst hP hw hK
    obtain ⟨xs, ys, q1, q2, hlen⟩ := hg
    obtain ⟨is1, rv1, p1, _⟩ := I.list q1
    obtain ⟨is2, rv2, p2, _⟩ := I.tuple q2
    have l1 := rv1.length
    have l2 := rv2.length
    have n1 : ∀ c ∈ [z, TI, TO, i1, i2], _ ≠ c := fun c hc' => mz_ne st p1.isList c hc'
    have n2 : ∀ c ∈ [z, TI, TO, i1, i2], _ ≠ c := fun c hc' => SqT.apart I (hf c hc') q2
    have D' : ZipApart z TI TO i1 i2 _ _ := ⟨D.TIz, D.TOz, D.i1z, D.i2z, D.TITO, D.TIi1, D.TIi2, D.TOi1, D.TOi2, D.i12, n1 _ (by simp), n1 _ (by simp), n1 _ (by simp), n1 _ (by simp), n2 _ (by simp), n2 _ (by simp), n2 _ (by simp), n2 _ (by simp)⟩
    obtain ⟨s1, s2, ⟨a, b, s3⟩, s4, s5⟩ := st
    have e1 : s.heap.IsList _ is1.toArray := p1.isList
    have e2 : s.heap.IsTuple _ is2.toArray := p2
    refine nextM_end (I.ok.hd hc) D' s1 s2 s3 ⟨s4, e1⟩ ⟨s5, e2⟩ ?_ fun h' kk => ⟨rfl, I.turnedL (t' := s.toks) (fun b o hb e => ?_) hf⟩
    · rcases hlen with z | z
      · exact .inl (by simp; omega)
      · exact .inr (by simp; omega)
    · simp only [List.mem_cons, List.mem_nil_iff, or_false, not_or] at hb
      exact kk b o hb.1 hb.2.2.1 hb.2.2.2.1 hb.2.2.2.2 e
  self := fun A i s Q E st h => wpAny_pyIter_zip st.1 h
def iZipM (K : PySem.W.Frag) (ta : TA) : TI := fun σ H R => ta σ H fun vs H1 => ∃ a b : Addr, vs = [.ref a, .ref b] ∧ (∃ xs, SqL K H1 a xs) ∧ (∃ ys, SqT K H1 b ys) ∧ R (Itm K a b) H1
theorem iZipM_at (K : PySem.W.Frag) (ta : TA) {σ : St} {H : Hp} {R : It → Hp → Prop} : iZipM K ta σ H R = ta σ H fun vs H1 => ∃ a b : Addr, vs = [.ref a, .ref b] ∧ (∃ xs, SqL K H1 a xs) ∧ (∃ ys, SqT K H1 b ys) ∧ R (Itm K a b) H1 := rfl
theorem pi_zipM (K : PySem.W.Frag) {X : Cx} {elts : List Expr} {k : Nat} {tpos : Pos} {a b : Expr} {ta : TA} {p pos : Pos} (hg : Gl X "zip") (hm : X.mg "zip" = none) (ha : PA X [a, b] ta) (hs : starEach [a, b] X.env = [(false, eval a X.env), (false, eval b X.env)] := by rfl) (hs2 : starEach [b] X.env = [(false, eval b X.env)] := by rfl) (hK : X.K = K := by rfl) :
    PI X (.Tuple elts k tpos) (.Call (.Name "zip" p) [a, b] [] pos) (iZipM K ta) := by
  subst hK
  intro pins s σ H R I h
  refine Call_ (ld_blt I hg hm boot_zip (PyProof.Rows.callWith_type1 (thn (ha pos pins s σ H _ I h) fun us s1 ⟨vs, H1, I1, r1, q1⟩ => ?_) (by rw [hs, hs2]) (by rw [hs2]; rfl)))
  obtain ⟨l1, l2, e, ⟨xs, h1⟩, ⟨ys, h2⟩, q⟩ := q1
  subst e
  obtain ⟨u1, u2, rfl, r1, r2⟩ := vals2 r1
  cases r1
  cases r2
  obtain ⟨is1, _, p1, _⟩ := I1.list h1
  obtain ⟨is2, _, p2, _⟩ := I1.tuple h2
  refine call_zipM (show s1.heap.IsList l1 is1.toArray from p1.isList) (show s1.heap.IsTuple l2 is2.toArray from p2) fun h' a1 a2 a3 a4 a5 kk => ?_
  refine wpAny_pyIter_zip a1 ⟨_, [s1.heap.objs.size + 4, s1.heap.objs.size + 2, s1.heap.objs.size + 3, s1.heap.objs.size, s1.heap.objs.size + 1], _, _, H1, rfl, I1.kept (t' := s1.toks) kk,
    turn_zipM (z := s1.heap.objs.size + 4) (TI := s1.heap.objs.size + 2) (TO := s1.heap.objs.size + 3) (i1 := s1.heap.objs.size) (i2 := s1.heap.objs.size + 1) (zap _), ⟨a1, a2, ⟨_, _, a3⟩, a4.1, a5.1⟩, fun b hb => ?_, q⟩
  have hb' : s1.heap.objs.size ≤ b := by
    simp only [List.mem_cons, List.mem_nil_iff, or_false] at hb
    rcases hb with rfl | rfl | rfl | rfl | rfl <;> first | exact Nat.le_refl _ | exact Nat.le_add_right _ _
  exact I1.fpOk hb' (I1.hok.fresh hb')
section
variable {K : PySem.W.Frag} {a b : Addr} {xs ys : List V} {g : TG} {te : TE} {nT : Nat} {σ : St} {D : Addr} {Q : VK} {H : Hp}
theorem compW_zipM (Pv : Nat → List V → Hp → Prop) (hn : xs.length = ys.length) (h0 : Pv 0 [] H) (hl : ∀ i zs H, i ≤ xs.length → Pv i zs H → SqL K H a xs ∧ SqT K H b ys)
    (hs : ∀ i zs H x y t, xs[i]? = some x → ys[i]? = some y → i < xs.length → Pv i zs H → H t = none → g (.ref t) (σ ++ List.replicate nT none) (upd H t (.tup [x, y])) (compK xs.length i Pv D zs te))
    (hd : ∀ zs H, Pv xs.length zs H → Q (.ref D) H) : compW (Itm K a b) g tYes te nT σ D Q H := by
  refine compW_by xs.length Pv h0 (fun i zs H hi p => ⟨xs, ys, xs[i], ys[i], (hl i zs H (Nat.le_of_lt hi) p).1, (hl i zs H (Nat.le_of_lt hi) p).2, by simp [hi], by simp [hn ▸ hi]⟩) (fun zs H p => ⟨xs, ys, (hl _ zs H (Nat.le_refl _) p).1, (hl _ zs H (Nat.le_refl _) p).2, .inl (Nat.le_refl _)⟩) (fun i zs H v H' hi p yl => ?_) hd
  obtain ⟨t, x, y, ht, rfl, rfl, y1, y2⟩ := yl
  exact hs i zs H x y t (y1 xs (hl i zs H (Nat.le_of_lt hi) p).1) (y2 ys (hl i zs H (Nat.le_of_lt hi) p).2) hi p ht
end
end L2

set_option Elab.async false
set_option linter.all false
set_option maxRecDepth 100000
set_option maxHeartbeats 4000000
/-! where an int or None stands in a list -/
namespace L2
open PySem PySem.Spec PyProof PyProof.Rows PySem.SeqAt
theorem idx_neG {α : Type} [BEq α] [LawfulBEq α] {y : α} : ∀ {l : List α} {j : Nat}, j < l.idxOf y → ∀ (h : j < l.length), l[j] ≠ y
  | n :: r, 0, h, _ => by
    intro e
    have e' : n = y := e
    subst e'
    simp at h
  | n :: r, j + 1, h, h2 => by
    rw [List.idxOf_cons] at h
    cases hb : n == y with
    | true => rw [hb] at h; exact absurd h (Nat.not_lt_zero _)
    | false =>
      rw [hb] at h
      have h' : j + 1 < r.idxOf y + 1 := h
      have q := idx_neG (y := y) (l := r) (j := j) (by omega) (by simpa using h2)
      simpa using q
section
variable {X : Cx}
def rIndexO (K : PySem.W.Frag) : V → List V → Hp → VK → Prop := fun x vs H Q => ∃ (p : Addr) (ss : List (Option Int)) (y : Option Int), x = .ref p ∧ vs = [optV y] ∧ SqL K H p (ss.map optV) ∧ y ∈ ss ∧ Q (.int (ss.idxOf y : Nat)) H
theorem mt_indexO (K : PySem.W.Frag) (hK : X.K = K := by rfl) : MtR X "list.index" (rIndexO K) := by
  subst hK
  intro pins s σ H x xs v us Q I rx r h
  obtain ⟨p, ss, y, rfl, rfl, hq, hy, q⟩ := h
  cases rx
  obtain ⟨u, rfl, ru⟩ := vals1 r
  obtain ⟨its, rv, pl, hz⟩ := I.list hq
  have hlen : its.length = ss.length := by rw [← rv.length, List.length_map]
  rw [List.length_map] at hz
  have hs : sizeLine = 16777216 := sizeLine_eq
  obtain ⟨⟨cls, dd, data, sl⟩, ho, hc, n, hd⟩ := pl.isList
  simp only at hc hd
  subst hc hd
  have hj : ss.idxOf y < ss.length := List.idxOf_lt_length_iff.mpr hy
  have rel : ∀ (i : Nat) (h : i < its.length), RelV (optV (ss[i]'(by omega))) its[i] := fun i h => by
    obtain ⟨x, hx, rx⟩ := rv.of (i := i) (u := its[i]) (List.getElem?_eq_getElem h)
    rw [List.getElem?_map, List.getElem?_eq_getElem (by omega)] at hx
    have hx' : optV (ss[i]'(by omega)) = x := Option.some.inj hx
    subst hx'
    exact rx
  have eqq : ∀ (i : Nat) (h : i < its.length), eqU (optV y) its[i] = decide (ss[i]'(by omega) = y) := fun i h => by
    rw [eqU_of (rel i h) (optV_flat _), optV_eq]
  refine call_meets PySem.F.slot_list_index ⟨_, ho, rfl⟩ PySem.F.entry_list_index (PySem.F.args_list_index_2 _ _)
    (list_indexAt p its.toArray n dd sl u (eqU (optV y)) (ss.idxOf y) (by simpa [hlen] using hj) (by omega) ?_ ?_) ⟨ho, fun z hz => ?_, ⟨.int _, H, I.tok _, ⟨_, rfl⟩, q⟩⟩
  · show eqU (optV y) its[ss.idxOf y] = true
    rw [eqq _ (by omega), List.getElem_idxOf hj]; simp
  · intro j hjs hlt
    have hj' : j < its.length := by simpa using hjs
    show eqU (optV y) its[j] = false
    rw [eqq j hj']
    exact decide_eq_false (idx_neG hlt _)
  · have hz' : z ∈ its := by simpa using hz
    obtain ⟨i, hi, rfl⟩ := List.mem_iff_getElem.mp hz'
    rw [eqU_of (rel i hi) (optV_flat _)]
    exact eqAt_V (A := X.A.in1) (s := s) (rel i hi) ru (optV_flat _) (optV_flat _)
end
theorem forIn_find {M : Model} {A : Around} {E : Value → Shared → Prop} {s s' : Shared} {β : Type} (f : Nat → β → Sem (ForInStep β)) (b b' : β) (j : Nat) (hno : ∀ m, m < j → ∀ R : ForInStep β → Shared → Prop, R (.yield b) s → wpAny M A (f m b) R E s) (hit : ∀ R : ForInStep β → Shared → Prop, R (.done b') s' → wpAny M A (f j b) R E s) {Q : β → Shared → Prop} (q : Q b' s') :
    ∀ (n i : Nat), i ≤ j → j < i + n → wpAny M A (forIn (List.range' i n) b f) Q E s
  | 0, i, h1, h2 => by omega
  | n + 1, i, h1, h2 => by
    rw [List.range'_succ, List.forIn_cons]
    refine wpAny_bind ?_
    rcases Nat.lt_or_ge i j with h | h
    · exact hno i h _ (forIn_find f b b' j hno hit q n (i + 1) h (by omega))
    · have e : i = j := by omega
      subst e
      exact hit _ (wpAny_pure q)
theorem tuple_indexAt (t : Addr) (items : Array Value) (x : Value) (e : Value → Bool) (j : Nat) (hj : j < items.size)
    (hit : e items[j] = true) (hno : ∀ m (hm : m < items.size), m < j → e items[m] = false) :
    Meets (Builtin.«tuple.index» ⟨[.ref t, x], []⟩)
      (fun A R s => IsTup s.heap t items ∧ (∀ y, y ∈ items → EqAt A.in1 s y x (e y)) ∧ R (.ok (.ret (.int j s.toks))) { s with toks := s.toks + 1 }) := by
  intro prog w A R s h
  obtain ⟨ht, he, h⟩ := h
  show wpAny _ _ (Builtin.Tuple.tupleItemsOf (.ref t) >>= fun _ => _) _ _ s
  refine wpAny_bind (tupleItemsOf_ ht ?_)
  simp only [pure_bind]
  rw [Nat.min_self, Std.Legacy.Range.forIn_eq_forIn_range']
  refine wpAny_bind (forIn_find _ (none, ()) (some (.done (.ret (.int j s.toks))), ()) j (s' := { s with toks := s.toks + 1 }) (fun m hm R' hR => ?_) (fun R' hR => ?_) ?_ _ 0 (Nat.zero_le _) ?_)
  · have hm' : m < items.size := by omega
    rw [Array.getElem?_eq_getElem hm']
    refine wpAny_bind (he _ (Array.getElem_mem hm') prog w _ _ ?_)
    rw [hno m hm' hm]
    exact wpAny_pure hR
  · rw [Array.getElem?_eq_getElem hj]
    refine wpAny_bind (he _ (Array.getElem_mem hj) prog w _ _ ?_)
    rw [hit]
    refine wpAny_bind ?_
    show wpAny _ _ (mkInt (j : Int) >>= fun v => ret v) _ _ _
    exact wpAny_bind (wpAny_mkInt (wpAny_pure (wpAny_pure hR)))
  · exact wpAny_pure h
  · simp [Std.Legacy.Range.size]; exact hj
section
variable {X : Cx}
def rIndexOT (K : PySem.W.Frag) : V → List V → Hp → VK → Prop := fun x vs H Q => ∃ (p : Addr) (ss : List (Option Int)) (y : Option Int), x = .ref p ∧ vs = [optV y] ∧ SqT K H p (ss.map optV) ∧ y ∈ ss ∧ Q (.int (ss.idxOf y : Nat)) H
theorem mt_indexOT (K : PySem.W.Frag) (hK : X.K = K := by rfl) : MtR X "tuple.index" (rIndexOT K) := by
  subst hK
  intro pins s σ H x xs v us Q I rx r h
  obtain ⟨p, ss, y, rfl, rfl, hq, hy, q⟩ := h
  cases rx
  obtain ⟨u, rfl, ru⟩ := vals1 r
  obtain ⟨its, rv, pl, hz⟩ := I.tuple hq
  have hlen : its.length = ss.length := by rw [← rv.length, List.length_map]
  have hj : ss.idxOf y < ss.length := List.idxOf_lt_length_iff.mpr hy
  have rel : ∀ (i : Nat) (h : i < its.length), RelV (optV (ss[i]'(by omega))) its[i] := fun i h => by
    obtain ⟨x, hx, rx⟩ := rv.of (i := i) (u := its[i]) (List.getElem?_eq_getElem h)
    rw [List.getElem?_map, List.getElem?_eq_getElem (by omega)] at hx
    have hx' : optV (ss[i]'(by omega)) = x := Option.some.inj hx
    subst hx'
    exact rx
  have eqq : ∀ (i : Nat) (h : i < its.length), eqU (optV y) its[i] = decide (ss[i]'(by omega) = y) := fun i h => by
    rw [eqU_of (rel i h) (optV_flat _), optV_eq]
  have pt : IsTup s.heap p its.toArray := pl
  refine call_meets PySem.F.slot_tuple_index pt.typeIs PySem.F.entry_tuple_index (PySem.F.args_tuple_index_2 _ _)
    (tuple_indexAt p its.toArray u (eqU (optV y)) (ss.idxOf y) (by simpa [hlen] using hj) ?_ ?_) ⟨pt, fun z hz => ?_, ⟨.int _, H, I.tok _, ⟨_, rfl⟩, q⟩⟩
  · show eqU (optV y) its[ss.idxOf y] = true
    rw [eqq _ (by omega), List.getElem_idxOf hj]; simp
  · intro j hjs hlt
    have hj' : j < its.length := by simpa using hjs
    show eqU (optV y) its[j] = false
    rw [eqq j hj']
    exact decide_eq_false (idx_neG hlt _)
  · have hz' : z ∈ its := by simpa using hz
    obtain ⟨i, hi, rfl⟩ := List.mem_iff_getElem.mp hz'
    rw [eqU_of (rel i hi) (optV_flat _)]
    exact eqAt_V (A := X.A.in1) (s := s) (rel i hi) ru (optV_flat _) (optV_flat _)
end
section
variable {X : Cx}
def rInD : R2 := fun x y H Q => ∃ a kvs k, y = .ref a ∧ x = kV k ∧ H a = some (.dK kvs) ∧ Q (.bl (valV kvs k).isSome) H
theorem op_inD {n : Nat} (hr : Room n X.A) : OpR X (compareOp .In) rInD := by
  intro pins s σ H x y v u Q I rx ry h
  obtain ⟨a, kvs, k, rfl, rfl, e, q⟩ := h
  cases ry
  exact d_in (by have := hr.un; omega) I (DGet.k e) rx fun s' I' => ⟨.bl _, H, I', rfl, q⟩
end
end L2

set_option Elab.async false
set_option linter.all false
set_option maxRecDepth 100000
/-! d.setdefault(k, v), the keys ints and texts -/
namespace L2
open PySem PySem.Spec PyProof PyProof.Rows
section
variable {X : Cx}
end
/-! d.setdefault(t, v), the keys tuples -/
section
variable {prog : Program} {w : World} {κ : Type} [DecidableEq κ] {knd : HeapKind prog w κ} {A : Around} {E : Value → Shared → Prop} {s : Shared}
end
section
variable {X : Cx}
end
end L2

set_option Elab.async false
set_option linter.all false
set_option maxRecDepth 100000
/-! what a loop over items froze is thawed behind it -/
namespace L2
open PySem PySem.Spec PyProof PyProof.Rows
section
variable {X : Cx} {pins : List (Addr × Obj)} {σ : List (Option V)} {H : Hp} {s : Shared}
end
/-! ### dicts whose keys are tuples of ints and texts: not in, index, store -/
section
variable {X : Cx}
end

/-! ### tuples of ints, of any lengths, compared -/
open PySem.SeqAt
section
variable {X : Cx}
end
end L2

set_option Elab.async false
set_option linter.all false
set_option maxRecDepth 100000
/-! ### tuples: which of two comes first -/
namespace PySem.SeqAt
open AutoSeq1 (wpAny_loadPart')
open MeetsSeq MeetsSeq2 MeetsSeq3
open SeqRoads2
def LessAt (A : Around) (s : Shared) (y x : Value) (k : Bool) : Prop :=
  ∀ (P : Program) (w : World) (E : Value → Shared → Prop) (Q : Value → Shared → Prop), Q (.bool k) s → wpAny (model P w) A (richCompare .Lt y x) Q E s
/-- the first place where they differ decides, else the lengths -/
def lexW (e l : Nat → Bool) (z : Bool) : List Nat → Bool
  | [] => z
  | i :: r => if e i = true then lexW e l z r else l i
theorem tup_less (p q : Addr) (xs ys : Array Value) (m k : Nat) (d1 d2 : Option Addr) (s1 s2 : Array (Option Value)) (e lt : Nat → Bool) :
    Meets (Builtin.«tuple.__lt__» ⟨[.ref p, .ref q], []⟩)
      (fun A R s => s.heap.get? p = some { cls := .type "tuple", dict := d1, data := .seq xs m, slots := s1 } ∧ s.heap.get? q = some { cls := .type "tuple", dict := d2, data := .seq ys k, slots := s2 } ∧
        (∀ j (h1 : j < xs.size) (h2 : j < ys.size), (∀ i, i < j → e i = true) → EqAt A.in1 s xs[j] ys[j] (e j)) ∧ (∀ j (h1 : j < xs.size) (h2 : j < ys.size), e j = false → LessAt A.in1 s xs[j] ys[j] (lt j)) ∧
        R (.ok (.ret (.bool (lexW e lt (decide (xs.size < ys.size)) (List.range (min xs.size ys.size)))))) s) :=
  .of_wp fun P w A R s h => by
    obtain ⟨hp, g, d, tk, os⟩ := s; obtain ⟨hx, hy, he, hlt, h⟩ := h
    have sub := AutoSeq1.sub_tuple_tuple
    have zl : (xs.toList.zip ys.toList).length = min xs.size ys.size := by simp
    wp_walk using wpAny_loadPart' hx, wpAny_loadPart' hy, wpAny_forIn_list _ (fun left acc st => acc.1 = none ∧ st = ⟨hp, g, d, tk, os⟩ ∧ ∃ i, left = (xs.toList.zip ys.toList).drop i ∧ (∀ j, j < i → e j = true) ∧
      R (.ok (.ret (.bool (lexW e lt (decide (xs.size < ys.size)) ((List.range (min xs.size ys.size)).drop i))))) ⟨hp, g, d, tk, os⟩) _
    case turn =>
      rintro ⟨u, v⟩ left acc st ⟨ha, rfl, i, hz, hpre, hR⟩
      have il : i < (xs.toList.zip ys.toList).length := by
        rcases Nat.lt_or_ge i (xs.toList.zip ys.toList).length with z | z
        · exact z
        · rw [List.drop_of_length_le z] at hz; cases hz
      have im : i < min xs.size ys.size := zl ▸ il
      have i1 : i < xs.size := by omega
      have i2 : i < ys.size := by omega
      rw [List.drop_eq_getElem_cons il] at hz
      injection hz with huv hleft
      have eu : u = xs[i] := by have := congrArg Prod.fst huv; simpa using this
      have ev : v = ys[i] := by have := congrArg Prod.snd huv; simpa using this
      subst eu ev
      have dd : (List.range (min xs.size ys.size)).drop i = i :: (List.range (min xs.size ys.size)).drop (i + 1) := by simp [List.drop_eq_getElem_cons, im]
      rw [dd] at hR
      refine wpAny_bind (he i i1 i2 hpre P w _ _ ?_)
      cases hei : e i with
      | true =>
        have hR' : lexW e lt (decide (xs.size < ys.size)) (i :: (List.range (min xs.size ys.size)).drop (i + 1)) = lexW e lt (decide (xs.size < ys.size)) ((List.range (min xs.size ys.size)).drop (i + 1)) := by
          show (if e i = true then _ else _) = _; rw [hei]; rfl
        rw [hR'] at hR
        wp_walk
        exact ⟨rfl, rfl, i + 1, hleft, fun j hj => by rcases Nat.lt_or_ge j i with z | z; exact hpre j z; exact (Nat.le_antisymm (Nat.le_of_lt_succ hj) z).symm ▸ hei, hR⟩
      | false =>
        have hR' : lexW e lt (decide (xs.size < ys.size)) (i :: (List.range (min xs.size ys.size)).drop (i + 1)) = lt i := by
          show (if e i = true then _ else _) = _; rw [hei]; rfl
        rw [hR'] at hR
        have hri : ∀ (E : Value → Shared → Prop) (Q : Value → Shared → Prop), Q (.bool (lt i)) ⟨hp, g, d, tk, os⟩ → wpAny (model P w) A.in1 (richCompare .Lt xs[i] ys[i]) Q E ⟨hp, g, d, tk, os⟩ := hlt i i1 i2 hei P w
        wp_walk using hri
        exact ⟨_, rfl, hR⟩
    case fin =>
      rintro ⟨b1, b2⟩ st ⟨ha, rfl, i, hz, _, hR⟩
      simp only at ha
      subst ha
      have hover : min xs.size ys.size ≤ i := by
        rcases Nat.lt_or_ge i (xs.toList.zip ys.toList).length with z | z
        · rw [List.drop_eq_getElem_cons z] at hz; cases hz
        · exact zl ▸ z
      rw [List.drop_of_length_le (by simpa using hover)] at hR
      wp_walk
      exact ⟨_, rfl, hR⟩
    case h =>
      exact ⟨rfl, rfl, 0, rfl, fun j hj => absurd hj (Nat.not_lt_zero _), h⟩
section
variable {A : Around} {s : Shared}
theorem LessAt.tuples {p q : Addr} {xs ys : Array Value} {e lt : Nat → Bool} (hx : s.heap.IsTuple p xs) (hy : s.heap.IsTuple q ys) (hu : A.units < cLine) (he : ∀ j (h1 : j < xs.size) (h2 : j < ys.size), (∀ i, i < j → e i = true) → EqAt A.in1 s xs[j] ys[j] (e j))
    (hl : ∀ j (h1 : j < xs.size) (h2 : j < ys.size), e j = false → LessAt A.in1 s xs[j] ys[j] (lt j)) : LessAt A s (.ref p) (.ref q) (lexW e lt (decide (xs.size < ys.size)) (List.range (min xs.size ys.size))) := fun P w E Q h => by
  obtain ⟨⟨c1, d1, a1, s1⟩, o1, hc1, n1, hd1⟩ := id hx
  obtain ⟨⟨c2, d2, a2, s2⟩, o2, hc2, n2, hd2⟩ := id hy
  simp only at hc1 hd1 hc2 hd2
  subst hc1 hd1 hc2 hd2
  exact richCompare_meets_room (op := .Lt) ⟨_, o1, rfl⟩ ⟨_, o2, rfl⟩ F.slot_tuple_lt F.entry_tuple_lt (F.args_tuple_lt_2 _ _) (tup_less p q xs ys n1 n2 d1 d2 s1 s2 e lt) ⟨o1, o2, he, hl, (fun z => nomatch z), h⟩ hu
end
end PySem.SeqAt
namespace L2
open PySem PySem.Spec PyProof PyProof.Rows PySem.SeqAt
/-- x < y, of ints, of texts, of tuples of such, as deep as n -/
def Lt0 (x y : V) (b : Bool) : Prop := (∃ i j, x = .int i ∧ y = .int j ∧ b = decide (i < j)) ∨ ∃ u v : Str, x = .str u ∧ y = .str v ∧ b = decide (u.cps.toList < v.cps.toList)
def LtN (K : PySem.W.Frag) (H : Hp) : Nat → V → V → Bool → Prop
  | 0, x, y, b => Lt0 x y b
  | n + 1, x, y, b => Lt0 x y b ∨ ∃ (a c : Addr) (xs ys : List V) (e l : Nat → Bool), x = .ref a ∧ y = .ref c ∧ SqT K H a xs ∧ SqT K H c ys ∧ (∀ (i : Nat) x y, xs[i]? = some x → ys[i]? = some y → (∀ j, j < i → e j = true) → EqN K H n x y (e i)) ∧
      (∀ (i : Nat) x y, xs[i]? = some x → ys[i]? = some y → e i = false → LtN K H n x y (l i)) ∧ b = lexW e l (decide (xs.length < ys.length)) (List.range (min xs.length ys.length))
section
variable {X : Cx} {pins : List (Addr × Obj)} {σ : St} {H : Hp} {s : Shared}
theorem less_int {A : Around} {i j : Int} {t u : Tok} : LessAt A s (.int i t) (.int j u) (decide (i < j)) := fun P w E Q h => HT.rcLt_int A s i t j u P w E Q h
theorem less_str {A : Around} {x y : Str} {t u : Tok} : LessAt A s (.str x t) (.str y u) (decide (x.cps.toList < y.cps.toList)) := fun P w E Q h => lt_str h
theorem Lt0.at {A : Around} {x y : V} {b : Bool} {u v : Value} (h : Lt0 x y b) (rx : RelV x u) (ry : RelV y v) : LessAt A s u v b := by
  rcases h with ⟨i, j, rfl, rfl, rfl⟩ | ⟨p, q, rfl, rfl, rfl⟩
  · obtain ⟨t, rfl⟩ := rx
    obtain ⟨t', rfl⟩ := ry
    exact less_int
  · obtain ⟨t, rfl⟩ := rx
    obtain ⟨t', rfl⟩ := ry
    exact less_str
theorem LtN.at (I : Inv X pins σ H s) : ∀ {n : Nat} {A : Around} {x y : V} {b : Bool} {u v : Value}, A.units + n < cLine → LtN X.K H n x y b → RelV x u → RelV y v → LessAt A s u v b
  | 0, A, x, y, b, u, v, _, h, rx, ry => Lt0.at h rx ry
  | n + 1, A, x, y, b, u, v, hu, h, rx, ry => by
    rcases h with h | ⟨a, c, xs, ys, e, l, rfl, rfl, q1, q2, he, hl, rfl⟩
    · exact Lt0.at h rx ry
    · cases rx
      cases ry
      obtain ⟨i1, r1, p1, z1⟩ := I.tuple q1
      obtain ⟨i2, r2, p2, z2⟩ := I.tuple q2
      have l1 := r1.length
      have l2 := r2.length
      have hin : A.in1.units + n < cLine := by show A.units + 1 + n < cLine; omega
      have e1 : xs.length = i1.toArray.size := by simp; omega
      have e2 : ys.length = i2.toArray.size := by simp; omega
      rw [e1, e2]
      refine LessAt.tuples (show s.heap.IsTuple a i1.toArray from p1) (show s.heap.IsTuple c i2.toArray from p2) (by omega) (fun j h1 h2 hp => ?_) (fun j h1 h2 hf => ?_)
      · obtain ⟨x, hx, rx⟩ := r1.of (i := j) (u := i1.toArray[j]) (by simp at h1 ⊢)
        obtain ⟨y, hy, ry⟩ := r2.of (i := j) (u := i2.toArray[j]) (by simp at h2 ⊢)
        exact EqN.at I hin (he j x y hx hy hp) rx ry
      · obtain ⟨x, hx, rx⟩ := r1.of (i := j) (u := i1.toArray[j]) (by simp at h1 ⊢)
        obtain ⟨y, hy, ry⟩ := r2.of (i := j) (u := i2.toArray[j]) (by simp at h2 ⊢)
        exact LtN.at I hin (hl j x y hx hy hf) rx ry
end
end L2
/-! ### the least of a list, whatever its items are, compared in the heap as it is -/
namespace PySem
section
variable {M : Program} {w : World} {A : Around} {R : Result → Shared → Prop} {I : Addr} {fp wr : List Addr} {n : Nat} {Pv : Nat → Value → Prop} {St : Nat → Heap → Prop}
end
end PySem
namespace PySem
section
variable {M : Program} {w : World} {A : Around} {E : Value → Shared → Prop} {s : Shared}
end
end PySem
namespace L2
open PySem PySem.Spec PyProof PyProof.Rows PySem.SeqAt
section
variable {X : Cx}
end
end L2

set_option Elab.async false
set_option linter.all false
set_option maxRecDepth 100000
/-! ### a method of a tuple of the heap -/
namespace L2
open PySem PySem.Spec PyProof PyProof.Rows
section
variable {X : Cx}
def tBMT (r : V → List V → Hp → VK → Prop) (to : TE) (t : TA) : TE := fun σ H Q => to σ H fun x H1 => ∃ p xs, x = .ref p ∧ H1 p = some (.tup xs) ∧ t σ H1 fun ys H2 => r x ys H2 Q
theorem tBMT_at {σ : St} {H : Hp} {Q : VK} (r : V → List V → Hp → VK → Prop) (to : TE) (t : TA) : tBMT r to t σ H Q = to σ H fun x H1 => ∃ p xs, x = .ref p ∧ H1 p = some (.tup xs) ∧ t σ H1 fun ys H2 => r x ys H2 Q := rfl
theorem pe_bmT {o e : Expr} {es : List Expr} {to : TE} {t : TA} {name : Str} {apos cpos : Pos} {id : String} {r : V → List V → Hp → VK → Prop} (pa : PlainAttrs "tuple") (slot : Slot "tuple" name id) (hty : typeOf (.builtin id) = pure (.type "method_descriptor")) (hm : MtR X id r) (ho : PE X o to) (ha : PA X (e :: es) t)
    (hbase : attributeBase o name X.env (eval o X.env) = eval o X.env := by rfl)
    (hfew : ((backTo cpos (starEach (e :: es) X.env)).all (fun x => !x.1) && (backToKw cpos (keywordEach [] X.env)).all (fun x => x.1.isSome) && decide ((e :: es).length + ([] : List Keyword).length + (if ([] : List Keyword).isEmpty then 0 else 1) < 30)) = true := by rfl)
    (hline : (apos.endLine == cpos.line) = true := by rfl) (hs : starEach (e :: es) X.env = (false, eval e X.env) :: starEach es X.env := by rfl) (hplain : (backTo cpos (starEach es X.env)).any (·.1) = false := by rfl) :
    PE X (.Call (.Attribute o name apos) (e :: es) [] cpos) (tBMT r to t) := by
  intro pins s σ H Q I h
  refine wpAny_Call_method_late hbase hfew hline rfl (thn (ho pins s σ H _ I h) fun v s1 ⟨x, H1, I1, r1, p, xs, ex, hp, q1⟩ => ?_)
  subst ex
  cases r1
  obtain ⟨_, its, _, ob, e1, e2, e3, _⟩ : xs.length ≤ sizeLine ∧ ∃ its : List Value, Vals xs its ∧ IsTupN s1.heap p its.toArray := I1.hok p _ hp
  refine ⟨"tuple", id, pa, slot, hty, ⟨ob, e1, e2⟩, fun a ea => ?_, ?_⟩
  · cases ea; exact ⟨ob, e1, e3⟩
  have hA := ha cpos pins s1 σ H1 _ I1 q1
  rw [hs] at hA ⊢
  refine Calls.callWith_builtin (by show (false || (backTo cpos (starEach es X.env)).any (·.1)) = false; rw [hplain] <;> rfl) (Calls.evalArgs_plain ?_)
  exact thn hA fun us s2 ⟨vs, H2, I2, r2, q2⟩ => hm pins s2 σ H2 (.ref p) vs (.ref p) us Q I2 rfl r2 q2
end
end L2

set_option Elab.async false
set_option linter.all false
set_option maxRecDepth 100000
namespace L2
open PySem PySem.Spec PyProof.Rows PySem.SeqAt PySem.Builtin PySem.Builtin.Str PySem.StrLaws
/-! ### is not True, is not False, of a truth -/
end L2

set_option Elab.async false
set_option linter.all false
set_option maxRecDepth 100000
namespace L2
open PySem PySem.Spec PyProof.Rows PySem.SeqAt PySem.Builtin PySem.Builtin.Str PySem.StrLaws
/-! ### the text of a number or of None -/
end L2

set_option Elab.async false
set_option linter.all false
set_option maxRecDepth 100000
namespace L2
open PySem PySem.Spec PyProof.Rows PySem.SeqAt
/-! ### try .. except C as n .. else .. -/
section
variable {X : Cx} {x n : Str} {C : Addr} {bmB : List Value} {B newId initId : String} {np hp pos : Pos} {body suite orelse : List Stmt} {b₀ : Stmt} {tb : XK → TS} {th te : TS} {rest : List ExceptHandler}
end
/-! ### None in a list of lists, tuples and None -/
end L2

set_option Elab.async false
set_option linter.all false
set_option maxRecDepth 100000
set_option maxHeartbeats 4000000
namespace L2
open PySem PySem.Spec PyProof.Rows
/-! ### an exception that leaves a comprehension -/
section
variable {M : Model} {A : Around} {E : Value → Shared → Prop} {s : Shared}
end
section
variable {X : Cx} {N0 T : List Str} {scope : Scope} {tg elt iter : Expr} {ifs : List Expr} {pos : Pos} {wi : TI} {g : TG} {tc : TT} {te : TE}
end
section
variable {X : Cx} {N0 T : List Str} {scope : Scope} {C : Addr} {fp : List Addr} {s : Shared} {H : Hp} {E1 : XK} {x : Str}
end
end L2

set_option Elab.async false
set_option linter.all false
set_option maxRecDepth 100000
set_option maxHeartbeats 4000000
namespace L2
open PySem PySem.Spec PyProof.Rows PySem.SeqAt
/-! ### slices of a list with a step -/
/-- the items of xs[lo:hi:st] -/
def pickV (xs : List V) (lo hi st : Option Int) : List V := (sliceRange (sliceBounds lo hi st xs.length).1 (sliceBounds lo hi st xs.length).2.1 (sliceBounds lo hi st xs.length).2.2).filterMap fun i => xs[i]?
theorem pick_vals {xs : List V} {us : List Value} (r : Vals xs us) : ∀ is : List Nat, Vals (is.filterMap fun i => xs[i]?) (is.filterMap fun i => us.toArray[i]?)
  | [] => .nil
  | i :: is => by
    cases e : xs[i]? with
    | none =>
      have e' : us.toArray[i]? = none := by simpa using r.none_of e
      rw [List.filterMap_cons_none e, List.filterMap_cons_none e']
      exact pick_vals r is
    | some x =>
      obtain ⟨u, hu, ru⟩ := r.get e
      have e' : us.toArray[i]? = some u := by simpa using hu
      rw [List.filterMap_cons_some e, List.filterMap_cons_some e']
      exact .cons ru (pick_vals r is)
theorem pick_mem {xs : List V} {lo hi st : Option Int} {v : V} (h : v ∈ pickV xs lo hi st) : v ∈ xs := by
  obtain ⟨i, _, e⟩ := List.mem_filterMap.mp h
  exact List.mem_of_getElem? e
def rSlP (K : PySem.W.Frag) : V → Option Int → Option Int → Option Int → Hp → VK → Prop := fun x lo hi st H Q => ∃ a xs, x = .ref a ∧ SqL K H a xs ∧ st ≠ some 0 ∧ (pickV xs lo hi st).length ≤ sizeLine ∧ ∀ p, H p = none → Q (.ref p) (upd H p (.lst (pickV xs lo hi st)))
def tSlP (r : V → Option Int → Option Int → Option Int → Hp → VK → Prop) (te : TE) (tl th ts : TO) : TE := fun σ H Q => te σ H fun x H1 => tl σ H1 fun l H2 => th σ H2 fun u H3 => ts σ H3 fun k H4 => r x l u k H4 Q
theorem tSlP_at {r : V → Option Int → Option Int → Option Int → Hp → VK → Prop} {te : TE} {tl th ts : TO} {σ : St} {H : Hp} {Q : VK} : tSlP r te tl th ts σ H Q = te σ H fun x H1 => tl σ H1 fun l H2 => th σ H2 fun u H3 => ts σ H3 fun k H4 => r x l u k H4 Q := rfl
section
variable {X : Cx} {e : Expr} {te : TE} {lo hi : Option Expr} {st : Expr} {tl th ts : TO} {pos p2 : Pos}
/-- a[lo:hi:st] of a list -/
theorem pe_sliceP (K : PySem.W.Frag) (he : PE X e te) (hl : PO X lo tl) (hu : PO X hi th) (hst : PO X (some st) ts) (hK : X.K = K := by rfl) : PE X (.Subscript e (.Slice lo hi (some st) p2) pos) (tSlP (rSlP K) te tl th ts) := by
  subst hK
  intro pins s σ H Q I h
  refine Subscript_ (thn (he pins s σ H _ I h) fun v s1 ⟨x, H1, I1, r1, q1⟩ => ?_)
  refine wpAny_Slice (thn (hl pins s1 σ H1 _ I1 q1) fun vl s2 ⟨l, H2, I2, pl, q2⟩ => thn (hu pins s2 σ H2 _ I2 q2) fun vu s3 ⟨u, H3, I3, pu, q3⟩ => thn (hst pins s3 σ H3 _ I3 q3) fun vs s4 ⟨k, H4, I4, ps, q4⟩ => ?_)
  obtain ⟨a, xs, rfl, hx, h0, hlen, q⟩ := q4
  cases r1
  have I5 : Inv X pins σ H4 { s4 with heap := s4.heap.push { cls := .type "slice", data := .fields #[vl, vu, vs] } } := I4.kept (t' := s4.toks) fun b ob q => Heap.get?_push_of_some _ q
  obtain ⟨its, r, ht, hz⟩ := I5.list hx
  have hln := r.length
  refine tail_any (ops := [.ref a, .ref s4.heap.objs.size]) ht.isList.typeIs slot_list_getitem.lookup ?_ (by with_unfolding_all rfl)
  refine wpAny_getItem_list_slice ht.isList (Heap.IsSliceOf.new ..) pl pu ps h0 ?_ (by rw [List.size_toArray] <;> omega)
  have ev : Vals (pickV xs l u k) ((sliceRange (sliceBounds l u k xs.length).1 (sliceBounds l u k xs.length).2.1 (sliceBounds l u k xs.length).2.2).filterMap fun i => its.toArray[i]?) := pick_vals r _
  have es : slicePick its.toArray l u k = ((sliceRange (sliceBounds l u k xs.length).1 (sliceBounds l u k xs.length).2.1 (sliceBounds l u k xs.length).2.2).filterMap fun i => its.toArray[i]?).toArray := by
    unfold slicePick
    rw [List.size_toArray, ← hln]
  rw [es]
  exact ⟨.ref _, _, I5.laid (t' := s4.toks) (o := .lst (pickV xs l u k)) (fun b ob q => Heap.get?_push_of_some _ q) (Nat.le_refl _) ⟨hlen, _, 0, ev, Heap.get?_push_size _ rfl⟩, rfl, q _ (I5.hok.fresh (Nat.le_refl _))⟩
end
/-! ### not in a list of things that are no flat values -/
/-! ### set(a list of texts), a long one -/
section
variable {X : Cx}
end
end L2

set_option Elab.async false
set_option linter.all false
set_option maxRecDepth 100000
namespace L2
open PySem PySem.Spec PyProof.Rows
/-! ### dicts by pairs, the program and the world named -/
section
variable {X : Cx} {n : Nat} (P : Program) (w : World) (hr : Room n X.A)
include hr
theorem op_notInOW (hP : X.prog = P := by rfl) (hw : X.w = w := by rfl) : OpR X (compareOp .NotIn) (rNotInO P w) := by subst hP hw; exact op_notInO hr
theorem ix_OW (hP : X.prog = P := by rfl) (hw : X.w = w := by rfl) : IxR X (rIxO P w) := by subst hP hw; exact ix_O hr
theorem set_OW (hP : X.prog = P := by rfl) (hw : X.w = w := by rfl) : PSet X (rSetO P w) := by subst hP hw; exact set_O hr
theorem pe_disp1OW {ek ev : Expr} {tk tv : TE} {pos : Pos} (hk : PE X ek tk) (hv : PE X ev tv) (hP : X.prog = P := by rfl) (hw : X.w = w := by rfl) : PE X (.Dict [some ek] [ev] pos) (tDisp1O P w tk tv) := by subst hP hw; exact pe_disp1O hr hk hv
end
end L2

set_option Elab.async false
set_option linter.all false
set_option maxRecDepth 100000
set_option maxHeartbeats 4000000
namespace L2
open PySem PySem.Spec PyProof.Rows

/-! ### comprehensions whose own names are cells (read by a comprehension within them) -/
theorem cf_look : ∀ (names : List (Str × NameKind)) (n : Nat) (acc : List (Str × Addr)) {x : Str} {c : Addr}, (cellsFrom n names acc).lookup x = some c → acc.lookup x = some c ∨ (n ≤ c ∧ (x, NameKind.cell) ∈ names)
  | [], n, acc, x, c, h => .inl h
  | (nm, k) :: r, n, acc, x, c, h => by
    unfold cellsFrom at h
    split at h
    · rename_i hk
      have hk' : k = .cell := by simpa using hk
      rcases cf_look r (n + 1) _ h with z | ⟨z1, z2⟩
      · rw [List.lookup_cons] at z
        cases hx : (x == nm) with
        | true =>
          rw [hx] at z
          have e1 : x = nm := by simpa using hx
          have e2 : n = c := Option.some.inj z
          rw [e1, hk']; exact .inr ⟨Nat.le_of_eq e2, List.mem_cons_self⟩
        | false => rw [hx] at z; exact .inl z
      · exact .inr ⟨by omega, List.mem_cons_of_mem _ z2⟩
    · rcases cf_look r n _ h with z | ⟨z1, z2⟩
      · exact .inl z
      · exact .inr ⟨z1, List.mem_cons_of_mem _ z2⟩
theorem cf_inj : ∀ (names : List (Str × NameKind)) (n : Nat) (acc : List (Str × Addr)), (∀ (x : Str) (c : Nat), acc.lookup x = some c → c < n) → (∀ x y c, acc.lookup x = some c → acc.lookup y = some c → x = y) →
    ∀ x y c, (cellsFrom n names acc).lookup x = some c → (cellsFrom n names acc).lookup y = some c → x = y
  | [], n, acc, hb, hi => hi
  | (nm, k) :: r, n, acc, hb, hi => by
    unfold cellsFrom
    split
    · refine cf_inj r (n + 1) _ (fun x c h => ?_) fun x y c h1 h2 => ?_
      · rw [List.lookup_cons] at h
        cases hx : (x == nm) with
        | true => rw [hx] at h; have q : (n : Nat) = c := Option.some.inj h; omega
        | false => rw [hx] at h; have := hb x c h; omega
      · rw [List.lookup_cons] at h1 h2
        cases hx : (x == nm) with
        | true =>
          rw [hx] at h1
          have e : (n : Nat) = c := Option.some.inj h1
          have ex : x = nm := by simpa using hx
          cases hy : (y == nm) with
          | true => have ey : y = nm := by simpa using hy
                    rw [ex, ey]
          | false => rw [hy] at h2; have := hb y c h2; omega
        | false =>
          rw [hx] at h1
          cases hy : (y == nm) with
          | true => rw [hy] at h2; have e : (n : Nat) = c := Option.some.inj h2; have := hb x c h1; omega
          | false => rw [hy] at h2; exact hi x y c h1 h2
    · exact cf_inj r n acc hb hi
theorem cf_cell : ∀ (names : List (Str × NameKind)) (h : Heap) (acc : List (Str × Addr)), (∀ x c, acc.lookup x = some c → ∃ v, h.IsCell c v) → ∀ x c, (cellsFrom h.objs.size names acc).lookup x = some c → ∃ v, (pushCells h names).IsCell c v
  | [], h, acc, ha => ha
  | (nm, k) :: r, h, acc, ha => by
    unfold cellsFrom pushCells
    split
    · have := cf_cell r (h.push { cls := .type "cell", data := .cell none }) ((nm, h.objs.size) :: acc) fun x c e => by
        rw [List.lookup_cons] at e
        cases hx : (x == nm) with
        | true => rw [hx] at e; have e' : h.objs.size = c := Option.some.inj e; subst e'; exact ⟨none, _, Heap.get?_push_size _ rfl, rfl⟩
        | false => rw [hx] at e; obtain ⟨v, z⟩ := ha x c e; exact ⟨v, z.keeps fun b o q => Heap.get?_push_of_some _ q⟩
      rwa [Heap.size_push] at this
    · exact cf_cell r h acc ha
theorem cf_acc : ∀ (names : List (Str × NameKind)) (n : Nat) (acc : List (Str × Addr)) {x : Str}, (∃ c, acc.lookup x = some c) → ∃ c, (cellsFrom n names acc).lookup x = some c
  | [], n, acc, x, h => h
  | (nm, k) :: r, n, acc, x, h => by
    unfold cellsFrom
    split
    · refine cf_acc r (n + 1) _ ?_
      rw [List.lookup_cons]
      cases hx : (x == nm) with
      | true => exact ⟨_, rfl⟩
      | false => exact h
    · exact cf_acc r n acc h
theorem cf_has : ∀ (names : List (Str × NameKind)) (n : Nat) (acc : List (Str × Addr)) {x : Str}, (x, NameKind.cell) ∈ names → ∃ c, (cellsFrom n names acc).lookup x = some c
  | (nm, k) :: r, n, acc, x, h => by
    unfold cellsFrom
    rcases List.mem_cons.mp h with e | h
    · have e1 : x = nm := congrArg (·.1) e
      have e2 : NameKind.cell = k := congrArg (·.2) e
      subst e1 e2
      rw [if_pos (by rfl)]
      refine cf_acc r (n + 1) _ ⟨n, ?_⟩
      rw [List.lookup_cons, beq_self_eq_true]
    · split
      · exact cf_has r _ _ h
      · exact cf_has r _ _ h
theorem cf_keep : ∀ (names : List (Str × NameKind)) (n : Nat) (acc : List (Str × Addr)) {x : Str}, (x, NameKind.cell) ∉ names → (cellsFrom n names acc).lookup x = acc.lookup x
  | [], n, acc, x, h => rfl
  | (nm, k) :: r, n, acc, x, h => by
    unfold cellsFrom
    split
    · rename_i hk
      have hk' : k = .cell := by simpa using hk
      rw [cf_keep r (n + 1) _ fun z => h (List.mem_cons_of_mem _ z), List.lookup_cons]
      cases hx : (x == nm) with
      | true => exact absurd (by rw [show x = nm by simpa using hx, hk']; exact List.mem_cons_self) h
      | false => rfl
    · exact cf_keep r n acc fun z => h (List.mem_cons_of_mem _ z)
theorem cf_ge : ∀ (names : List (Str × NameKind)) (n n0 : Nat) (acc : List (Str × Addr)) {x : Str}, n0 ≤ n → (∀ c : Nat, acc.lookup x = some c → n0 ≤ c) → ∀ c : Nat, (cellsFrom n names acc).lookup x = some c → n0 ≤ c
  | [], n, n0, acc, x, hn, h => h
  | (nm, k) :: r, n, n0, acc, x, hn, h => by
    unfold cellsFrom
    split
    · refine cf_ge r (n + 1) n0 _ (by omega) fun c e => ?_
      rw [List.lookup_cons] at e
      cases hx : (x == nm) with
      | true => rw [hx] at e; have q : (n : Nat) = c := Option.some.inj e; omega
      | false => rw [hx] at e; exact h c e
    · exact cf_ge r n n0 acc hn h
theorem cf_own : ∀ (names : List (Str × NameKind)) (n : Nat) (acc : List (Str × Addr)) {x : Str}, (x, NameKind.cell) ∈ names → ∀ c : Nat, (cellsFrom n names acc).lookup x = some c → n ≤ c
  | (nm, k) :: r, n, acc, x, h, c, e => by
    unfold cellsFrom at e
    rcases List.mem_cons.mp h with z | h
    · have e1 : x = nm := congrArg (·.1) z
      have e2 : NameKind.cell = k := congrArg (·.2) z
      subst e1 e2
      rw [if_pos (by rfl)] at e
      refine cf_ge r (n + 1) n _ (by omega) (fun c q => ?_) c e
      rw [List.lookup_cons, beq_self_eq_true] at q
      have q : (n : Nat) = c := Option.some.inj q; omega
    · split at e
      · have := cf_own r _ _ h c e; omega
      · exact cf_own r _ _ h c e
theorem relabel_own {env : Env} {x : Str} {k : NameKind} : ∀ {names : List (Str × NameKind)},
    (names.map fun (n, k) => if (k == NameKind.free && env.scope.kind == .function && env.kindOf n == some .cell) then (n, NameKind.cell) else (n, k)).lookup x = some k → (k = .cell ∨ k = .free) → (x, NameKind.free) ∈ names ∨ (x, NameKind.cell) ∈ names
  | [], h, _ => by simp at h
  | (n, k0) :: r, h, hk => by
    have ih := @relabel_own env x k r
    rw [List.map_cons] at h
    by_cases hf : (k0 == NameKind.free && env.scope.kind == .function && env.kindOf n == some .cell) = true
    · have hk0 : k0 = .free := by
        have : (k0 == NameKind.free) = true := by
          rw [Bool.and_eq_true, Bool.and_eq_true] at hf; exact hf.1.1
        simpa using this
      dsimp only at h
      rw [if_pos hf, List.lookup_cons] at h
      cases hx : (x == n) with
      | true =>
        have : x = n := by simpa using hx
        rw [this, hk0]; exact .inl List.mem_cons_self
      | false =>
        rw [hx] at h
        rcases ih h hk with z | z
        · exact .inl (List.mem_cons_of_mem _ z)
        · exact .inr (List.mem_cons_of_mem _ z)
    · dsimp only at h
      rw [if_neg hf, List.lookup_cons] at h
      cases hx : (x == n) with
      | true =>
        rw [hx] at h
        have e : k0 = k := Option.some.inj h
        have : x = n := by simpa using hx
        rcases hk with z | z
        · rw [this, e, z]; exact .inr List.mem_cons_self
        · rw [this, e, z]; exact .inl List.mem_cons_self
      | false =>
        rw [hx] at h
        rcases ih h hk with z | z
        · exact .inl (List.mem_cons_of_mem _ z)
        · exact .inr (List.mem_cons_of_mem _ z)
theorem relabel_loc {env : Env} {x : Str} : ∀ {names : List (Str × NameKind)}, (names.map fun (n, k) => if (k == NameKind.free && env.scope.kind == .function && env.kindOf n == some .cell) then (n, NameKind.cell) else (n, k)).lookup x = some .local → (x, NameKind.local) ∈ names := by
  intro names
  induction names with
  | nil => intro z; simp at z
  | cons y r ih =>
    obtain ⟨n, k⟩ := y
    intro z
    rw [List.map_cons] at z
    dsimp only at z
    by_cases hfk : (k == NameKind.free && env.scope.kind == .function && env.kindOf n == some .cell) = true
    · rw [if_pos hfk, List.lookup_cons] at z
      cases hx : (x == n) with
      | true => rw [hx] at z; cases z
      | false => rw [hx] at z; exact List.mem_cons_of_mem _ (ih z)
    · rw [if_neg hfk, List.lookup_cons] at z
      cases hx : (x == n) with
      | true =>
        rw [hx] at z
        have ek : k = .local := Option.some.inj z
        have en : x = n := by simpa using hx
        rw [ek, en]; exact List.mem_cons_self
      | false => rw [hx] at z; exact List.mem_cons_of_mem _ (ih z)
/-- the new names of a block, with cells, beside a def's -/
theorem newEnvO {M : Model} {A : Around} {E : Value → Shared → Prop} {s : Shared} {scope : Scope} {globals : Addr} {closure : List (Str × Addr)} {qual : Str} {func : Option Addr} {code : Value} {env : Env} {builtins : Addr} {Q : Env → Shared → Prop}
    (hQ : Q (newEnv scope s.heap.objs.size globals (cellsFrom (s.heap.objs.size + 1) scope.names closure) qual func code (some env) builtins) { s with heap := pushCells (s.heap.push { cls := .type "dict", data := .dict #[] }) scope.names }) :
    wpAny M A (newFunctionEnv scope globals closure [] qual func code (some env) builtins) Q E s := by
  simp only [newFunctionEnv, Option.isSome_some, if_true]
  refine wpAny_bind (wpAny_alloc ?_)
  refine wpAny_bind (wpAny_layCells _ (fun name kind cells => by cases hkc : kind == NameKind.cell <;> simp [hkc]) _ _ _ _ ?_)
  rw [show ({ s with heap := s.heap.push { cls := .type "dict", data := .dict #[] } } : Shared).heap.objs.size = s.heap.objs.size + 1 from Heap.size_push ..]
  refine wpAny_bind ?_
  rw [List.forIn_nil]
  exact wpAny_pure (wpAny_pure hQ)
def ownC (scope : Scope) (x : Str) : Bool := scope.names.any fun y => y.1 == x && y.2 == .cell
def cxCompO (X : Cx) (N0 T : List Str) (scope : Scope) (C : Addr) (fp : List Addr) (s : Shared) (H : Hp) : Cx :=
  { X with N := N0 ++ T, s₀ := s, H₀ := H, env := compEnvC scope (cellsFrom (C + 1) scope.names (closOf X.env.cells scope.names [])) C X.env, outer := X.stack, stack := X.stack, ex := fp, fn := ownC scope, pn := [], xe := fun _ _ => False }
structure CompScopeO (X : Cx) (N0 T : List Str) (scope : Scope) : Prop where
  kind : scope.kind = .function
  names : ∀ y ∈ scope.names, y.2 = .local → scope.names.lookup y.1 = some .local
  free : ∀ y ∈ scope.names, y.2 = .free → X.env.kindOf y.1 = some .cell ∨ X.env.kindOf y.1 = some .free
  apart : ∀ y ∈ scope.names, y.2 = .local ∨ y.2 = .cell → y.1 ∉ N0
  len0 : N0.length = X.N.length
  same : ∀ (i : Nat) (x : Str) (k : NameKind), N0[i]? = some x → (x, k) ∈ scope.names → X.N[i]? = some x
section
variable {X : Cx} {N0 T : List Str} {scope : Scope} {tg elt iter : Expr} {ifs : List Expr} {pos : Pos} {wi : TI} {g : TG} {tc : TT} {te : TE}

theorem comp_coreO {pins : List (Addr × Obj)} {σ : St} {H : Hp} {s : Shared} {E : Value → Shared → Prop} {it : Addr} {fp : List Addr} {tn : Nat → Heap → Prop} {J : It} {Q : VK} {RR : Value → Addr → Result → Shared → Prop}
    (S : CompScopeO X N0 T scope) (hc : X.calm = true)
    (hg : ∀ C fp s H, PG (cxCompO X N0 T scope C fp s H) tg g) (hfr : GFr g X.N.length) (hi : ∀ C fp s H, PIfs (cxCompO X N0 T scope C fp s H) ifs tc) (he : ∀ C fp s H, PE (cxCompO X N0 T scope C fp s H) elt te)
    (I : Inv X pins σ H s) (Tn : Turn X.prog X.w X.K tg J fp it tn) (st : tn 0 s.heap) (hf : ∀ b ∈ fp, FpOk X pins H b)
    (h : ∀ D, H D = none → compW J g tc te T.length σ D Q (upd H D (.lst [])))
    (hRR : ∀ D C s' H' m, s'.heap.Ns C m → H' C = none → C ≠ X.env.locals → (∀ x c, X.env.cells.lookup x = some c → c ≠ C) → (∀ p ∈ X.pn ++ pins, p.1 ≠ C) → X.s₀.heap.objs.size ≤ C → Inv X pins σ H' s' →
      (∀ h', Heap.SameBut C s'.heap h' → Inv X pins σ H' { s' with heap := h' }) → Q (.ref D) H' → RR (.ref D) C (.ok .next) s') :
    wpAny (model X.prog X.w) X.A (newList []) (fun acc s₃ => wpAny (model X.prog X.w) X.A (newFunctionEnv scope X.env.globals (closOf X.env.cells scope.names []) [] X.env.qual none .none (some X.env)) (fun cenv s₄ =>
      codeAny (model X.prog X.w) X.A (.compStart (.ListComp elt [⟨tg, iter, ifs, 0⟩] scope pos) 0 (.ref it) acc { cenv with scope := relabel scope X.env }) (RR acc cenv.locals) s₄) E s₃) E s := by
  refine wpAny_newObj_type (newEnvO ?_)
  dsimp only
  generalize hH2 : s.heap.push { cls := .type "list", dict := none, data := .seq ([] : List Value).toArray } = P2 at ⊢
  have hC : P2.objs.size = s.heap.objs.size + 1 := by rw [← hH2, Heap.size_push]
  -- the new list D, the block's names C
  obtain ⟨D, hD⟩ : ∃ D : Nat, D = s.heap.objs.size := ⟨_, rfl⟩
  obtain ⟨C, hCC⟩ : ∃ C : Nat, C = P2.objs.size := ⟨_, rfl⟩
  obtain ⟨h₁, hh1⟩ : ∃ h₁ : Heap, h₁ = pushCells (P2.push { cls := .type "dict", data := .dict #[] }) scope.names := ⟨_, rfl⟩
  have kp1 : ∀ b o, P2.get? b = some o → h₁.get? b = some o := fun b o e => hh1 ▸ pushCells_keeps _ _ b o (Heap.get?_push_of_some _ e)
  have hns₁ : h₁.Ns C (fun _ => none) := by rw [hh1, hCC]; exact (Heap.Ns.new P2 (.type "dict")).keeps (pushCells_keeps _ _)
  have hsz1 : (P2.push { cls := .type "dict", data := .dict #[] }).objs.size = C + 1 := by rw [Heap.size_push, hCC]
  rw [← hh1, ← hCC]
  rw [← hD] at hC ⊢
  rw [← hCC] at hC
  have hDC : D ≠ C := by omega
  have hDlt : D < C := by omega
  have neD : ∀ b o, s.heap.get? b = some o → b ≠ D := fun b o e => hD ▸ Nat.ne_of_lt (Heap.lt_size e)
  have neC : ∀ b o, s.heap.get? b = some o → b ≠ C := fun b o e => Nat.ne_of_lt (Nat.lt_trans (hD ▸ Heap.lt_size e) hDlt)
  have old : ∀ b o, s.heap.get? b = some o → h₁.get? b = some o := fun b o e => kp1 b o (hH2 ▸ Heap.get?_push_of_some _ e)
  have hHD : H D = none := I.hok.fresh (by omega)
  have hHC : H C = none := I.hok.fresh (by omega)
  have dat : h₁.get? D = some { cls := .type "list", data := .seq ([] : List Value).toArray 0 } := by
    refine kp1 _ _ ?_
    rw [← hH2, hD]
    exact Heap.get?_push_size _ rfl
  -- the block's context stands
  have hcl : ∀ x c, (closOf X.env.cells scope.names []).lookup x = some c → X.env.cells.lookup x = some c := fun x c e =>
    closOf_some (fun y hy hk => I.ok.has y.1 (S.free y hy hk)) (fun y c z => by simp at z) e
  have hlt : ∀ (x : Str) (c : Nat), X.env.cells.lookup x = some c → c < D := fun x c e => by obtain ⟨v, z⟩ := I.cell x c e; rw [hD]; exact z.lt
  have hcf : ∀ (x : Str) (c : Nat), (cellsFrom (C + 1) scope.names (closOf X.env.cells scope.names [])).lookup x = some c → X.env.cells.lookup x = some c ∨ C < c := fun x c e => by
    rcases cf_look _ _ _ e with z | ⟨z, _⟩
    · exact .inl (hcl x c z)
    · exact .inr z
  have okC : (cxCompO X N0 T scope C fp s H).Ok := by
    refine ⟨I.ok.mod, ?_, I.ok.glob, I.ok.blt, ?_, cf_inj _ _ _ (fun x c e => ?_) (fun x y c e1 e2 => I.ok.inj x y c (hcl x c e1) (hcl y c e2)), fun x hx => ?_, fun x c z e => ?_, I.ok.hd, I.ok.frames, .inl rfl, fun b hb => ⟨?_, fun x c e => ?_⟩,
      I.bs, ?_, fun b o e hb => ?_, fun b hb z => ?_, I.stack, I.stkFree⟩
    · show (relabel scope X.env).kind = .function
      exact S.kind
    · show s.heap.objs.size ≤ C
      omega
    · have := hlt x c (hcl x c e); omega
    · have hx' : (relabel scope X.env).names.lookup x = some .cell ∨ (relabel scope X.env).names.lookup x = some .free := hx
      have m : (x, NameKind.free) ∈ scope.names ∨ (x, NameKind.cell) ∈ scope.names := by
        rcases hx' with z | z
        · exact relabel_own z (.inl rfl)
        · exact relabel_own z (.inr rfl)
      rcases m with m | m
      · exact cf_acc _ _ _ (closOf_has m)
      · exact cf_has _ _ _ m
    · have m : (x, NameKind.cell) ∈ scope.names := by
        obtain ⟨y, hy, q⟩ := List.any_eq_true.mp (show ownC scope x = true from z)
        rw [Bool.and_eq_true] at q
        have q1 : y.1 = x := by simpa using q.1
        have q2 : y.2 = .cell := by simpa using q.2
        rw [← q1, ← q2]; exact hy
      have := cf_own _ _ _ m c e
      show s.heap.objs.size ≤ c
      omega
    · show b ≠ C
      obtain ⟨o, e, _⟩ := Tn.obj 0 _ st b hb
      exact neC b o e
    · rcases hcf x c e with z | z
      · exact (hf b hb).2.2.2.2.1 x c z
      · obtain ⟨o, e, _⟩ := Tn.obj 0 _ st b hb
        have q : @LT.lt Nat _ b s.heap.objs.size := Heap.lt_size e
        intro ecb
        have ecb' : @Eq Nat c b := ecb
        have zz : C < c := z
        omega
    · exact Nat.le_trans I.ok.bsz I.sz
    · obtain ⟨_, _, _, z, _⟩ := hf b hb
      rcases z with z | z
      · exact I.ok.noex b o e z
      · exact absurd (Nat.lt_of_lt_of_le (Nat.lt_of_lt_of_le (Heap.lt_size e) I.ok.bsz) z) (Nat.lt_irrefl _)
    · obtain ⟨_, z1, z2, _⟩ := hf b hb
      rcases List.mem_cons.mp (I.stkSub b z) with q | q
      · exact z1 q
      · exact z2 q
  have I1 : Inv (cxCompO X N0 T scope C fp s H) [] (σ ++ List.replicate T.length none) (upd H D (.lst [])) { s with heap := h₁ } := by
    refine ⟨okC, rfl, I.bare, Un.laid (h := s.heap) old (by omega) hHD, ⟨_, hns₁, fun i x v e1 e2 e3 => ?_⟩, fun x c e => ?_, ?_, fun x c e => ?_, fun p hp => (by simp [cxCompO] at hp), I.hok.laid old (by omega) ?_, ?_⟩
    · have e1' : (N0 ++ T)[i]? = some x := e1
      have hl := I.len
      have hl0 := S.len0
      have hi : i < σ.length := by
        rcases Nat.lt_or_ge i σ.length with z | z
        · exact z
        · rw [List.getElem?_append_right z] at e2
          rw [List.getElem?_replicate] at e2
          split at e2 <;> cases e2
      rw [List.getElem?_append_left hi] at e2
      rw [List.getElem?_append_left (by omega)] at e1'
      have hxN : x ∈ N0 := List.mem_of_getElem? e1'
      have e3' : (relabel scope X.env).names.lookup x = some .local ∨ (relabel scope X.env).names.lookup x = some .cell ∨ (relabel scope X.env).names.lookup x = some .free := e3
      have hnc : (x, NameKind.cell) ∉ scope.names := fun m => S.apart _ m (.inr rfl) hxN
      have fr : (relabel scope X.env).names.lookup x = some .cell ∨ (relabel scope X.env).names.lookup x = some .free := by
        rcases e3' with z | z | z
        · exact absurd hxN (S.apart (x, .local) (relabel_loc z) (.inl rfl))
        · exact .inl z
        · exact .inr z
      have m : (x, NameKind.free) ∈ scope.names := by
        rcases fr with z | z
        · exact (relabel_own z (.inl rfl)).resolve_right hnc
        · exact (relabel_own z (.inr rfl)).resolve_right hnc
      have kX := S.free _ m rfl
      obtain ⟨mm, hn, hl'⟩ := I.loc
      obtain ⟨u, r, lk⟩ := hl' i x v (S.same i x _ e1' m) e2 (.inr kX)
      refine ⟨u, r, .inr ⟨fr, ?_⟩⟩
      rcases lk with ⟨z, _⟩ | ⟨_, c, ec, cc⟩
      · rcases kX with q | q
        · rw [q] at z; cases z
        · rw [q] at z; cases z
      · obtain ⟨c', ec'⟩ := closOf_has (cells := X.env.cells) (acc := []) m
        have := hcl x c' ec'
        rw [ec] at this; cases this
        exact ⟨c, (cf_keep _ _ _ hnc).trans ec', cc.keeps old⟩
    · have q := cf_cell scope.names (P2.push { cls := .type "dict", data := .dict #[] }) (closOf X.env.cells scope.names []) (fun x c e => by
        obtain ⟨v, z⟩ := I.cell x c (hcl x c e)
        exact ⟨v, z.keeps fun b o q => Heap.get?_push_of_some _ (hH2 ▸ Heap.get?_push_of_some _ q)⟩) x c
      rw [hsz1, ← hh1] at q
      exact q e
    · show upd H D (.lst []) C = none
      rw [upd_ne (Ne.symm hDC)]; exact hHC
    · rcases hcf x c e with e | e
      · have q := I.freeC x c e
        obtain ⟨v, o, z, _⟩ := I.cell x c e
        rw [upd_ne (neD c o z)]; exact q
      · have e' : C < c := e
        have q1 : c ≠ D := fun q => by have q' : @Eq Nat c D := q; omega
        rw [upd_ne q1]; exact I.hok.fresh (by omega)
    · exact ⟨Nat.zero_le _, [], 0, .nil, dat⟩
    · show (σ ++ List.replicate T.length none).length = (N0 ++ T).length
      rw [List.length_append, List.length_append, List.length_replicate, I.len, S.len0]
  have st1 : tn 0 h₁ := Tn.keep _ _ _ st fun b _ o e => old b o e
  have fp1 : ∀ {H' : Hp}, (∀ b ∈ fp, H' b = none) → ∀ b ∈ fp, FpOk (cxCompO X N0 T scope C fp s H) [] H' b := fun hn b hb =>
    ⟨hn b hb, (okC.exf b hb).1, okC.exfs b hb, .inl hb, (okC.exf b hb).2, fun p hp => (by simp [cxCompO] at hp)⟩
  have fp0 : ∀ b ∈ fp, upd H D (.lst []) b = none := fun b hb => by
    obtain ⟨o, e, _⟩ := Tn.obj 0 _ st b hb
    rw [upd_ne (neD b o e)]; exact (hf b hb).1
  obtain ⟨W, ⟨m0, w0⟩, turn⟩ := h D hHD
  have loop : ∀ s₃ : Shared, s₃ = { s with heap := h₁ } →
      codeAny (model X.prog X.w) X.A (.compLoop (.ListComp elt [⟨tg, iter, ifs, 0⟩] scope pos) 0 (.ref it) (.ref D) (compEnvC scope (cellsFrom (C + 1) scope.names (closOf X.env.cells scope.names [])) C X.env)) (RR (.ref D) C) s₃ := by
    rintro s₃ rfl
    refine codeAny_compLoop_go (fun n s' => ∃ i H' ys, Inv (cxCompO X N0 T scope C fp s H) [] (σ ++ List.replicate T.length none) H' s' ∧ tn i s'.heap ∧ (∀ b ∈ fp, H' b = none) ∧ W i n ys H') ?_ m0 ⟨0, _, [], I1, st1, fp0, w0⟩
    rintro n s3 ⟨i, H3, ys, I3, st3, fr3, w3⟩
    rcases turn i n ys H3 w3 with ⟨stop, qn⟩ | ⟨go, step⟩
    · refine thn (Tn.done (cxCompO X N0 T scope C fp s H) rfl rfl rfl hc i [] s3 _ H3 (fun _ _ => False) I3 (fp1 fr3) st3 stop) fun r s4 ⟨hr, I4⟩ => ?_
      subst hr
      obtain ⟨m, hm, _⟩ := I4.loc
      have hch : ∀ b ∈ fp, (b ∈ X.ex ∨ X.s₀.heap.objs.size ≤ b) ∧ b ≠ X.env.locals ∧ (∀ x c, X.env.cells.lookup x = some c → c ≠ b) ∧ ∀ p ∈ X.pn ++ pins, p.1 ≠ b := fun b hb =>
        ⟨(hf b hb).2.2.2.1, (hf b hb).2.1, (hf b hb).2.2.2.2.1, (hf b hb).2.2.2.2.2⟩
      have u4 : Un (frs X.stack) fp H H3 s.heap s4.heap := I4.base
      refine hRR D C s4 H3 m hm I4.free (Ne.symm (Nat.ne_of_lt (Nat.lt_trans (hD ▸ I.lt) hDlt))) (fun x c e => ?_) (fun p hp => ?_) (Nat.le_trans (hD ▸ I.sz) (Nat.le_of_lt hDlt)) (I.call' (ch := fp) I4.os u4 I4.hok I4.bare hch) (fun h' hs' => ?_) qn
      · obtain ⟨v, o, q, _⟩ := I.cell x c e
        exact neC c o q
      · exact neC _ _ (I.pin p hp).1
      · refine I.call' (ch := fp) (s' := { s4 with heap := h' }) I4.os ⟨fun b o q n' hb hx => (hs'.2 b (neC b o q)).trans (u4.keep b o q n' hb hx), fun b o q n' hb hx => ?_, u4.free, fun b o q hx => ?_, u4.tups, u4.frzs, u4.tbls⟩ (I4.hok.sameBut hs' I4.free) I4.bare hch
        · obtain ⟨sl, e⟩ := u4.slot b o q n' hb hx
          exact ⟨sl, (hs'.2 b (neC b o q)).trans e⟩
        · obtain ⟨o', e⟩ := u4.there b o q hx
          exact ⟨o', (hs'.2 b (neC b o q)).trans e⟩
    · refine thn (Tn.item (cxCompO X N0 T scope C fp s H) rfl rfl rfl hc i [] s3 _ H3 (fun _ _ => False) I3 (fp1 fr3) st3 go) fun r s4 ⟨u, hr, h4⟩ => ?_
      subst hr
      refine thn h4 fun _ s5 ⟨x, H5, I5, r5, y5, st5, fr5⟩ => ?_
      have I5' := I5.pinned (fp1 fr5) (Tn.obj _ _ st5)
      refine thn (hg C fp s H _ s5 _ H5 x u _ I5' r5 (hfr _ _ _ _ (step x H5 y5))) fun _ s6 ⟨σ6, H6, I6, q6, l6, k6⟩ => ?_
      have back : ∀ {H7 : Hp} {s7 : Shared}, Inv (cxCompO X N0 T scope C fp s H) ([] ++ pinsAt fp s5.heap) σ6 H7 s7 → (∀ {m' : Nat} {zs : List V}, m' < n → W (i + 1) m' zs H7 → ∃ m, m < n ∧ ∃ i H' ys, Inv (cxCompO X N0 T scope C fp s H) [] (σ ++ List.replicate T.length none) H' s7 ∧ tn i s7.heap ∧ (∀ b ∈ fp, H' b = none) ∧ W i m ys H') := fun {H7 s7} I7 {m' zs} hm w7 => by
        refine ⟨m', hm, i + 1, H7, zs, I7.unpinned.weak (by rw [l6]) (fun j v e => ?_), Tn.keep _ _ _ st5 fun b hb o e => (I7.pin (b, o) (List.mem_append_right _ (List.mem_append_right _ (mem_pinsAt hb e)))).1, fun b hb => ?_, w7⟩
        · have hj : j < σ.length := by
            rcases Nat.lt_or_ge j σ.length with z | z
            · exact z
            · rw [List.getElem?_append_right z, List.getElem?_replicate] at e
              split at e <;> cases e
          rw [k6 j (by rw [← I.len]; exact hj)]
          exact e
        · obtain ⟨o, e, d⟩ := Tn.obj _ _ st5 b hb
          exact (I7.pin (b, o) (List.mem_append_right _ (List.mem_append_right _ (mem_pinsAt hb e)))).2.1
      refine thn (hi C fp s H _ s6 σ6 H6 _ I6 q6) fun b s7 ⟨H7, I7, q7⟩ => ?_
      cases b with
      | false =>
        obtain ⟨m', hm, w7⟩ := (show ∃ m', m' < n ∧ W (i + 1) m' ys H7 from by simpa using q7)
        exact back I7 hm w7
      | true =>
        rw [if_pos rfl] at q7
        refine thn (he C fp s H _ s7 σ6 H7 _ I7 q7) fun v s8 ⟨y, H8, I8, r8, hD8, hz, m', hm, w8⟩ => ?_
        refine thn (mt_append (X := cxCompO X N0 T scope C fp s H) _ s8 σ6 H8 (.ref D) [y] (.ref D) [v] (fun _ H9 => H9 = upd H8 D (.lst (ys ++ [y]))) I8 rfl (.cons r8 .nil) ⟨D, ys, y, rfl, rfl, hD8, hz, rfl⟩) fun v9 s9 ⟨y9, H9, I9, _, e9⟩ => ?_
        subst e9
        exact back I9 hm w8
  exact codeAny_compStart_list (loop _ rfl) (Tn.self X.A 0 _ _ _ st1 (loop _ rfl))

/-- [elt for tg in iter] -/
theorem pe_compO (S : CompScopeO X N0 T scope) (hc : X.calm = true) (hI : PI X tg iter wi)
    (hg : ∀ C fp s H, PG (cxCompO X N0 T scope C fp s H) tg g) (hfr : GFr g X.N.length) (hi : ∀ C fp s H, PIfs (cxCompO X N0 T scope C fp s H) ifs tc) (he : ∀ C fp s H, PE (cxCompO X N0 T scope C fp s H) elt te)
    (hs : ∀ x, foldedSetIterable iter X.env x = pure x := by intro _; rfl) : PE X (.ListComp elt [⟨tg, iter, ifs, 0⟩] scope pos) (tComp wi g tc te T.length) := by
  intro pins s σ H Q I h
  rw [eval_ListComp]
  refine wpAny_comprehension_free (use := none) rfl hs (closureFor_eq fun x hx hk => I.ok.has x.1 (S.free x hx hk)) S.kind S.names (thn (hI pins s σ H _ I h) fun v s1 h1 => thn h1 fun itv s2 h2 => ?_)
  obtain ⟨it, fp, tn, J, H2, e, I2, Tn, st2, f2, q2⟩ := h2
  subst e
  refine comp_coreO (RR := fun acc C => compPost (model X.prog X.w) X.A X.xe none (EP X pins σ Q) acc C) S hc hg hfr hi he I2 Tn st2 f2 q2 ?_
  intro D C s' H' m hn hC hL hcells hpins hfresh I' hI' q
  exact ⟨m, hn, fun h' hs' => ⟨.ref D, H', hI' h' hs', rfl, q⟩⟩

end

structure CompScO (fsc : Scope) (N N0 T : List Str) (scope : Scope) : Prop where
  kind : scope.kind = .function
  names : ∀ y ∈ scope.names, y.2 = .local → scope.names.lookup y.1 = some .local
  free : ∀ y ∈ scope.names, y.2 = .free → fsc.names.lookup y.1 = some .cell ∨ fsc.names.lookup y.1 = some .free
  apart : ∀ y ∈ scope.names, y.2 = .local ∨ y.2 = .cell → y.1 ∉ N0
  len0 : N0.length = N.length
  same : ((N0.zip N).all fun p => p.1 == p.2 || !(scope.names.any fun y => y.1 == p.1)) = true
theorem CompScO.to {X : Cx} {fsc : Scope} {N N0 T : List Str} {scope : Scope} (S : CompScO fsc N N0 T scope) (h1 : X.env.scope = fsc) (h2 : X.N = N) : CompScopeO X N0 T scope := by
  subst h1 h2
  refine ⟨S.kind, S.names, S.free, S.apart, S.len0, fun i x k e m => ?_⟩
  have hl := S.len0
  have hi : i < N0.length := (List.getElem?_eq_some_iff.mp e).1
  have hN : X.N[i]? = some X.N[i] := List.getElem?_eq_getElem (by omega)
  have hz : (x, X.N[i]) ∈ N0.zip X.N := List.mem_of_getElem? (i := i) (by rw [List.getElem?_zip_eq_some]; exact ⟨e, hN⟩)
  have q := List.all_eq_true.mp S.same _ hz
  simp only [Bool.or_eq_true, beq_iff_eq, Bool.not_eq_true'] at q
  rcases q with q | q
  · rw [hN, ← q]
  · have : (scope.names.any fun y => y.1 == x) = true := List.any_eq_true.mpr ⟨_, m, by simp⟩
    rw [this] at q; cases q
section
variable {X : Cx} {N0 T : List Str} {scope : Scope} {C : Addr} {fp : List Addr} {s : Shared} {H : Hp} {x : Str}
theorem glCO (fsc : Scope) (h : (relabelS scope fsc).names.lookup x = some .globalImplicit) (e : X.env.scope = fsc := by rfl) : Gl (cxCompO X N0 T scope C fp s H) x := by subst e; exact h
theorem visCO (fsc : Scope) (h : ((relabelS scope fsc).names.lookup x = some .local || (relabelS scope fsc).names.lookup x = some .cell || (relabelS scope fsc).names.lookup x = some .free) = true) (e : X.env.scope = fsc := by rfl) : Vis (cxCompO X N0 T scope C fp s H).env.scope x := by
  subst e
  simp only [Bool.or_eq_true, decide_eq_true_eq] at h
  rcases h with (h | h) | h
  · exact .inl h
  · exact .inr (.inl h)
  · exact .inr (.inr h)
theorem locCO (fsc : Scope) (h : ((relabelS scope fsc).names.lookup x = some .local || (relabelS scope fsc).names.lookup x = some .cell) = true) (e : X.env.scope = fsc := by rfl) : Loc (cxCompO X N0 T scope C fp s H).env.scope x := by
  subst e
  simp only [Bool.or_eq_true, decide_eq_true_eq] at h
  rcases h with h | h
  · exact .inl h
  · exact .inr h
theorem fnCO (fsc : Scope) (h : (ownC scope x || (relabelS scope fsc).names.lookup x = some .local) = true) (e : X.env.scope = fsc := by rfl) : (cxCompO X N0 T scope C fp s H).fn x = true ∨ (cxCompO X N0 T scope C fp s H).env.scope.names.lookup x = some .local := by
  subst e
  simp only [Bool.or_eq_true, decide_eq_true_eq] at h
  rcases h with h | h
  · exact .inl h
  · exact .inr h
end
/-! ### d.get(tuple), the program and the world named -/
theorem pe_getOW {X : Cx} {n : Nat} (P : Program) (w : World) (hr : Room n X.A) {o e : Expr} {td ty : TE} {apos cpos : Pos} (ho : PE X o td) (he : PE X e ty) (m : M1 X o "get" apos e cpos) (hP : X.prog = P := by rfl) (hw : X.w = w := by rfl) : PE X (.Call (.Attribute o "get" apos) [e] [] cpos) (tDGetO P w td ty) := by subst hP hw; exact pe_getO hr ho he m
theorem tDGetO_at (P : Program) (w : World) (td ty : TE) {σ : St} {H : Hp} {Q : VK} : tDGetO P w td ty σ H Q = td σ H fun x H1 => ∃ a kvs, x = .ref a ∧ DO P w H1 a kvs ∧ ty σ H1 fun y H2 => ∃ b k kvs', y = .ref b ∧ DO P w H2 a kvs' ∧ KeyO H2 k b ∧ Q ((valV kvs' k).getD .non) H2 := rfl
theorem tDisp1O_at (P : Program) (w : World) (tk tv : TE) {σ : St} {H : Hp} {Q : VK} : tDisp1O P w tk tv σ H Q = ∀ p, H p = none → ∀ u, DO P w (upd H p u) p [] → tk σ (upd H p u) fun y H1 => tv σ H1 fun z H2 => ∃ b k, y = .ref b ∧ KeyO H2 k b ∧ DO P w H2 p [] ∧ ∀ u', DO P w (upd H2 p u') p [(k, z)] → Q (.ref p) (upd H2 p u') := rfl
end L2

set_option Elab.async false
set_option linter.all false
set_option maxRecDepth 100000
set_option maxHeartbeats 4000000
section
open PySem PySem.Spec PyProof.Rows L2
seal L2.PE L2.PT L2.PW L2.PA L2.PS L2.PSs L2.PG L2.PGs L2.PSet L2.PI L2.PIfs L2.OpR L2.UnR L2.CallR L2.IxR L2.MtR L2.SlR L2.PO L2.PPs
local macro_rules | `(tactic| walk_at "rd1") => `(tactic| try simp only [tSeq_at, tPairs_nil, tPairs_cons, tNext_at, tIfS_at, tRet_at, tDrop_at, tAsg_at, gName_at, gNil_at, gCons_at, gTup_at, gSub_at, tVar_at, tC_at, tOp_at, tTest_at, tB_at, tAnd_at, tOr_at, tNot_at, tAndV_at, tIf_at, tCB_at, tCons_at, tNil_at, tTup_at, tLst_at, tCall_at, tBM_at, tBM0_at, tSl_at, tPart_at, tNoPart_at, tComp_at, tYes_at, ex_refs2, iEnum_at, ex_ref1, iList_at, iRng1_at, tFor_at, compK_at, rI0_at, rI_at, rAddA_int, rAddA_str, rAddA_ref, rMulB_int, rMulB_str, rIsB_at, rNotN_at, rStrI_at, rInt1_int, rInt1_bl, rListOf_at, rTupOf_at, rMin2_at, rSlL_at, rEqD_at, rNeD_at, rSortS_at, rIndexS_at, rLtA_int, rLtA_str, rInA_str, rInA_ref, rNotInA_str, rNotInA_ref, rLenA_str, rLenA_ref, rIxA_ref, rIxA_str, rSetL_at, rAppend_at, rIsT_at, rExtend_at, rEqA_int, rEqA_bl, rEqA_str, rNeA_int, rNeA_str, rNeA_bl, tyV_str, tyV_lst, L2.start, List.map_cons, List.map_nil, List.length_cons, List.length_nil, List.replicate, List.cons_append, List.nil_append, List.append_nil, List.getElem?_cons_zero, List.getElem?_cons_succ, List.set_cons_zero, List.set_cons_succ, Nat.reduceAdd, Nat.reduceSub, Option.some.injEq, exists_eq_left', exists_eq_left, V.int.injEq, V.ref.injEq, V.str.injEq, V.bl.injEq, ex_one, ex_two, ex_cons, ex_nil, and_true, true_and, decide_eq_true_eq, Bool.not_true, Bool.not_false, if_true, Bool.false_eq_true, if_false, ite_true, ite_false])
local macro_rules | `(tactic| walk_at "rd") => `(tactic| try simp only [rest_at, tSeq_at, tPairs_nil, tPairs_cons, tNext_at, tIfS_at, tRet_at, tDrop_at, tAsg_at, gName_at, gNil_at, gCons_at, gTup_at, gSub_at, tVar_at, tC_at, tOp_at, tTest_at, tB_at, tAnd_at, tOr_at, tNot_at, tAndV_at, tIf_at, tCB_at, tCons_at, tNil_at, tTup_at, tLst_at, tCall_at, tBM_at, tBM0_at, tSl_at, tPart_at, tNoPart_at, tComp_at, tYes_at, ex_refs2, iEnum_at, ex_ref1, iList_at, iRng1_at, tFor_at, compK_at, rI0_at, rI_at, rAddA_int, rAddA_str, rAddA_ref, rMulB_int, rMulB_str, rIsB_at, rNotN_at, rStrI_at, rInt1_int, rInt1_bl, rListOf_at, rTupOf_at, rMin2_at, rSlL_at, rEqD_at, rNeD_at, rSortS_at, rIndexS_at, rLtA_int, rLtA_str, rInA_str, rInA_ref, rNotInA_str, rNotInA_ref, rLenA_str, rLenA_ref, rIxA_ref, rIxA_str, rSetL_at, rAppend_at, rIsT_at, rExtend_at, rEqA_int, rEqA_bl, rEqA_str, rNeA_int, rNeA_str, rNeA_bl, tyV_str, tyV_lst, L2.start, List.map_cons, List.map_nil, List.length_cons, List.length_nil, List.replicate, List.cons_append, List.nil_append, List.append_nil, List.getElem?_cons_zero, List.getElem?_cons_succ, List.set_cons_zero, List.set_cons_succ, Nat.reduceAdd, Nat.reduceSub, Option.some.injEq, exists_eq_left', exists_eq_left, V.int.injEq, V.ref.injEq, V.str.injEq, V.bl.injEq, ex_one, ex_two, ex_cons, ex_nil, and_true, true_and, decide_eq_true_eq, Bool.not_true, Bool.not_false, if_true, Bool.false_eq_true, if_false, ite_true, ite_false])
local macro_rules | `(tactic| walk_at "nx") => `(tactic| ((first | rw [rest_at] | (dsimp only; rw [rest_at])); walk_at "rd1"))
local macro_rules | `(tactic| walk_at "lk") => `(tactic| repeat (first | exact lk_hit | exact lk_nil | rw [lk_miss (by decide +kernel)]))
local macro_rules | `(tactic| walk_at "pf") => `(tactic| repeat (first | rw [putF_hit] | rw [putF_nil] | rw [putF_miss (by decide +kernel)]))
namespace K75
open PySem L2
def top (i : Nat) : Stmt := PySem.Challenge.pw_usewarden_k75_rules_laid_together.main.body.getD i (.Pass ⟨0, 0, 0, 0⟩)
abbrev s_refuse_unlike : Stmt := top 5
theorem sc_refuse_unlike : FnScope ["one", "other"] ["one", "other"] (defScope s_refuse_unlike) := ⟨rfl, rfl, rfl, by decide +kernel, rfl, by decide +kernel, by decide +kernel⟩
theorem v_refuse_unlike_one : Vis (defScope s_refuse_unlike) "one" := Or.inl (by decide +kernel)
theorem v_refuse_unlike_other : Vis (defScope s_refuse_unlike) "other" := Or.inl (by decide +kernel)
abbrev s_ways_for : Stmt := top 6
theorem sc_ways_for : FnScope ["words", "places", "number", "room"] ["words", "places", "number", "room"] (defScope s_ways_for) := ⟨rfl, rfl, rfl, by decide +kernel, rfl, by decide +kernel, by decide +kernel⟩
theorem v_ways_for_words : Vis (defScope s_ways_for) "words" := Or.inl (by decide +kernel)
abbrev s_ways_by_room : Stmt := top 7
theorem sc_ways_by_room : FnScope ["rule", "words", "places", "place", "word", "ways", "number", "room"] ["rule", "words"] (defScope s_ways_by_room) := ⟨rfl, rfl, rfl, by decide +kernel, rfl, by decide +kernel, by decide +kernel⟩
theorem v_ways_by_room_rule : Vis (defScope s_ways_by_room) "rule" := Or.inl (by decide +kernel)
theorem v_ways_by_room_words : Vis (defScope s_ways_by_room) "words" := Or.inl (by decide +kernel)
theorem v_ways_by_room_places : Vis (defScope s_ways_by_room) "places" := Or.inl (by decide +kernel)
theorem l_ways_by_room_places : Loc (defScope s_ways_by_room) "places" := Or.inl (by decide +kernel)
theorem v_ways_by_room_place : Vis (defScope s_ways_by_room) "place" := Or.inl (by decide +kernel)
theorem l_ways_by_room_place : Loc (defScope s_ways_by_room) "place" := Or.inl (by decide +kernel)
theorem v_ways_by_room_word : Vis (defScope s_ways_by_room) "word" := Or.inl (by decide +kernel)
theorem l_ways_by_room_word : Loc (defScope s_ways_by_room) "word" := Or.inl (by decide +kernel)
theorem v_ways_by_room_ways : Vis (defScope s_ways_by_room) "ways" := Or.inl (by decide +kernel)
theorem l_ways_by_room_ways : Loc (defScope s_ways_by_room) "ways" := Or.inl (by decide +kernel)
theorem v_ways_by_room_number : Vis (defScope s_ways_by_room) "number" := Or.inl (by decide +kernel)
theorem l_ways_by_room_number : Loc (defScope s_ways_by_room) "number" := Or.inl (by decide +kernel)
theorem v_ways_by_room_room : Vis (defScope s_ways_by_room) "room" := Or.inl (by decide +kernel)
theorem l_ways_by_room_room : Loc (defScope s_ways_by_room) "room" := Or.inl (by decide +kernel)
theorem gl_ways_by_room_enumerate : (defScope s_ways_by_room).names.lookup ("enumerate" : Str) = some .globalImplicit := by decide +kernel
theorem gl_ways_by_room_ways_for : (defScope s_ways_by_room).names.lookup ("ways_for" : Str) = some .globalImplicit := by decide +kernel

abbrev s_words_of_all : Stmt := top 11
theorem sc_words_of_all : FnScope ["rules", "words", "rule"] ["rules"] (defScope s_words_of_all) := ⟨rfl, rfl, rfl, by decide +kernel, rfl, by decide +kernel, by decide +kernel⟩
theorem v_words_of_all_rules : Vis (defScope s_words_of_all) "rules" := Or.inl (by decide +kernel)
theorem v_words_of_all_words : Vis (defScope s_words_of_all) "words" := Or.inl (by decide +kernel)
theorem l_words_of_all_words : Loc (defScope s_words_of_all) "words" := Or.inl (by decide +kernel)
theorem v_words_of_all_rule : Vis (defScope s_words_of_all) "rule" := Or.inl (by decide +kernel)
theorem l_words_of_all_rule : Loc (defScope s_words_of_all) "rule" := Or.inl (by decide +kernel)
theorem gl_words_of_all_set : (defScope s_words_of_all).names.lookup ("set" : Str) = some .globalImplicit := by decide +kernel
theorem gl_words_of_all_sorted : (defScope s_words_of_all).names.lookup ("sorted" : Str) = some .globalImplicit := by decide +kernel

abbrev s_rooms_behind : Stmt := top 12
theorem sc_rooms_behind : FnScope ["ways", "here", "width"] ["ways", "here", "width"] (defScope s_rooms_behind) := ⟨rfl, rfl, rfl, by decide +kernel, rfl, by decide +kernel, by decide +kernel⟩
theorem v_rooms_behind_width : Vis (defScope s_rooms_behind) "width" := Or.inl (by decide +kernel)
theorem gl_rooms_behind_range : (defScope s_rooms_behind).names.lookup ("range" : Str) = some .globalImplicit := by decide +kernel

abbrev s_blame_of : Stmt := top 13
theorem sc_blame_of : FnScope ["rooms"] ["rooms"] (defScope s_blame_of) := ⟨rfl, rfl, rfl, by decide +kernel, rfl, by decide +kernel, by decide +kernel⟩
theorem v_blame_of_rooms : Vis (defScope s_blame_of) "rooms" := Or.inl (by decide +kernel)
abbrev s_laid_by : Stmt := top 14
theorem sc_laid_by : FnScope ["ways", "width", "first", "order", "numbers", "rooms", "blames", "behind", "there"] ["ways", "width"] (defScope s_laid_by) := ⟨rfl, rfl, rfl, by decide +kernel, rfl, by decide +kernel, by decide +kernel⟩
theorem v_laid_by_ways : Vis (defScope s_laid_by) "ways" := Or.inl (by decide +kernel)
theorem v_laid_by_width : Vis (defScope s_laid_by) "width" := Or.inl (by decide +kernel)
theorem v_laid_by_first : Vis (defScope s_laid_by) "first" := Or.inl (by decide +kernel)
theorem l_laid_by_first : Loc (defScope s_laid_by) "first" := Or.inl (by decide +kernel)
theorem v_laid_by_order : Vis (defScope s_laid_by) "order" := Or.inl (by decide +kernel)
theorem l_laid_by_order : Loc (defScope s_laid_by) "order" := Or.inl (by decide +kernel)
theorem v_laid_by_numbers : Vis (defScope s_laid_by) "numbers" := Or.inr (Or.inl (by decide +kernel))
theorem l_laid_by_numbers : Loc (defScope s_laid_by) "numbers" := Or.inr (by decide +kernel)
theorem v_laid_by_rooms : Vis (defScope s_laid_by) "rooms" := Or.inl (by decide +kernel)
theorem l_laid_by_rooms : Loc (defScope s_laid_by) "rooms" := Or.inl (by decide +kernel)
theorem v_laid_by_blames : Vis (defScope s_laid_by) "blames" := Or.inl (by decide +kernel)
theorem l_laid_by_blames : Loc (defScope s_laid_by) "blames" := Or.inl (by decide +kernel)
theorem v_laid_by_behind : Vis (defScope s_laid_by) "behind" := Or.inl (by decide +kernel)
theorem l_laid_by_behind : Loc (defScope s_laid_by) "behind" := Or.inl (by decide +kernel)
theorem v_laid_by_there : Vis (defScope s_laid_by) "there" := Or.inl (by decide +kernel)
theorem l_laid_by_there : Loc (defScope s_laid_by) "there" := Or.inl (by decide +kernel)
theorem gl_laid_by_MOST_ROOMS : (defScope s_laid_by).names.lookup ("MOST_ROOMS" : Str) = some .globalImplicit := by decide +kernel
theorem gl_laid_by_len : (defScope s_laid_by).names.lookup ("len" : Str) = some .globalImplicit := by decide +kernel
theorem gl_laid_by_rooms_behind : (defScope s_laid_by).names.lookup ("rooms_behind" : Str) = some .globalImplicit := by decide +kernel
theorem gl_laid_by_tuple : (defScope s_laid_by).names.lookup ("tuple" : Str) = some .globalImplicit := by decide +kernel

abbrev s_laid_rules : Stmt := top 15
theorem sc_laid_rules : FnScope ["rules", "bare", "rule", "words", "laid"] ["rules"] (defScope s_laid_rules) := ⟨rfl, rfl, rfl, by decide +kernel, rfl, by decide +kernel, by decide +kernel⟩
theorem v_laid_rules_rules : Vis (defScope s_laid_rules) "rules" := Or.inl (by decide +kernel)
theorem v_laid_rules_bare : Vis (defScope s_laid_rules) "bare" := Or.inl (by decide +kernel)
theorem k_laid_rules_bare : (defScope s_laid_rules).names.lookup ("bare" : Str) = some .local := by decide +kernel
theorem v_laid_rules_rule : Vis (defScope s_laid_rules) "rule" := Or.inl (by decide +kernel)
theorem l_laid_rules_rule : Loc (defScope s_laid_rules) "rule" := Or.inl (by decide +kernel)
theorem v_laid_rules_words : Vis (defScope s_laid_rules) "words" := Or.inr (Or.inl (by decide +kernel))
theorem l_laid_rules_words : Loc (defScope s_laid_rules) "words" := Or.inr (by decide +kernel)
theorem v_laid_rules_laid : Vis (defScope s_laid_rules) "laid" := Or.inl (by decide +kernel)
theorem l_laid_rules_laid : Loc (defScope s_laid_rules) "laid" := Or.inl (by decide +kernel)
theorem gl_laid_rules_MOST_WORDS : (defScope s_laid_rules).names.lookup ("MOST_WORDS" : Str) = some .globalImplicit := by decide +kernel
theorem gl_laid_rules_laid_by : (defScope s_laid_rules).names.lookup ("laid_by" : Str) = some .globalImplicit := by decide +kernel
theorem gl_laid_rules_len : (defScope s_laid_rules).names.lookup ("len" : Str) = some .globalImplicit := by decide +kernel
theorem gl_laid_rules_refuse_unlike : (defScope s_laid_rules).names.lookup ("refuse_unlike" : Str) = some .globalImplicit := by decide +kernel
theorem gl_laid_rules_words_of_all : (defScope s_laid_rules).names.lookup ("words_of_all" : Str) = some .globalImplicit := by decide +kernel

abbrev s_law_cell_at : Stmt := top 17
theorem sc_law_cell_at : FnScope ["_law_script", "_law_k"] ["_law_script", "_law_k"] (defScope s_law_cell_at) := ⟨rfl, rfl, rfl, by decide +kernel, rfl, by decide +kernel, by decide +kernel⟩
theorem v_law_cell_at__law_script : Vis (defScope s_law_cell_at) "_law_script" := Or.inl (by decide +kernel)
theorem v_law_cell_at__law_k : Vis (defScope s_law_cell_at) "_law_k" := Or.inl (by decide +kernel)
theorem gl_law_cell_at_len : (defScope s_law_cell_at).names.lookup ("len" : Str) = some .globalImplicit := by decide +kernel

abbrev s_law_mixed : Stmt := top 18
theorem sc_law_mixed : FnScope ["_law_cell", "_law_many", "_law_number", "_law_found", "_law_k"] ["_law_cell", "_law_many"] (defScope s_law_mixed) := ⟨rfl, rfl, rfl, by decide +kernel, rfl, by decide +kernel, by decide +kernel⟩
theorem v_law_mixed__law_cell : Vis (defScope s_law_mixed) "_law_cell" := Or.inl (by decide +kernel)
theorem v_law_mixed__law_many : Vis (defScope s_law_mixed) "_law_many" := Or.inl (by decide +kernel)
theorem v_law_mixed__law_number : Vis (defScope s_law_mixed) "_law_number" := Or.inl (by decide +kernel)
theorem l_law_mixed__law_number : Loc (defScope s_law_mixed) "_law_number" := Or.inl (by decide +kernel)
theorem v_law_mixed__law_found : Vis (defScope s_law_mixed) "_law_found" := Or.inl (by decide +kernel)
theorem l_law_mixed__law_found : Loc (defScope s_law_mixed) "_law_found" := Or.inl (by decide +kernel)
theorem l_law_mixed__law_k : Loc (defScope s_law_mixed) "_law_k" := Or.inl (by decide +kernel)
theorem gl_law_mixed_range : (defScope s_law_mixed).names.lookup ("range" : Str) = some .globalImplicit := by decide +kernel

abbrev s_law_words : Stmt := top 19
theorem sc_law_words : FnScope ["_law_cell", "_law_many", "_law_letters", "_law_xs", "_law_size", "_law_at", "_law_words_here", "_law_k", "_law_word", "_law_j"] ["_law_cell", "_law_many"] (defScope s_law_words) := ⟨rfl, rfl, rfl, by decide +kernel, rfl, by decide +kernel, by decide +kernel⟩
theorem v_law_words__law_cell : Vis (defScope s_law_words) "_law_cell" := Or.inl (by decide +kernel)
theorem v_law_words__law_many : Vis (defScope s_law_words) "_law_many" := Or.inl (by decide +kernel)
theorem v_law_words__law_letters : Vis (defScope s_law_words) "_law_letters" := Or.inl (by decide +kernel)
theorem l_law_words__law_letters : Loc (defScope s_law_words) "_law_letters" := Or.inl (by decide +kernel)
theorem v_law_words__law_xs : Vis (defScope s_law_words) "_law_xs" := Or.inl (by decide +kernel)
theorem l_law_words__law_xs : Loc (defScope s_law_words) "_law_xs" := Or.inl (by decide +kernel)
theorem v_law_words__law_size : Vis (defScope s_law_words) "_law_size" := Or.inl (by decide +kernel)
theorem l_law_words__law_size : Loc (defScope s_law_words) "_law_size" := Or.inl (by decide +kernel)
theorem v_law_words__law_at : Vis (defScope s_law_words) "_law_at" := Or.inl (by decide +kernel)
theorem l_law_words__law_at : Loc (defScope s_law_words) "_law_at" := Or.inl (by decide +kernel)
theorem v_law_words__law_words_here : Vis (defScope s_law_words) "_law_words_here" := Or.inl (by decide +kernel)
theorem l_law_words__law_words_here : Loc (defScope s_law_words) "_law_words_here" := Or.inl (by decide +kernel)
theorem v_law_words__law_k : Vis (defScope s_law_words) "_law_k" := Or.inl (by decide +kernel)
theorem l_law_words__law_k : Loc (defScope s_law_words) "_law_k" := Or.inl (by decide +kernel)
theorem v_law_words__law_word : Vis (defScope s_law_words) "_law_word" := Or.inl (by decide +kernel)
theorem l_law_words__law_word : Loc (defScope s_law_words) "_law_word" := Or.inl (by decide +kernel)
theorem v_law_words__law_j : Vis (defScope s_law_words) "_law_j" := Or.inl (by decide +kernel)
theorem l_law_words__law_j : Loc (defScope s_law_words) "_law_j" := Or.inl (by decide +kernel)
theorem gl_law_words__law_mixed : (defScope s_law_words).names.lookup ("_law_mixed" : Str) = some .globalImplicit := by decide +kernel
theorem gl_law_words_int : (defScope s_law_words).names.lookup ("int" : Str) = some .globalImplicit := by decide +kernel
theorem gl_law_words_range : (defScope s_law_words).names.lookup ("range" : Str) = some .globalImplicit := by decide +kernel

abbrev s_law_way : Stmt := top 20
theorem sc_law_way : FnScope ["_law_number", "_law_share", "_law_many"] ["_law_number", "_law_share", "_law_many"] (defScope s_law_way) := ⟨rfl, rfl, rfl, by decide +kernel, rfl, by decide +kernel, by decide +kernel⟩
theorem v_law_way__law_number : Vis (defScope s_law_way) "_law_number" := Or.inl (by decide +kernel)
theorem v_law_way__law_share : Vis (defScope s_law_way) "_law_share" := Or.inl (by decide +kernel)
theorem v_law_way__law_many : Vis (defScope s_law_way) "_law_many" := Or.inl (by decide +kernel)
abbrev s_law_rooms : Stmt := top 21
theorem sc_law_rooms : FnScope ["_law_cells", "_law_size", "_law_many", "_law_cell", "_law_share", "_law_xs", "_law_k"] ["_law_cells", "_law_size", "_law_many", "_law_cell"] (defScope s_law_rooms) := ⟨rfl, rfl, rfl, by decide +kernel, rfl, by decide +kernel, by decide +kernel⟩
theorem v_law_rooms__law_cells : Vis (defScope s_law_rooms) "_law_cells" := Or.inl (by decide +kernel)
theorem v_law_rooms__law_size : Vis (defScope s_law_rooms) "_law_size" := Or.inr (Or.inl (by decide +kernel))
theorem v_law_rooms__law_many : Vis (defScope s_law_rooms) "_law_many" := Or.inr (Or.inl (by decide +kernel))
theorem v_law_rooms__law_cell : Vis (defScope s_law_rooms) "_law_cell" := Or.inl (by decide +kernel)
theorem l_law_rooms__law_share : Loc (defScope s_law_rooms) "_law_share" := Or.inr (by decide +kernel)
theorem v_law_rooms__law_xs : Vis (defScope s_law_rooms) "_law_xs" := Or.inr (Or.inl (by decide +kernel))
theorem l_law_rooms__law_xs : Loc (defScope s_law_rooms) "_law_xs" := Or.inr (by decide +kernel)
theorem v_law_rooms__law_k : Vis (defScope s_law_rooms) "_law_k" := Or.inl (by decide +kernel)
theorem l_law_rooms__law_k : Loc (defScope s_law_rooms) "_law_k" := Or.inl (by decide +kernel)
theorem gl_law_rooms__law_mixed : (defScope s_law_rooms).names.lookup ("_law_mixed" : Str) = some .globalImplicit := by decide +kernel
theorem gl_law_rooms_len : (defScope s_law_rooms).names.lookup ("len" : Str) = some .globalImplicit := by decide +kernel
theorem gl_law_rooms_min : (defScope s_law_rooms).names.lookup ("min" : Str) = some .globalImplicit := by decide +kernel
theorem gl_law_rooms_range : (defScope s_law_rooms).names.lookup ("range" : Str) = some .globalImplicit := by decide +kernel

abbrev s_law_rules : Stmt := top 22
theorem sc_law_rules : FnScope ["_law_script", "_law_many", "_law_sides", "_law_words_here", "_law_names", "_law_rules_here", "_law_k", "_law_head", "_law_step", "_law_some", "_law_size", "_law_rooms_here"] ["_law_script"] (defScope s_law_rules) := ⟨rfl, rfl, rfl, by decide +kernel, rfl, by decide +kernel, by decide +kernel⟩
theorem v_law_rules__law_script : Vis (defScope s_law_rules) "_law_script" := Or.inr (Or.inl (by decide +kernel))
theorem v_law_rules__law_many : Vis (defScope s_law_rules) "_law_many" := Or.inl (by decide +kernel)
theorem l_law_rules__law_many : Loc (defScope s_law_rules) "_law_many" := Or.inl (by decide +kernel)
theorem v_law_rules__law_sides : Vis (defScope s_law_rules) "_law_sides" := Or.inl (by decide +kernel)
theorem l_law_rules__law_sides : Loc (defScope s_law_rules) "_law_sides" := Or.inl (by decide +kernel)
theorem v_law_rules__law_words_here : Vis (defScope s_law_rules) "_law_words_here" := Or.inr (Or.inl (by decide +kernel))
theorem l_law_rules__law_words_here : Loc (defScope s_law_rules) "_law_words_here" := Or.inr (by decide +kernel)
theorem v_law_rules__law_names : Vis (defScope s_law_rules) "_law_names" := Or.inl (by decide +kernel)
theorem l_law_rules__law_names : Loc (defScope s_law_rules) "_law_names" := Or.inl (by decide +kernel)
theorem v_law_rules__law_rules_here : Vis (defScope s_law_rules) "_law_rules_here" := Or.inl (by decide +kernel)
theorem l_law_rules__law_rules_here : Loc (defScope s_law_rules) "_law_rules_here" := Or.inl (by decide +kernel)
theorem v_law_rules__law_k : Vis (defScope s_law_rules) "_law_k" := Or.inl (by decide +kernel)
theorem l_law_rules__law_k : Loc (defScope s_law_rules) "_law_k" := Or.inl (by decide +kernel)
theorem v_law_rules__law_head : Vis (defScope s_law_rules) "_law_head" := Or.inl (by decide +kernel)
theorem l_law_rules__law_head : Loc (defScope s_law_rules) "_law_head" := Or.inl (by decide +kernel)
theorem v_law_rules__law_step : Vis (defScope s_law_rules) "_law_step" := Or.inl (by decide +kernel)
theorem l_law_rules__law_step : Loc (defScope s_law_rules) "_law_step" := Or.inl (by decide +kernel)
theorem v_law_rules__law_some : Vis (defScope s_law_rules) "_law_some" := Or.inl (by decide +kernel)
theorem l_law_rules__law_some : Loc (defScope s_law_rules) "_law_some" := Or.inl (by decide +kernel)
theorem v_law_rules__law_size : Vis (defScope s_law_rules) "_law_size" := Or.inl (by decide +kernel)
theorem l_law_rules__law_size : Loc (defScope s_law_rules) "_law_size" := Or.inl (by decide +kernel)
theorem v_law_rules__law_rooms_here : Vis (defScope s_law_rules) "_law_rooms_here" := Or.inl (by decide +kernel)
theorem l_law_rules__law_rooms_here : Loc (defScope s_law_rules) "_law_rooms_here" := Or.inl (by decide +kernel)
theorem gl_law_rules__law_cell_at : (defScope s_law_rules).names.lookup ("_law_cell_at" : Str) = some .globalImplicit := by decide +kernel
theorem gl_law_rules__law_rooms : (defScope s_law_rules).names.lookup ("_law_rooms" : Str) = some .globalImplicit := by decide +kernel
theorem gl_law_rules__law_words : (defScope s_law_rules).names.lookup ("_law_words" : Str) = some .globalImplicit := by decide +kernel
theorem gl_law_rules_len : (defScope s_law_rules).names.lookup ("len" : Str) = some .globalImplicit := by decide +kernel
theorem gl_law_rules_range : (defScope s_law_rules).names.lookup ("range" : Str) = some .globalImplicit := by decide +kernel
theorem gl_law_rules_sorted : (defScope s_law_rules).names.lookup ("sorted" : Str) = some .globalImplicit := by decide +kernel

abbrev s_law_to : Stmt := top 23
theorem sc_law_to : FnScope ["_law_rule", "_law_room", "_law_word"] ["_law_rule", "_law_room", "_law_word"] (defScope s_law_to) := ⟨rfl, rfl, rfl, by decide +kernel, rfl, by decide +kernel, by decide +kernel⟩
theorem v_law_to__law_rule : Vis (defScope s_law_to) "_law_rule" := Or.inl (by decide +kernel)
theorem v_law_to__law_room : Vis (defScope s_law_to) "_law_room" := Or.inl (by decide +kernel)
theorem v_law_to__law_word : Vis (defScope s_law_to) "_law_word" := Or.inl (by decide +kernel)
abbrev s_law_is_table : Stmt := top 24
theorem sc_law_is_table : FnScope ["_law_found", "_law_words_here", "_law_room", "_law_to_here"] ["_law_found", "_law_words_here"] (defScope s_law_is_table) := ⟨rfl, rfl, rfl, by decide +kernel, rfl, by decide +kernel, by decide +kernel⟩
theorem v_law_is_table__law_found : Vis (defScope s_law_is_table) "_law_found" := Or.inl (by decide +kernel)
theorem v_law_is_table__law_words_here : Vis (defScope s_law_is_table) "_law_words_here" := Or.inl (by decide +kernel)
theorem v_law_is_table__law_room : Vis (defScope s_law_is_table) "_law_room" := Or.inl (by decide +kernel)
theorem l_law_is_table__law_room : Loc (defScope s_law_is_table) "_law_room" := Or.inl (by decide +kernel)
theorem v_law_is_table__law_to_here : Vis (defScope s_law_is_table) "_law_to_here" := Or.inl (by decide +kernel)
theorem l_law_is_table__law_to_here : Loc (defScope s_law_is_table) "_law_to_here" := Or.inl (by decide +kernel)
theorem gl_law_is_table_bool : (defScope s_law_is_table).names.lookup ("bool" : Str) = some .globalImplicit := by decide +kernel
theorem gl_law_is_table_int : (defScope s_law_is_table).names.lookup ("int" : Str) = some .globalImplicit := by decide +kernel
theorem gl_law_is_table_isinstance : (defScope s_law_is_table).names.lookup ("isinstance" : Str) = some .globalImplicit := by decide +kernel
theorem gl_law_is_table_len : (defScope s_law_is_table).names.lookup ("len" : Str) = some .globalImplicit := by decide +kernel
theorem gl_law_is_table_list : (defScope s_law_is_table).names.lookup ("list" : Str) = some .globalImplicit := by decide +kernel

abbrev s_law_due : Stmt := top 25
theorem sc_law_due : FnScope ["_law_rules_here", "_law_words_here", "_law_numbers", "_law_lists", "_law_rooms_here", "_law_blames", "_law_r", "_law_room", "_law_blame", "_law_word", "_law_to_here"] ["_law_rules_here", "_law_words_here"] (defScope s_law_due) := ⟨rfl, rfl, rfl, by decide +kernel, rfl, by decide +kernel, by decide +kernel⟩
theorem v_law_due__law_rules_here : Vis (defScope s_law_due) "_law_rules_here" := Or.inr (Or.inl (by decide +kernel))
theorem v_law_due__law_words_here : Vis (defScope s_law_due) "_law_words_here" := Or.inl (by decide +kernel)
theorem v_law_due__law_numbers : Vis (defScope s_law_due) "_law_numbers" := Or.inl (by decide +kernel)
theorem l_law_due__law_numbers : Loc (defScope s_law_due) "_law_numbers" := Or.inl (by decide +kernel)
theorem v_law_due__law_lists : Vis (defScope s_law_due) "_law_lists" := Or.inr (Or.inl (by decide +kernel))
theorem l_law_due__law_lists : Loc (defScope s_law_due) "_law_lists" := Or.inr (by decide +kernel)
theorem v_law_due__law_rooms_here : Vis (defScope s_law_due) "_law_rooms_here" := Or.inl (by decide +kernel)
theorem l_law_due__law_rooms_here : Loc (defScope s_law_due) "_law_rooms_here" := Or.inl (by decide +kernel)
theorem v_law_due__law_blames : Vis (defScope s_law_due) "_law_blames" := Or.inl (by decide +kernel)
theorem l_law_due__law_blames : Loc (defScope s_law_due) "_law_blames" := Or.inl (by decide +kernel)
theorem v_law_due__law_r : Vis (defScope s_law_due) "_law_r" := Or.inr (Or.inl (by decide +kernel))
theorem l_law_due__law_r : Loc (defScope s_law_due) "_law_r" := Or.inr (by decide +kernel)
theorem v_law_due__law_room : Vis (defScope s_law_due) "_law_room" := Or.inl (by decide +kernel)
theorem l_law_due__law_room : Loc (defScope s_law_due) "_law_room" := Or.inl (by decide +kernel)
theorem v_law_due__law_blame : Vis (defScope s_law_due) "_law_blame" := Or.inl (by decide +kernel)
theorem l_law_due__law_blame : Loc (defScope s_law_due) "_law_blame" := Or.inl (by decide +kernel)
theorem l_law_due__law_word : Loc (defScope s_law_due) "_law_word" := Or.inr (by decide +kernel)
theorem v_law_due__law_to_here : Vis (defScope s_law_due) "_law_to_here" := Or.inl (by decide +kernel)
theorem k_law_due__law_to_here : (defScope s_law_due).names.lookup ("_law_to_here" : Str) = some .local := by decide +kernel
theorem gl_law_due_len : (defScope s_law_due).names.lookup ("len" : Str) = some .globalImplicit := by decide +kernel
theorem gl_law_due_range : (defScope s_law_due).names.lookup ("range" : Str) = some .globalImplicit := by decide +kernel
theorem gl_law_due_tuple : (defScope s_law_due).names.lookup ("tuple" : Str) = some .globalImplicit := by decide +kernel

abbrev s_law_told : Stmt := top 26
theorem sc_law_told : FnScope ["_law_found", "_law_sides", "_law_words_here", "_law_due_here", "_law_rule", "_law_blames"] ["_law_found", "_law_sides", "_law_words_here", "_law_due_here"] (defScope s_law_told) := ⟨rfl, rfl, rfl, by decide +kernel, rfl, by decide +kernel, by decide +kernel⟩
theorem v_law_told__law_found : Vis (defScope s_law_told) "_law_found" := Or.inl (by decide +kernel)
theorem v_law_told__law_sides : Vis (defScope s_law_told) "_law_sides" := Or.inl (by decide +kernel)
theorem v_law_told__law_words_here : Vis (defScope s_law_told) "_law_words_here" := Or.inl (by decide +kernel)
theorem v_law_told__law_due_here : Vis (defScope s_law_told) "_law_due_here" := Or.inl (by decide +kernel)
theorem v_law_told__law_rule : Vis (defScope s_law_told) "_law_rule" := Or.inl (by decide +kernel)
theorem l_law_told__law_rule : Loc (defScope s_law_told) "_law_rule" := Or.inl (by decide +kernel)
theorem v_law_told__law_blames : Vis (defScope s_law_told) "_law_blames" := Or.inl (by decide +kernel)
theorem l_law_told__law_blames : Loc (defScope s_law_told) "_law_blames" := Or.inl (by decide +kernel)
theorem gl_law_told__law_is_table : (defScope s_law_told).names.lookup ("_law_is_table" : Str) = some .globalImplicit := by decide +kernel
theorem gl_law_told_int : (defScope s_law_told).names.lookup ("int" : Str) = some .globalImplicit := by decide +kernel
theorem gl_law_told_isinstance : (defScope s_law_told).names.lookup ("isinstance" : Str) = some .globalImplicit := by decide +kernel
theorem gl_law_told_len : (defScope s_law_told).names.lookup ("len" : Str) = some .globalImplicit := by decide +kernel
theorem gl_law_told_list : (defScope s_law_told).names.lookup ("list" : Str) = some .globalImplicit := by decide +kernel
theorem gl_law_told_tuple : (defScope s_law_told).names.lookup ("tuple" : Str) = some .globalImplicit := by decide +kernel

abbrev s_law_copy : Stmt := top 27
theorem sc_law_copy : FnScope ["_law_rules_here"] ["_law_rules_here"] (defScope s_law_copy) := ⟨rfl, rfl, rfl, by decide +kernel, rfl, by decide +kernel, by decide +kernel⟩
theorem v_law_copy__law_rules_here : Vis (defScope s_law_copy) "_law_rules_here" := Or.inl (by decide +kernel)
abbrev s_law : Stmt := top 28
theorem sc_law : FnScope ["_law_script", "_law_rules_here", "_law_every", "_law_name", "_law_rule", "_law_words_here", "_law_due_here", "_law_handed", "_law_found", "_law_room", "_law_blame", "_law_sizes", "_law_again"] ["_law_script"] (defScope s_law) := ⟨rfl, rfl, rfl, by decide +kernel, rfl, by decide +kernel, by decide +kernel⟩
theorem v_law__law_script : Vis (defScope s_law) "_law_script" := Or.inl (by decide +kernel)
theorem v_law__law_rules_here : Vis (defScope s_law) "_law_rules_here" := Or.inl (by decide +kernel)
theorem l_law__law_rules_here : Loc (defScope s_law) "_law_rules_here" := Or.inl (by decide +kernel)
theorem v_law__law_every : Vis (defScope s_law) "_law_every" := Or.inl (by decide +kernel)
theorem l_law__law_every : Loc (defScope s_law) "_law_every" := Or.inl (by decide +kernel)
theorem l_law__law_name : Loc (defScope s_law) "_law_name" := Or.inl (by decide +kernel)
theorem v_law__law_rule : Vis (defScope s_law) "_law_rule" := Or.inl (by decide +kernel)
theorem l_law__law_rule : Loc (defScope s_law) "_law_rule" := Or.inl (by decide +kernel)
theorem v_law__law_words_here : Vis (defScope s_law) "_law_words_here" := Or.inl (by decide +kernel)
theorem l_law__law_words_here : Loc (defScope s_law) "_law_words_here" := Or.inl (by decide +kernel)
theorem v_law__law_due_here : Vis (defScope s_law) "_law_due_here" := Or.inl (by decide +kernel)
theorem l_law__law_due_here : Loc (defScope s_law) "_law_due_here" := Or.inl (by decide +kernel)
theorem v_law__law_handed : Vis (defScope s_law) "_law_handed" := Or.inl (by decide +kernel)
theorem l_law__law_handed : Loc (defScope s_law) "_law_handed" := Or.inl (by decide +kernel)
theorem v_law__law_found : Vis (defScope s_law) "_law_found" := Or.inl (by decide +kernel)
theorem l_law__law_found : Loc (defScope s_law) "_law_found" := Or.inl (by decide +kernel)
theorem v_law__law_room : Vis (defScope s_law) "_law_room" := Or.inl (by decide +kernel)
theorem l_law__law_room : Loc (defScope s_law) "_law_room" := Or.inl (by decide +kernel)
theorem v_law__law_blame : Vis (defScope s_law) "_law_blame" := Or.inl (by decide +kernel)
theorem l_law__law_blame : Loc (defScope s_law) "_law_blame" := Or.inl (by decide +kernel)
theorem v_law__law_sizes : Vis (defScope s_law) "_law_sizes" := Or.inl (by decide +kernel)
theorem k_law__law_sizes : (defScope s_law).names.lookup ("_law_sizes" : Str) = some .local := by decide +kernel
theorem v_law__law_again : Vis (defScope s_law) "_law_again" := Or.inl (by decide +kernel)
theorem l_law__law_again : Loc (defScope s_law) "_law_again" := Or.inl (by decide +kernel)
theorem gl_law__law_copy : (defScope s_law).names.lookup ("_law_copy" : Str) = some .globalImplicit := by decide +kernel
theorem gl_law__law_due : (defScope s_law).names.lookup ("_law_due" : Str) = some .globalImplicit := by decide +kernel
theorem gl_law__law_rules : (defScope s_law).names.lookup ("_law_rules" : Str) = some .globalImplicit := by decide +kernel
theorem gl_law__law_told : (defScope s_law).names.lookup ("_law_told" : Str) = some .globalImplicit := by decide +kernel
theorem gl_law_laid_rules : (defScope s_law).names.lookup ("laid_rules" : Str) = some .globalImplicit := by decide +kernel
theorem gl_law_len : (defScope s_law).names.lookup ("len" : Str) = some .globalImplicit := by decide +kernel
theorem gl_law_set : (defScope s_law).names.lookup ("set" : Str) = some .globalImplicit := by decide +kernel
theorem gl_law_sorted : (defScope s_law).names.lookup ("sorted" : Str) = some .globalImplicit := by decide +kernel

/-! ### what the law draws: cells, mixed numbers, words, rules -/
abbrev letters : Str := "abcdefghijklmnopqrstuvwxyz"
def spLaw (K : PySem.W.Frag) : Sp := fun vs H Q _ => ∃ (a : Addr) (ns : List Int), vs = [.ref a] ∧ SqL K H a (ns.map V.int) ∧ ns.length ≤ 63 ∧ ∀ H', Q (.bl true) H'
def spCell (K : PySem.W.Frag) : Sp := fun vs H Q _ => ∃ (a : Addr) (ns : List Int) (k : Int), vs = [.ref a, .int k] ∧ SqL K H a (ns.map V.int) ∧ 0 ≤ k ∧ Q (.int (ns.getD k.toNat 0)) H
def spMixed : Sp := fun vs H Q _ => ∃ (c n : Int), vs = [.int c, .int n] ∧ 0 ≤ n ∧ n ≤ 100000 ∧ ∀ (p : Addr) (H' : Hp) (ms : List Int), Same H H' → H p = none → H' p = some (.lst (ms.map V.int)) → (ms.length : Int) = n → (∀ m ∈ ms, 0 ≤ m ∧ m < 2147483647) → Q (.ref p) H'
def wayV : Option Nat → V
  | none => .non
  | some n => .int n
def spWay : Sp := fun vs H Q _ => ∃ (m s n : Int), vs = [.int m, .int s, .int n] ∧ 0 < s ∧ s < 1073741824 ∧ 0 < n ∧ n < 1073741824 ∧ ∀ o : Option Nat, (∀ k, o = some k → (k : Int) < n) → Q (wayV o) H
theorem len_app1 (x : Str) (c : Nat) : (x ++ (⟨#[c]⟩ : Str)).length = x.length + 1 := by rw [Str.length_append]; rfl
section
variable {P : Program} {w : World} {K : PySem.W.Frag} {mg : Str → Option Value} {base : Heap}
theorem ok_cell (D : DefAt K mg "_law_cell_at" s_law_cell_at) (z_len : mg "len" = none) : Cal P w K mg base 1 "_law_cell_at" ["_law_script", "_law_k"] (spCell K) := by
  refine D.cal sc_law_cell_at (fun _ _ _ _ _ _ us hl => match us, hl with | [_, _], _ => rfl) (fun vs H Q E h => by obtain ⟨a, ns, k, rfl, _⟩ := h; rfl) (fun f cdv A outer s H vs Q E hr h => ?_)
  obtain ⟨a, ns, k, rfl, hS, h0, q⟩ := h
  refine ⟨_, (pss_cons (ps_if (pt_cmpR op_ltA (pv 1 (hv := v_law_cell_at__law_k)) (pe_blt (call_lenK K) z_len bt_len (pa_cons (pv 0 (hv := v_law_cell_at__law_script)) pa_nil) (hg := gl_law_cell_at_len)) (nomark _)) (pss_one (ps_ret (pe_ix (ix_K K) (pv 0 (hv := v_law_cell_at__law_script)) (pv 1 (hv := v_law_cell_at__law_k)) (fun _ _ => rfl)))) pss_nil)
      (pss_one (ps_ret pe_int))), ?_⟩
  walk_at "rd"
  refine ⟨_, .inl hS, ite2 (fun c => ?_) (fun c => ?_)⟩
  · rw [List.length_map] at c
    refine ⟨_, .int (ns.getD k.toNat 0), .inl hS, at_map h0 ?_, q⟩
    rw [List.getD_eq_getElem?_getD, List.getElem?_eq_getElem (by omega)]; rfl
  · rw [List.length_map] at c
    have e : ns.getD k.toNat 0 = 0 := by
      rw [List.getD_eq_getElem?_getD, List.getElem?_eq_none (by omega)]; rfl
    rw [e] at q; exact q
theorem ok_mixed (D : DefAt K mg "_law_mixed" s_law_mixed) (z_range : mg "range" = none) : Cal P w K mg base 1 "_law_mixed" ["_law_cell", "_law_many"] spMixed := by
  refine D.cal sc_law_mixed (fun _ _ _ _ _ _ us hl => match us, hl with | [_, _], _ => rfl) (fun vs H Q E h => by obtain ⟨c, n, rfl, _⟩ := h; rfl) (fun f cdv A outer s H vs Q E hr h => ?_)
  obtain ⟨c, n, rfl, h0, h1, q⟩ := h
  refine ⟨_, (pss_cons (ps_let 2 sc_law_mixed.nd (pe_op op_addA pe_int (pe_op op_mod (pv 0 (hv := v_law_mixed__law_cell)) pe_int)) (hx := l_law_mixed__law_number))
      (pss_cons (ps_let 3 sc_law_mixed.nd (pe_lst pa_nil) (hx := l_law_mixed__law_found))
      (pss_cons (ps_for PassesOwn.never rfl (pi_range1 gl_law_mixed_range z_range (pa_cons (pv 1 (hv := v_law_mixed__law_many)) pa_nil)) (pg_let 4 sc_law_mixed.nd (hx := l_law_mixed__law_k)) (pss_cons (ps_let 2 sc_law_mixed.nd (pe_op op_mod (pe_op op_mulB (pv 2 (hv := v_law_mixed__law_number)) pe_int) pe_int) (hx := l_law_mixed__law_number))
      (pss_one (ps_expr (pe_bmK K PySem.F.plainAttrs_list PySem.F.slot_list_append PySem.F.type_list_append mt_appendA (pv 3 (hv := v_law_mixed__law_found)) (pa_cons (pv 2 (hv := v_law_mixed__law_number)) pa_nil))))))
      (pss_one (ps_ret (pv 3 (hv := v_law_mixed__law_found))))))), ?_⟩
  walk_at "rd"
  refine ⟨by decide, by decide, fun p hp => ⟨by omega, by omega, ?_⟩⟩
  refine forW_range (fun i σ H' => ∃ (m : Int) (ms : List Int) (o : Option V), σ = [some (.int c), some (.int n), some (.int m), some (.ref p), o] ∧ Same H H' ∧ H' p = some (.lst (ms.map V.int)) ∧ ms.length = i ∧ (∀ x ∈ ms, 0 ≤ x ∧ x < 2147483647) ∧ 0 ≤ m ∧ m < 2147483648)
    ⟨_, [], none, rfl, same_new hp _, upd_same, rfl, (by simp), by omega, by omega⟩ ?_ ?_
  · rintro i σ H' hi ⟨m, ms, o, rfl, sm, hl, hn, hb, m0, m1⟩
    walk_at "rd"
    refine ⟨.inl ⟨by omega, by omega⟩, by decide, ⟨_, SqL.of hl⟩, _, hl, by rw [List.length_map]; exact small' (by omega), ?_⟩
    refine ⟨_, ms ++ [m * 16807 % 2147483647], _, rfl, fun b o' e => ?_, ?_, by simp [hn], fun x hx => ?_, by omega, by omega⟩
    · rw [upd_ne (ne_of_none e hp)]; exact sm b o' e
    · rw [upd_same, List.map_append]; rfl
    · rcases List.mem_append.mp hx with z | z
      · exact hb x z
      · rw [List.mem_singleton.mp z]; omega
  · rintro σ H' ⟨m, ms, o, rfl, sm, hl, hn, hb, m0, m1⟩
    walk_at "rd"
    exact q p H' ms sm hp hl (by omega) hb
theorem ok_way (D : DefAt K mg "_law_way" s_law_way) : Cal P w K mg base 1 "_law_way" ["_law_number", "_law_share", "_law_many"] spWay := by
  refine D.cal sc_law_way (fun _ _ _ _ _ _ us hl => match us, hl with | [_, _, _], _ => rfl) (fun vs H Q E h => by obtain ⟨m, s, n, rfl, _⟩ := h; rfl) (fun f cdv A outer s H vs Q E hr h => ?_)
  obtain ⟨m, s, n, rfl, s0, s1, n0, n1, q⟩ := h
  refine ⟨_, (pss_cons (ps_if (pt_cmpR op_eqA (pe_op op_mod (pv 0 (hv := v_law_way__law_number)) (pv 1 (hv := v_law_way__law_share))) pe_int (nomark _)) (pss_one (ps_ret pe_non)) pss_nil)
      (pss_one (ps_ret (pe_op op_mod (pe_op op_fdiv (pv 0 (hv := v_law_way__law_number)) (pv 1 (hv := v_law_way__law_share))) (pv 2 (hv := v_law_way__law_many)))))), ?_⟩
  walk_at "rd"
  refine ⟨s0, ite2 (fun c => ?_) (fun c => ?_)⟩
  · exact q none (fun k e => by cases e)
  · refine ⟨⟨s0, s1⟩, n0, ?_⟩
    have a1 := Int.emod_nonneg (m / s) (show n ≠ 0 by omega)
    have a2 := Int.emod_lt_of_pos (m / s) n0
    have q' := q (some (m / s % n).toNat) (fun k e => by cases e; omega)
    have e : V.int (m / s % n) = wayV (some (m / s % n).toNat) := by
      show _ = V.int (((m / s % n).toNat : Nat) : Int)
      rw [show (((m / s % n).toNat : Nat) : Int) = m / s % n by omega]
    rw [e]; exact q'
theorem side_str (z : Int) : (1 + z % 2).natAbs.log2 < 1920 ∧ (toString (1 + z % 2) : Str).length = 1 := by
  have h : z % 2 = 0 ∨ z % 2 = 1 := by omega
  rcases h with h | h <;> rw [h] <;> exact ⟨by decide, by decide +kernel⟩
theorem sided_len {x y : Str} (hx : x.length = 1) (hy : y.length ≤ 8) : (x ++ (Str.ofString ".")).length = 2 ∧ ((x ++ (Str.ofString ".")) ++ y).length ≤ 10 := by
  have e : (Str.ofString ".").length = 1 := by decide +kernel
  have l1 : (x ++ (Str.ofString ".")).length = 2 := by rw [Str.length_append, hx, e]
  exact ⟨l1, by rw [Str.length_append, l1]; omega⟩
end
/-! ### a rule as data, and in the heap -/
structure Rl where
  s : Int
  ws : List Str
  rs : List (List (Option Nat))
structure RlOk (r : Rl) : Prop where
  s : r.s = 1 ∨ r.s = 2
  nw : r.ws.length ≤ 16
  n0 : 1 ≤ r.rs.length
  n1 : r.rs.length ≤ 60
  row : ∀ x ∈ r.rs, x.length = r.ws.length ∧ ∀ k, some k ∈ x → k < r.rs.length
  lw : ∀ w ∈ r.ws, w.length ≤ 10
def RoomsAs (H : Hp) (p : Addr) (rs : List (List (Option Nat))) (as : List Addr) : Prop :=
  H p = some (.lst (as.map V.ref)) ∧ as.length = rs.length ∧ ∀ (i : Nat) a x, as[i]? = some a → rs[i]? = some x → H a = some (.lst (x.map wayV))
def RuleAt (H : Hp) (p : Addr) (r : Rl) : Prop := ∃ pw pr as, H p = some (.tup [.int r.s, .ref pw, .ref pr]) ∧ H pw = some (.lst (r.ws.map V.str)) ∧ RoomsAs H pr r.rs as
theorem RoomsAs.mono {H H' : Hp} {p : Addr} {rs : List (List (Option Nat))} {as : List Addr} (sm : Same H H') (h : RoomsAs H p rs as) : RoomsAs H' p rs as := by
  obtain ⟨h1, h2, h3⟩ := h
  exact ⟨sm _ _ h1, h2, fun i a x e1 e2 => sm _ _ (h3 i a x e1 e2)⟩
theorem RuleAt.mono {H H' : Hp} {p : Addr} {r : Rl} (sm : Same H H') (h : RuleAt H p r) : RuleAt H' p r := by
  obtain ⟨pw, pr, as, h1, h2, h3⟩ := h
  exact ⟨pw, pr, as, sm _ _ h1, sm _ _ h2, h3.mono sm⟩
theorem flat_strs (ss : List Str) : (ss.map V.str).all flatV = true := by
  rw [List.all_eq_true]; intro x hx; obtain ⟨s, _, rfl⟩ := List.mem_map.mp hx; rfl
theorem inV_str (y : Str) (ss : List Str) : inV (.str y) (ss.map V.str) = decide (y ∈ ss) := by
  rw [Bool.eq_iff_iff]
  unfold inV
  rw [List.any_eq_true, decide_eq_true_eq]
  constructor
  · rintro ⟨x, hx, e⟩
    obtain ⟨s, hs, rfl⟩ := List.mem_map.mp hx
    have e' : (s == y) = true := e
    rw [← eq_of_beq e']; exact hs
  · intro h
    exact ⟨.str y, List.mem_map.mpr ⟨y, h, rfl⟩, by show (y == y) = true; simp⟩
theorem ways_flat (x : List (Option Nat)) : ∀ v ∈ x.map wayV, flatV v = true := by
  intro v hv
  obtain ⟨o, _, rfl⟩ := List.mem_map.mp hv
  cases o <;> rfl
theorem strs_flat (x : List Str) : ∀ v ∈ x.map V.str, flatV v = true := by
  intro v hv
  obtain ⟨o, _, rfl⟩ := List.mem_map.mp hv
  rfl
theorem rooms_eq {K : PySem.W.Frag} {H : Hp} {p q : Addr} {rs : List (List (Option Nat))} {as bs : List Addr} (h1 : RoomsAs H p rs as) (h2 : RoomsAs H q rs bs) : EqN K H 2 (.ref p) (.ref q) true := by
  obtain ⟨a1, a2, a3⟩ := h1
  obtain ⟨b1, b2, b3⟩ := h2
  refine EqN.seq (.inl ⟨SqL.of a1, SqL.of b1⟩) (by simp; omega) fun i x y e1 e2 => ?_
  rw [List.getElem?_map] at e1 e2
  cases qa : as[i]? with
  | none => rw [qa] at e1; cases e1
  | some a =>
    cases qb : bs[i]? with
    | none => rw [qb] at e2; cases e2
    | some b =>
      rw [qa] at e1; rw [qb] at e2
      cases e1; cases e2
      have hi : i < rs.length := by have := (List.getElem?_eq_some_iff.mp qa).1; omega
      exact EqN.seqFlat (.inl ⟨SqL.of (a3 i a _ qa (List.getElem?_eq_getElem hi)), SqL.of (b3 i b _ qb (List.getElem?_eq_getElem hi))⟩) (ways_flat _)
theorem EqN.up {K : PySem.W.Frag} {H : Hp} : ∀ {n : Nat} {x y : V} {b : Bool}, EqN K H n x y b → EqN K H (n + 1) x y b
  | 0, x, y, b, h => .inl h
  | n + 1, x, y, b, h => by
    rcases h with h | ⟨a, c, xs, ys, e1, e2, hq, h⟩
    · exact .inl h
    · refine .inr ⟨a, c, xs, ys, e1, e2, hq, ?_⟩
      rcases h with ⟨e, hl, he, hb⟩ | h
      · exact .inl ⟨e, hl, fun i x y q1 q2 => EqN.up (he i x y q1 q2), hb⟩
      · exact .inr h
theorem rule_eq {K : PySem.W.Frag} {H : Hp} {p q : Addr} {r : Rl} (h1 : RuleAt H p r) (h2 : RuleAt H q r) : EqN K H 3 (.ref p) (.ref q) true := by
  obtain ⟨pw, pr, as, a1, a2, a3⟩ := h1
  obtain ⟨qw, qr, bs, b1, b2, b3⟩ := h2
  refine EqN.seq (.inr ⟨SqT.of a1, SqT.of b1⟩) rfl fun i x y e1 e2 => ?_
  match i, e1, e2 with
  | 0, e1, e2 => cases e1; cases e2; exact EqN.refl rfl
  | 1, e1, e2 => cases e1; cases e2; exact EqN.seqFlat (.inl ⟨SqL.of a2, SqL.of b2⟩) (strs_flat _)
  | 2, e1, e2 => cases e1; cases e2; exact rooms_eq a3 b3
  | i + 3, e1, e2 => simp at e1
/-- [list(room) for room in rooms] -/
theorem copy_rooms {K : PySem.W.Frag} {pr L : Addr} {g : TG} {te : TE} {nT : Nat} {σ : L2.St} {Q : VK} {H : Hp} {rs : List (List (Option Nat))} {as : List Addr} (hR : RoomsAs H pr rs as) (hn : rs.length ≤ 60) (hL : H L = none)
    (hs : ∀ (a : Addr) (xs : List V) (H' : Hp) (C : VK), H' a = some (.lst xs) → (∀ l, H' l = none → C (.ref l) (upd H' l (.lst xs))) → g (.ref a) (σ ++ List.replicate nT none) H' fun σ2 H2 => te σ2 H2 C)
    (q : ∀ H' bs, Same H H' → RoomsAs H' L rs bs → (∀ b ∈ bs, H b = none ∧ b ≠ L) → bs.Nodup → Q (.ref L) H') : compW (Itl K pr) g tYes te nT σ L Q (upd H L (.lst [])) := by
  obtain ⟨h1, h2, h3⟩ := hR
  refine compW_list (xs := as.map V.ref) (fun i ys H' => ∃ bs : List Addr, Same H H' ∧ H' L = some (.lst ys) ∧ ys = bs.map V.ref ∧ bs.length = i ∧ (∀ b ∈ bs, H b = none ∧ b ≠ L ∧ ∃ o, H' b = some o) ∧ bs.Nodup ∧ ∀ (j : Nat) b x, bs[j]? = some b → rs[j]? = some x → H' b = some (.lst (x.map wayV)))
    ⟨[], same_new hL _, upd_same, rfl, rfl, by simp, List.nodup_nil, by simp⟩ (fun i ys H' _ h => by obtain ⟨_, sm, _⟩ := h; exact SqL.of (sm _ _ h1)) ?_ ?_
  · rintro i ys H' x hx hi ⟨bs, sm, hl, rfl, hb, hbn, hnd, hbx⟩
    rw [List.getElem?_map] at hx
    cases qa : as[i]? with
    | none => rw [qa] at hx; cases hx
    | some a =>
      rw [qa] at hx; cases hx
      have hi' : i < rs.length := by have := (List.getElem?_eq_some_iff.mp qa).1; omega
      have ha := h3 i a _ qa (List.getElem?_eq_getElem hi')
      have e := hs a _ H' (CStep (as.map V.ref).length i (fun i ys H' => ∃ bs : List Addr, Same H H' ∧ H' L = some (.lst ys) ∧ ys = bs.map V.ref ∧ bs.length = i ∧ (∀ b ∈ bs, H b = none ∧ b ≠ L ∧ ∃ o, H' b = some o) ∧ bs.Nodup ∧ ∀ (j : Nat) b x, bs[j]? = some b → rs[j]? = some x → H' b = some (.lst (x.map wayV))) L (bs.map V.ref)) (sm _ _ ha) ?_
      · have e2 : (compK (as.map V.ref).length i (fun i ys H' => ∃ bs : List Addr, Same H H' ∧ H' L = some (.lst ys) ∧ ys = bs.map V.ref ∧ bs.length = i ∧ (∀ b ∈ bs, H b = none ∧ b ≠ L ∧ ∃ o, H' b = some o) ∧ bs.Nodup ∧ ∀ (j : Nat) b x, bs[j]? = some b → rs[j]? = some x → H' b = some (.lst (x.map wayV))) L (bs.map V.ref) te) = fun σ2 H2 => te σ2 H2 (CStep (as.map V.ref).length i (fun i ys H' => ∃ bs : List Addr, Same H H' ∧ H' L = some (.lst ys) ∧ ys = bs.map V.ref ∧ bs.length = i ∧ (∀ b ∈ bs, H b = none ∧ b ≠ L ∧ ∃ o, H' b = some o) ∧ bs.Nodup ∧ ∀ (j : Nat) b x, bs[j]? = some b → rs[j]? = some x → H' b = some (.lst (x.map wayV))) L (bs.map V.ref)) := by
          funext σ2 H2; exact compK_at
        rw [e2]; exact e
      · intro l hl0
        have nl : l ≠ L := by
          rintro rfl
          rw [hl] at hl0; cases hl0
        have hl' : upd H' l (.lst ((rs[i]).map wayV)) L = some (.lst (bs.map V.ref)) := by rw [upd_ne (Ne.symm nl)]; exact hl
        refine cstep hi (by rw [List.length_map]; exact hb) (by rw [List.length_map, h2]; exact smallL (by omega)) hl' ⟨bs ++ [l], (sm.trans (same_new hl0 _)).upd hL _, upd_same, by rw [List.map_append]; rfl, by simp [hb], ?_, ?_, ?_⟩
        · intro b hb'
          rcases List.mem_append.mp hb' with z | z
          · obtain ⟨z1, z2, o, z3⟩ := hbn b z
            exact ⟨z1, z2, o, by rw [upd_ne z2]; exact (same_new hl0 _) _ _ z3⟩
          · rw [List.mem_singleton.mp z]
            exact ⟨sm.free hl0, nl, _, by rw [upd_ne nl]; exact upd_same⟩
        · rw [List.nodup_append]
          refine ⟨hnd, by simp, fun b hb' c hc => ?_⟩
          rw [List.mem_singleton.mp hc]
          rintro rfl
          obtain ⟨_, _, o, z⟩ := hbn b hb'
          rw [hl0] at z; cases z
        · intro j b x e1 e2
          rcases Nat.lt_or_ge j bs.length with z | z
          · rw [List.getElem?_append_left z] at e1
            have q1 := hbx j b x e1 e2
            have q2 := (hbn b (List.mem_of_getElem? e1)).2.1
            rw [upd_ne q2]; exact (same_new hl0 _) _ _ q1
          · rw [List.getElem?_append_right z] at e1
            have hj : j - bs.length = 0 := by
              have := (List.getElem?_eq_some_iff.mp e1).1
              simp at this; omega
            rw [hj] at e1
            have e1' : l = b := by simpa using e1
            subst e1'
            have hji : j = i := by omega
            subst hji
            rw [List.getElem?_eq_getElem hi'] at e2
            cases e2
            rw [upd_ne nl]; exact upd_same
  · rintro ys H' ⟨bs, sm, hl, rfl, hb, hbn, hnd, hbx⟩
    exact q H' bs sm ⟨hl, by rw [hb, List.length_map, h2], hbx⟩ (fun b z => ⟨(hbn b z).1, (hbn b z).2.1⟩) hnd
section
variable {P : Program} {w : World} {K : PySem.W.Frag} {mg : Str → Option Value} {base : Heap}
theorem same_none {H H' : Hp} {a : Addr} (s : Same H H') (h : H' a = none) : H a = none := by
  cases e : H a with
  | none => rfl
  | some o => rw [s _ _ e] at h; cases h
/-- where a rule's room goes at a text -/
def toR (r : Rl) (room : Nat) (u : Str) : Option Nat := if u ∈ r.ws then (r.rs.getD room []).getD (r.ws.idxOf u) none else some room
def PlacesAt (H : Hp) (d : Addr) (ws ts : List Str) : Prop := ∃ kvs : List (Key × V), H d = some (.dK kvs) ∧ kvs.length ≤ ts.length ∧ ∀ y : Str, valV kvs (.inr y) = if y ∈ ts then some (.int (ws.idxOf y : Nat)) else none
def spWaysFor : Sp := fun vs H Q _ => ∃ (wp pd rp : Addr) (us : List Str) (r : Rl) (n : Nat), vs = [.ref wp, .ref pd, .int n, .ref rp] ∧ H wp = some (.lst (us.map V.str)) ∧ us.length ≤ 1000 ∧ PlacesAt H pd r.ws r.ws ∧ H rp = some (.lst ((r.rs.getD n []).map wayV)) ∧ (r.rs.getD n []).length = r.ws.length ∧ ∀ (a : Addr) (H' : Hp), Same H H' → H a = none → H' a = some (.lst (us.map fun u => wayV (toR r n u))) → Q (.ref a) H'
theorem ok_ways_for (D : DefAt K mg "ways_for" s_ways_for) : Cal P w K mg base 1 "ways_for" ["words", "places", "number", "room"] spWaysFor := by
  refine D.cal sc_ways_for (fun _ _ _ _ _ _ us hl => match us, hl with | [_, _, _, _], _ => rfl) (fun vs H Q E h => by obtain ⟨_, _, _, _, _, _, rfl, _⟩ := h; rfl) (fun f cdv A outer s H vs Q E hr h => ?_)
  obtain ⟨wp, pd, rp, us, r, n, rfl, hw, hu, ⟨kvs, hp, hpl, hpv⟩, hrp, hrl, q⟩ := h
  refine ⟨_, (pss_one (ps_ret (pe_comp (CompSc.to (fsc := (defScope s_ways_for)) (N := ["words", "places", "number", "room"]) (N0 := ["words", "places", "number", "room"]) (T := ["word"]) ⟨by decide +kernel, by decide +kernel, by decide +kernel, by decide +kernel, by decide +kernel, by decide +kernel, by decide +kernel⟩ rfl rfl) rfl (pi_listK K (pv 0 (hv := v_ways_for_words))) (fun _ _ _ _ => (pg_let 4 (show (["words", "places", "number", "room", "word"] : List Str).Nodup from by decide +kernel) (hx := (locC (defScope s_ways_for) (by decide +kernel))) (hf := fnC (defScope s_ways_for) (by decide +kernel)))) (gfr_name (show (["words", "places", "number", "room"] : List Str).length ≤ 4 from by decide)) (fun _ _ _ _ => pifs_nil) (fun _ _ _ _ => (pe_ifExp (pt_cmpR (op_inD hr) (pv 4 (hv := (visC (defScope s_ways_for) (by decide +kernel)))) (pv 1 (hv := (visC (defScope s_ways_for) (by decide +kernel)))) (by with_unfolding_all rfl)) (pe_ix (ix_K K) (pv 3 (hv := (visC (defScope s_ways_for) (by decide +kernel)))) (pe_ix (ix_B K) (pv 1 (hv := (visC (defScope s_ways_for) (by decide +kernel)))) (pv 4 (hv := (visC (defScope s_ways_for) (by decide +kernel)))) (fun _ _ => rfl)) (fun _ _ => rfl)) (pv 2 (hv := (visC (defScope s_ways_for) (by decide +kernel))))))))), ?_⟩
  walk_at "rd1"
  refine ⟨⟨_, SqL.of hw⟩, fun L hL => ?_⟩
  refine compW_list (xs := us.map V.str) (fun i ys H' => Same H H' ∧ H' L = some (.lst ys) ∧ ys = (us.take i).map fun u => wayV (toR r n u)) ⟨same_new hL _, upd_same, rfl⟩ (fun i ys H' _ h => SqL.of (h.1 _ _ hw)) ?_ ?_
  · rintro i ys H' v hv hi ⟨sm, hl, rfl⟩
    rw [List.length_map] at hi
    rw [List.getElem?_map, List.getElem?_eq_getElem hi] at hv
    cases hv
    walk_at "rd1"
    have fin : ∀ o : Option Nat, toR r n us[i] = o → CStep (us.map V.str).length i (fun i ys H' => Same H H' ∧ H' L = some (.lst ys) ∧ ys = (us.take i).map fun u => wayV (toR r n u)) L ((us.take i).map fun u => wayV (toR r n u)) (wayV o) H' := fun o ho =>
      cstep (by rw [List.length_map]; exact hi) (by rw [List.length_map, List.length_take]; omega) (by rw [List.length_map]; exact smallL (by omega)) hl ⟨sm.upd hL _, upd_same, by rw [List.take_add_one, List.getElem?_eq_getElem hi, List.map_append, ← ho]; rfl⟩
    have hv := hpv us[i]
    refine ⟨pd, kvs, .inr us[i], rfl, rfl, sm _ _ hp, _, rfl, ?_⟩
    by_cases hm : us[i] ∈ r.ws
    · rw [if_pos hm] at hv
      have hj := List.idxOf_lt_length_iff.mpr hm
      rw [hv]
      refine ite2 (fun _ => ?_) (fun c => absurd rfl c)
      refine .inr ⟨pd, kvs, .inr us[i], _, rfl, rfl, sm _ _ hp, hv, ?_⟩
      refine ⟨_, _, .inl (SqL.of (sm _ _ hrp)), atI_nat (v := wayV ((r.rs.getD n []).getD (r.ws.idxOf us[i]) none)) ?_, fin _ (by unfold toR; rw [if_pos hm])⟩
      rw [List.getElem?_map, List.getElem?_eq_getElem (by omega), List.getD_eq_getElem?_getD (l := r.rs.getD n []), List.getElem?_eq_getElem (by omega)]
      rfl
    · rw [if_neg hm] at hv
      rw [hv]
      refine ite2 (fun c => by cases c) (fun _ => ?_)
      exact fin (some n) (by unfold toR; rw [if_neg hm])
  rintro ys H1 ⟨sm, hl, rfl⟩
  rw [List.length_map, List.take_length] at hl
  exact q L H1 sm hL hl
/-- a rule's ways by rooms, for the texts us; of None, too -/
def WaysD (F : Addr → Prop) (P : Program) (w : World) (H : Hp) (d : Addr) (r : Rl) (us : List Str) (n : Nat) (no : Bool) : Prop := ∃ kvs : List (Option Int × V), H d = some (OpD P w d kvs) ∧ kvs.length ≤ (if no then n + 1 else n) ∧
  (∀ k : Nat, k < n → ∃ b, valV kvs (some (k : Int)) = some (.ref b) ∧ H b = some (.lst (us.map fun u => wayV (toR r k u))) ∧ F b) ∧ (∀ k : Nat, n ≤ k → valV kvs (some (k : Int)) = none) ∧
  (no = true → ∃ b, valV kvs none = some (.ref b) ∧ H b = some (.lst (us.map fun _ => V.non)) ∧ F b)
theorem WaysD.mono {F : Addr → Prop} {H H' : Hp} {d : Addr} {r : Rl} {us : List Str} {n : Nat} {no : Bool} (sm : Same H H') (h : WaysD F P w H d r us n no) : WaysD F P w H' d r us n no := by
  obtain ⟨kvs, e, hl, h1, h2, h3⟩ := h
  refine ⟨kvs, sm _ _ e, hl, fun k hk => ?_, h2, fun hn => ?_⟩
  · obtain ⟨b, b1, b2, b3⟩ := h1 k hk
    exact ⟨b, b1, sm _ _ b2, b3⟩
  · obtain ⟨b, b1, b2, b3⟩ := h3 hn
    exact ⟨b, b1, sm _ _ b2, b3⟩
theorem WaysD.weak {F F' : Addr → Prop} {H : Hp} {d : Addr} {r : Rl} {us : List Str} {n : Nat} {no : Bool} (hF : ∀ b, F b → F' b) (h : WaysD F P w H d r us n no) : WaysD F' P w H d r us n no := by
  obtain ⟨kvs, e, hl, h1, h2, h3⟩ := h
  refine ⟨kvs, e, hl, fun k hk => ?_, h2, fun hn => ?_⟩
  · obtain ⟨b, b1, b2, b3⟩ := h1 k hk
    exact ⟨b, b1, b2, hF b b3⟩
  · obtain ⟨b, b1, b2, b3⟩ := h3 hn
    exact ⟨b, b1, b2, hF b b3⟩
theorem WaysD.put {H : Hp} {d W : Addr} {r : Rl} {us : List Str} {n : Nat} {no : Bool} {xs : List V} {u : HO} (hW : H W = some (.lst xs)) (h : WaysD (fun b => b ≠ W) P w H d r us n no) : WaysD (fun b => b ≠ W) P w (upd H W u) d r us n no := by
  obtain ⟨kvs, e, hl, h1, h2, h3⟩ := h
  refine ⟨kvs, by rw [upd_ne (fun z => by rw [z, hW] at e; cases e)]; exact e, hl, fun k hk => ?_, h2, fun hn => ?_⟩
  · obtain ⟨b, b1, b2, b3⟩ := h1 k hk
    exact ⟨b, b1, by rw [upd_ne b3]; exact b2, b3⟩
  · obtain ⟨b, b1, b2, b3⟩ := h3 hn
    exact ⟨b, b1, by rw [upd_ne b3]; exact b2, b3⟩
def spWaysBy (P : Program) (w : World) : Sp := fun vs H Q _ => ∃ (p wp : Addr) (r : Rl) (us : List Str), vs = [.ref p, .ref wp] ∧ RuleAt H p r ∧ RlOk r ∧ r.ws.Nodup ∧ H wp = some (.lst (us.map V.str)) ∧ us.length ≤ 1000 ∧ ∀ (d : Addr) (H' : Hp), Same H H' → H d = none → WaysD (fun b => H b = none) P w H' d r us r.rs.length true → Q (.ref d) H'
theorem ok_ways_by (D : DefAt K mg "ways_by_room" s_ways_by_room) (z_enumerate : mg "enumerate" = none) (c_ways_for : Cal P w K mg base 1 "ways_for" ["words", "places", "number", "room"] spWaysFor) : Cal P w K mg base 2 "ways_by_room" ["rule", "words"] (spWaysBy P w) := by
  refine D.cal sc_ways_by_room (fun _ _ _ _ _ _ us hl => match us, hl with | [_, _], _ => rfl) (fun vs H Q E h => by obtain ⟨_, _, _, _, rfl, _⟩ := h; rfl) (fun f cdv A outer s H vs Q E hr h => ?_)
  obtain ⟨p, wp, r, us, rfl, hR, ok, nd, hw, hu, q⟩ := h
  obtain ⟨pw, pr, as, h1, h2, h3, h4, h5⟩ := hR
  refine ⟨_, (pss_cons (ps_let 2 sc_ways_by_room.nd pe_dnewK (hx := l_ways_by_room_places))
      (pss_cons (ps_for PassesOwn.never rfl (pi_enumK K gl_ways_by_room_enumerate z_enumerate (pa_cons (pe_ix (ix_K K) (pv 0 (hv := v_ways_by_room_rule)) pe_int (fun _ _ => rfl)) pa_nil)) (pg_tupK K (n := 2) (pgs_cons (pg_let 3 sc_ways_by_room.nd (hx := l_ways_by_room_place)) (pgs_cons (pg_let 4 sc_ways_by_room.nd (hx := l_ways_by_room_word)) pgs_nil))) (pss_one (ps_asg (pv 3 (hv := v_ways_by_room_place)) (pg_sub (pv 2 (hv := v_ways_by_room_places)) (pv 4 (hv := v_ways_by_room_word)) (set_D hr)))))
      (pss_cons (ps_let 5 sc_ways_by_room.nd (pe_dnewOpW P w) (hx := l_ways_by_room_ways))
      (pss_cons (ps_for PassesOwn.never rfl (pi_enumK K gl_ways_by_room_enumerate z_enumerate (pa_cons (pe_ix (ix_K K) (pv 0 (hv := v_ways_by_room_rule)) pe_int (fun _ _ => rfl)) pa_nil)) (pg_tupK K (n := 2) (pgs_cons (pg_let 6 sc_ways_by_room.nd (hx := l_ways_by_room_number)) (pgs_cons (pg_let 7 sc_ways_by_room.nd (hx := l_ways_by_room_room)) pgs_nil))) (pss_one (ps_asg (pe_cal c_ways_for hr (pa_cons (pv 1 (hv := v_ways_by_room_words)) (pa_cons (pv 2 (hv := v_ways_by_room_places)) (pa_cons (pv 6 (hv := v_ways_by_room_number)) (pa_cons (pv 7 (hv := v_ways_by_room_room)) pa_nil)))) (hg := gl_ways_by_room_ways_for)) (pg_sub (pv 5 (hv := v_ways_by_room_ways)) (pv 6 (hv := v_ways_by_room_number)) (set_OpW P w)))))
      (pss_cons (ps_asg (pe_comp (CompSc.to (fsc := (defScope s_ways_by_room)) (N := ["rule", "words", "places", "place", "word", "ways", "number", "room"]) (N0 := ["rule", "words", "places", "place", "word'", "ways", "number", "room"]) (T := ["word"]) ⟨by decide +kernel, by decide +kernel, by decide +kernel, by decide +kernel, by decide +kernel, by decide +kernel, by decide +kernel⟩ rfl rfl) rfl (pi_listK K (pv 1 (hv := v_ways_by_room_words))) (fun _ _ _ _ => (pg_let 8 (show (["rule", "words", "places", "place", "word'", "ways", "number", "room", "word"] : List Str).Nodup from by decide +kernel) (hx := (locC (defScope s_ways_by_room) (by decide +kernel))) (hf := fnC (defScope s_ways_by_room) (by decide +kernel)))) (gfr_name (show (["rule", "words", "places", "place", "word", "ways", "number", "room"] : List Str).length ≤ 8 from by decide)) (fun _ _ _ _ => pifs_nil) (fun _ _ _ _ => pe_non)) (pg_sub (pv 5 (hv := v_ways_by_room_ways)) pe_non (set_OpW P w)))
      (pss_one (ps_ret (pv 5 (hv := v_ways_by_room_ways))))))))), ?_⟩
  walk_at "rd1"
  intro pd hpd
  generalize hH1 : upd H pd _ = H1
  have sm1 := al_same hH1 hpd
  have e1 := al_at hH1
  walk_at "nx"
  refine ⟨_, _, .inr (SqT.of (sm1 _ _ h1)), rfl, ?_⟩
  walk_at "rd1"
  refine ⟨⟨_, sm1 _ _ h2⟩, ?_⟩
  refine forW_enum (xs := r.ws.map V.str) (fun i σ H' => ∃ (o3 o4 : Option V), σ = [some (.ref p), some (.ref wp), some (.ref pd), o3, o4, none, none, none] ∧ Same H H' ∧ PlacesAt H' pd r.ws (r.ws.take i))
    ⟨none, none, rfl, sm1, [], e1, by simp, fun y => by simp [valV]⟩ (fun i σ H' _ h => by obtain ⟨_, _, _, sm, _⟩ := h; exact SqL.of (sm _ _ h2)) ?_ ?_
  · rintro i v t σ H' hv ⟨o2, o3, rfl, sm, kvs, hk, hkl, hkv⟩ ht
    have hi : i < r.ws.length := by have := (List.getElem?_eq_some_iff.mp hv).1; simpa using this
    rw [List.getElem?_map, List.getElem?_eq_getElem hi] at hv
    cases hv
    have st := same_new ht (.tup [V.int (i : Int), .str r.ws[i]])
    have ett : upd H' t (.tup [V.int (i : Int), .str r.ws[i]]) t = some (.tup [V.int (i : Int), .str r.ws[i]]) := upd_same
    generalize upd H' t (.tup [V.int (i : Int), .str r.ws[i]]) = H2 at st ett ⊢
    walk_at "rd1"
    refine ⟨t, _, rfl, SqT.of ett, rfl, ?_⟩
    walk_at "rd1"
    rw [List.length_take] at hkl
    refine ⟨pd, kvs, .inr r.ws[i], rfl, rfl, st _ _ hk, small' (by have := ok.nw; omega), _, _, rfl, (sm.trans st).upd hpd _, _, upd_same, ?_, fun y => ?_⟩
    · have := length_putK kvs (.inr r.ws[i]) (.int (i : Int))
      rw [List.length_take]; omega
    · have hix : r.ws.idxOf r.ws[i] = i := nd.idxOf_getElem i hi
      rw [valV_put, List.take_add_one, List.getElem?_eq_getElem hi]
      by_cases c : y = r.ws[i]
      · subst c
        rw [if_pos rfl, if_pos (List.mem_append.mpr (.inr (by simp))), hix]
      · rw [if_neg (by simpa using c), hkv y]
        by_cases hy : y ∈ r.ws.take i
        · rw [if_pos hy, if_pos (List.mem_append.mpr (.inl hy))]
        · rw [if_neg hy, if_neg (fun h => by
            rcases List.mem_append.mp h with z | z
            · exact hy z
            · exact c (by simpa using z))]
  rintro σ H2 ⟨o3, o4, rfl, sm2, hP2⟩
  rw [List.length_map, List.take_length] at hP2
  walk_at "nx"
  intro d hd
  generalize hH3 : upd H2 d _ = H3
  have sm3 := al_same hH3 hd
  have e3 := al_at hH3
  have sm03 := sm2.trans sm3
  walk_at "nx"
  refine ⟨_, _, .inr (SqT.of (sm03 _ _ h1)), atI_nat (j := 2) rfl, ?_⟩
  walk_at "rd1"
  refine ⟨⟨_, sm03 _ _ h3⟩, ?_⟩
  have hP3 : PlacesAt H3 pd r.ws r.ws := by
    obtain ⟨kvs, z1, z2⟩ := hP2
    exact ⟨kvs, sm3 _ _ z1, z2⟩
  have n1 := ok.n1
  refine forW_enum (xs := as.map V.ref) (fun i σ H' => ∃ (o6 o7 : Option V), σ = [some (.ref p), some (.ref wp), some (.ref pd), o3, o4, some (.ref d), o6, o7] ∧ Same H2 H' ∧ WaysD (fun b => H b = none) P w H' d r us i false)
    ⟨none, none, rfl, sm3, [], e3, Nat.zero_le _, fun k hk => by omega, fun k _ => rfl, fun h => by cases h⟩ (fun i σ H' _ h => by obtain ⟨_, _, _, sm, _⟩ := h; exact SqL.of ((sm2.trans sm) _ _ h3)) ?_ ?_
  · rintro i v t σ H' hv ⟨o6, o7, rfl, sm, hW⟩ ht
    have hi : i < as.length := by have := (List.getElem?_eq_some_iff.mp hv).1; simpa using this
    rw [List.getElem?_map, List.getElem?_eq_getElem hi] at hv
    cases hv
    have hi' : i < r.rs.length := by omega
    have st := same_new ht (.tup [V.int (i : Int), .ref as[i]])
    have ett : upd H' t (.tup [V.int (i : Int), .ref as[i]]) t = some (.tup [V.int (i : Int), .ref as[i]]) := upd_same
    generalize upd H' t (.tup [V.int (i : Int), .ref as[i]]) = H4 at st ett ⊢
    have sm4 := (sm2.trans sm).trans st
    have hgi : r.rs.getD i [] = r.rs[i] := by rw [List.getD_eq_getElem?_getD, List.getElem?_eq_getElem hi']; rfl
    walk_at "rd1"
    refine ⟨t, _, rfl, SqT.of ett, rfl, ?_⟩
    walk_at "rd1"
    refine ⟨wp, pd, as[i], us, r, i, rfl, sm4 _ _ hw, hu, ?_, ?_, ?_, fun b H5 s5 hb e5 => ?_⟩
    · obtain ⟨kvs, z1, z2⟩ := hP2
      exact ⟨kvs, (sm.trans st) _ _ z1, z2⟩
    · rw [hgi]; exact sm4 _ _ (h5 i _ _ (List.getElem?_eq_getElem hi) (List.getElem?_eq_getElem hi'))
    · rw [hgi]; exact (ok.row _ (List.getElem_mem hi')).1
    obtain ⟨kvs, k1, k2, k3, k4, k5⟩ := hW.mono (st.trans s5)
    walk_at "rd1"
    have smt := (sm.trans st).trans s5
    have ne : ∀ {b xs}, H5 b = some (.lst xs) → b ≠ d := fun e z => by rw [z, k1] at e; cases e
    refine ⟨d, some (i : Int), kvs, rfl, rfl, k1, small' (by have k2' : kvs.length ≤ i := k2; omega), _, _, rfl, smt.upd hd _, _, upd_same, ?_, fun k hk => ?_, fun k hk => ?_, fun h => by cases h⟩
    · have := length_putK kvs (some (i : Int)) (.ref b)
      have k2' : kvs.length ≤ i := k2
      show _ ≤ i + 1
      omega
    · rw [valV_put]
      by_cases c : k = i
      · subst c
        exact ⟨b, by rw [if_pos rfl], by rw [upd_ne (ne e5)]; exact e5, sm4.free hb⟩
      · obtain ⟨b', b1, b2, b3⟩ := k3 k (by omega)
        exact ⟨b', by rw [if_neg (by simp; omega)]; exact b1, by rw [upd_ne (ne b2)]; exact b2, b3⟩
    · rw [valV_put, if_neg (by simp; omega)]
      exact k4 k (by omega)
  rintro σ H4 ⟨o6, o7, rfl, sm4, hW4⟩
  rw [List.length_map, h4] at hW4
  walk_at "nx"
  have hw4 := (sm2.trans sm4) _ _ hw
  refine ⟨⟨_, SqL.of hw4⟩, fun L hL => ?_⟩
  refine compW_list (xs := us.map V.str) (fun i ys H' => Same H4 H' ∧ H' L = some (.lst ys) ∧ ys = (us.take i).map fun _ => V.non) ⟨same_new hL _, upd_same, rfl⟩ (fun i ys H' _ h => SqL.of (h.1 _ _ hw4)) ?_ ?_
  · rintro i ys H' v hv hi ⟨sm, hl, rfl⟩
    rw [List.length_map] at hi
    walk_at "rd1"
    exact cstep (by rw [List.length_map]; exact hi) (by rw [List.length_map, List.length_take]; omega) (by rw [List.length_map]; exact smallL (by omega)) hl ⟨sm.upd hL _, upd_same, by rw [List.take_add_one, List.getElem?_eq_getElem hi, List.map_append]; rfl⟩
  rintro ys H5 ⟨sm5, hl5, rfl⟩
  rw [List.length_map, List.take_length] at hl5
  obtain ⟨kvs, k1, k2, k3, k4, k5⟩ := hW4.mono sm5
  have ne : ∀ {b xs}, H5 b = some (.lst xs) → b ≠ d := fun e z => by rw [z, k1] at e; cases e
  have k2' : kvs.length ≤ r.rs.length := k2
  refine ⟨d, none, kvs, rfl, rfl, k1, small' (by omega), ?_⟩
  walk_at "nx"
  refine q d _ ((sm2.trans (sm4.trans sm5)).upd (same_none sm2 hd) _) (same_none sm2 hd) ⟨_, upd_same, ?_, fun k hk => ?_, fun k hk => ?_, fun _ => ⟨L, by rw [valV_put, if_pos rfl], by rw [upd_ne (ne hl5)]; exact hl5, (sm2.trans sm4).free hL⟩⟩
  · have := length_putK kvs none (.ref L)
    show _ ≤ r.rs.length + 1
    omega
  · obtain ⟨b', b1, b2, b3⟩ := k3 k hk
    exact ⟨b', by rw [valV_put, if_neg (by simp)]; exact b1, by rw [upd_ne (ne b2)]; exact b2, b3⟩
  · rw [valV_put, if_neg (by simp)]
    exact k4 k hk
end
section
variable {P : Program} {w : World} {K : PySem.W.Frag} {mg : Str → Option Value} {base : Heap}
/-- the ways of all rules, in a list -/
def WaysL (P : Program) (w : World) (H : Hp) (l : Addr) (rs : List Rl) (us : List Str) : Prop := ∃ ds : List Addr, H l = some (.lst (ds.map V.ref)) ∧ ds.length = rs.length ∧ ∀ (i : Nat) d r, ds[i]? = some d → rs[i]? = some r → WaysD (fun _ => True) P w H d r us r.rs.length true
/-- where the tuple of rooms goes at a text -/
def toAll (rs : List Rl) (here : List Nat) (u : Str) : List (Option Nat) := List.zipWith (fun r k => toR r k u) rs here
def spBehind (P : Program) (w : World) : Sp := fun vs H Q _ => ∃ (l hp : Addr) (rs : List Rl) (us : List Str) (here : List Nat), vs = [.ref l, .ref hp, .int us.length] ∧ WaysL P w H l rs us ∧ rs.length ≤ 8 ∧ us.length ≤ 1000 ∧ H hp = some (.tup (here.map fun k : Nat => V.int (k : Int))) ∧ here.length = rs.length ∧ (∀ (i : Nat) r k, rs[i]? = some r → here[i]? = some k → k < r.rs.length) ∧
  ∀ (a : Addr) (H' : Hp) (ts : List Addr), Same H H' → H a = none → H' a = some (.lst (ts.map V.ref)) → ts.length = us.length → (∀ (i : Nat) t u, ts[i]? = some t → us[i]? = some u → H' t = some (.tup ((toAll rs here u).map wayV))) → Q (.ref a) H'
theorem ok_behind (D : DefAt K mg "rooms_behind" s_rooms_behind) (z_range : mg "range" = none) (z_tuple : mg "tuple" = none) (z_zip : mg "zip" = none) : Cal P w K mg base 1 "rooms_behind" ["ways", "here", "width"] (spBehind P w) := by
  refine D.cal sc_rooms_behind (fun _ _ _ _ _ _ us hl => match us, hl with | [_, _, _], _ => rfl) (fun vs H Q E h => by obtain ⟨_, _, _, _, _, rfl, _⟩ := h; rfl) (fun f cdv A outer s H vs Q E hr h => ?_)
  obtain ⟨l, hp, rs, us, here, rfl, ⟨ds, h1, h2, h3⟩, n8, nu, h4, h5, h6, q⟩ := h
  refine ⟨_, (pss_one (ps_ret (pe_compO (CompScO.to (fsc := (defScope s_rooms_behind)) (N := ["ways", "here", "width"]) (N0 := ["ways", "here", "width"]) (T := ["at"]) ⟨by decide +kernel, by decide +kernel, by decide +kernel, by decide +kernel, by decide +kernel, by decide +kernel⟩ rfl rfl) rfl (pi_range1 gl_rooms_behind_range z_range (pa_cons (pv 2 (hv := v_rooms_behind_width)) pa_nil)) (fun _ _ _ _ => (pg_let 3 (show (["ways", "here", "width", "at"] : List Str).Nodup from by decide +kernel) (hx := (locCO (defScope s_rooms_behind) (by decide +kernel))) (hf := fnCO (defScope s_rooms_behind) (by decide +kernel)))) (gfr_name (show (["ways", "here", "width"] : List Str).length ≤ 3 from by decide)) (fun _ _ _ _ => pifs_nil) (fun _ _ _ _ => (pe_bty (call_tupA K) z_tuple bt_tuple (pa_cons (pe_comp (CompSc.to (fsc := (relabelS _ (defScope s_rooms_behind))) (N := ["ways", "here", "width", "at"]) (N0 := ["ways", "here", "width", "at"]) (T := ["way", "room"]) ⟨by decide +kernel, by decide +kernel, by decide +kernel, by decide +kernel, by decide +kernel, by decide +kernel, by decide +kernel⟩ rfl rfl) rfl (pi_zipM K (glCO (defScope s_rooms_behind) (by decide +kernel)) z_zip (pa_cons (pv 0 (hv := (visCO (defScope s_rooms_behind) (by decide +kernel)))) (pa_cons (pv 1 (hv := (visCO (defScope s_rooms_behind) (by decide +kernel)))) pa_nil))) (fun _ _ _ _ => (pg_tupK K (n := 2) (pgs_cons (pg_let 4 (show (["ways", "here", "width", "at", "way", "room"] : List Str).Nodup from by decide +kernel) (hx := (locC (relabelS _ (defScope s_rooms_behind)) (e := rfl) (by decide +kernel))) (hf := fnC (relabelS _ (defScope s_rooms_behind)) (e := rfl) (by decide +kernel))) (pgs_cons (pg_let 5 (show (["ways", "here", "width", "at", "way", "room"] : List Str).Nodup from by decide +kernel) (hx := (locC (relabelS _ (defScope s_rooms_behind)) (e := rfl) (by decide +kernel))) (hf := fnC (relabelS _ (defScope s_rooms_behind)) (e := rfl) (by decide +kernel))) pgs_nil)))) (gfr_tup (gsfr_cons (gfr_name (show (["ways", "here", "width", "at"] : List Str).length ≤ 4 from by decide)) gm_name (gsfr_cons (gfr_name (show (["ways", "here", "width", "at"] : List Str).length ≤ 5 from by decide)) gm_name gsfr_nil gsm_nil) (gsm_cons gm_name gsm_nil))) (fun _ _ _ _ => pifs_nil) (fun _ _ _ _ => (pe_ix (ix_K K) (pe_ix (ix_OpW P w) (pv 4 (hv := (visC (relabelS _ (defScope s_rooms_behind)) (e := rfl) (by decide +kernel)))) (pv 5 (hv := (visC (relabelS _ (defScope s_rooms_behind)) (e := rfl) (by decide +kernel)))) (fun _ _ => rfl)) (pv 3 (hv := (visC (relabelS _ (defScope s_rooms_behind)) (e := rfl) (by decide +kernel)))) (fun _ _ => rfl)))) pa_nil) (hg := (glCO (defScope s_rooms_behind) (by decide +kernel)))))))), ?_⟩
  walk_at "rd1"
  refine ⟨by omega, by omega, fun L hL => ?_⟩
  refine compW_range (fun i ys H' => ∃ ts : List Addr, Same H H' ∧ H' L = some (.lst ys) ∧ ys = ts.map V.ref ∧ ts.length = i ∧ ∀ (k : Nat) t u, ts[k]? = some t → us[k]? = some u → H' t = some (.tup ((toAll rs here u).map wayV))) ⟨[], same_new hL _, upd_same, rfl, rfl, by simp⟩ ?_ ?_
  · rintro i ys H' hi ⟨ts, sm, hl, rfl, htl, hts⟩
    have hiu : i < us.length := by omega
    have hta : (toAll rs here us[i]).length = rs.length := by unfold toAll; rw [List.length_zipWith]; omega
    walk_at "rd1"
    rw [iZipM_at]
    walk_at "rd1"
    refine ⟨⟨_, SqL.of (sm _ _ h1)⟩, ⟨_, SqT.of (sm _ _ h4)⟩, fun L2 hL2 => ?_⟩
    refine compW_zipM (xs := ds.map V.ref) (ys := here.map fun k : Nat => V.int (k : Int)) (fun j zs H2 => Same H' H2 ∧ H2 L2 = some (.lst zs) ∧ zs = ((toAll rs here us[i]).take j).map wayV) (by simp; omega) ⟨same_new hL2 _, upd_same, rfl⟩ (fun j zs H2 _ h => ⟨SqL.of ((sm.trans h.1) _ _ h1), SqT.of ((sm.trans h.1) _ _ h4)⟩) ?_ ?_
    · rintro j zs H2 x y t hx hy hj ⟨sm2, hl2, rfl⟩ ht
      rw [List.length_map] at hj
      have hjr : j < rs.length := by omega
      have hjh : j < here.length := by omega
      rw [List.getElem?_map, List.getElem?_eq_getElem hj] at hx
      rw [List.getElem?_map, List.getElem?_eq_getElem hjh] at hy
      cases hx
      cases hy
      have st := same_new ht (.tup [V.ref ds[j], V.int (here[j] : Nat)])
      have ett : upd H2 t (.tup [V.ref ds[j], V.int (here[j] : Nat)]) t = some (.tup [V.ref ds[j], V.int (here[j] : Nat)]) := upd_same
      generalize upd H2 t (.tup [V.ref ds[j], V.int (here[j] : Nat)]) = H3 at st ett ⊢
      have sm3 := (sm.trans sm2).trans st
      obtain ⟨kvs, k1, k2, k3, k4, k5⟩ := (h3 j ds[j] rs[j] (List.getElem?_eq_getElem hj) (List.getElem?_eq_getElem hjr)).mono sm3
      obtain ⟨b, b1, b2, _⟩ := k3 here[j] (h6 j rs[j] here[j] (List.getElem?_eq_getElem hjr) (List.getElem?_eq_getElem hjh))
      have hz : (toAll rs here us[i])[j]? = some (toR rs[j] here[j] us[i]) := by
        unfold toAll
        rw [List.getElem?_zipWith, List.getElem?_eq_getElem hjr, List.getElem?_eq_getElem hjh]
      walk_at "rd1"
      refine ⟨t, _, rfl, SqT.of ett, rfl, ?_⟩
      walk_at "rd1"
      refine ⟨ds[j], some (here[j] : Int), kvs, _, rfl, rfl, k1, b1, ?_⟩
      walk_at "rd1"
      refine ⟨_, _, .inl (SqL.of b2), atI_nat (v := wayV (toR rs[j] here[j] us[i])) (by rw [Nat.zero_add, List.getElem?_map, List.getElem?_eq_getElem hiu]; rfl), ?_⟩
      exact cstep (by rw [List.length_map]; exact hj) (by rw [List.length_map, List.length_take]; omega) (by rw [List.length_map]; exact smallL (by omega)) (st _ _ hl2) ⟨(sm2.trans st).upd hL2 _, upd_same, by rw [List.take_add_one, hz, List.map_append]; rfl⟩
    rintro zs H2 ⟨sm2, hl2, rfl⟩
    rw [List.length_map, List.take_of_length_le (by omega)] at hl2
    walk_at "rd1"
    refine ⟨_, .inl ⟨SqL.of hl2, fun t ht => ?_⟩⟩
    have nl : t ≠ L := by rintro rfl; rw [sm2 _ _ hl] at ht; cases ht
    refine cstep (by omega) (by rw [List.length_map]; exact htl) (smallL (by omega)) (by rw [upd_ne nl.symm]; exact sm2 _ _ hl) ⟨ts ++ [t], ((sm.trans sm2).trans (same_new ht _)).upd hL _, upd_same, by simp, by simp [htl], fun k t' u e1 e2 => ?_⟩
    have nt : ∀ {b xs}, H2 b = some (.tup xs) → b ≠ t ∧ b ≠ L := fun {b xs} e => ⟨fun z => (by rw [z, ht] at e; cases e), fun z => (by rw [z, sm2 _ _ hl] at e; cases e)⟩
    by_cases hk : k < ts.length
    · rw [List.getElem?_append_left hk] at e1
      have z := sm2 _ _ (hts k t' u e1 e2)
      rw [upd_ne (nt z).2, upd_ne (nt z).1]
      exact z
    · have hk' : k = ts.length := by have := (List.getElem?_eq_some_iff.mp e1).1; simp at this; omega
      subst hk'
      rw [List.getElem?_append_right (Nat.le_refl _)] at e1
      simp at e1
      subst e1
      rw [htl, List.getElem?_eq_getElem hiu] at e2
      cases e2
      rw [upd_ne nl, upd_same]
  rintro ys H1 ⟨ts, sm, hl, rfl, htl, hts⟩
  exact q L H1 ts sm hL hl (by omega) hts
end
/-! ### rules laid together, in thought -/
def bareO (t : List (Option Nat)) : List Nat := t.map fun o => o.getD 0
def keyL (t : List Nat) : List (Option Int) := t.map fun k : Nat => some (k : Int)
def stepO (o : List (List Nat)) (t : List (Option Nat)) : List (List Nat) := if none ∈ t then o else if bareO t ∈ o then o else o ++ [bareO t]
def behO (rs : List Rl) (us : List Str) (here : List Nat) : List (List (Option Nat)) := us.map (toAll rs here)
def ordO (rs : List Rl) (us : List Str) : Nat → List (List Nat)
  | 0 => [List.replicate rs.length 0]
  | r + 1 => if r < (ordO rs us r).length then (behO rs us ((ordO rs us r).getD r [])).foldl stepO (ordO rs us r) else ordO rs us r
def numO (o : List (List Nat)) (t : List (Option Nat)) : Option Nat := if none ∈ t then none else some (o.idxOf (bareO t))
def blaO (t : List (Option Nat)) : Option Nat := if none ∈ t then some (t.idxOf none) else none
def hereO (rs : List Rl) (us : List Str) (r : Nat) : List Nat := (ordO rs us r).getD r []
def rowO (rs : List Rl) (us : List Str) (r : Nat) : List (Option Nat) := (behO rs us (hereO rs us r)).map (numO (ordO rs us (r + 1)))
def blmO (rs : List Rl) (us : List Str) (r : Nat) : List (Option Nat) := (behO rs us (hereO rs us r)).map blaO
/-- rooms, one of each rule -/
def InO (rs : List Rl) (t : List Nat) : Prop := t.length = rs.length ∧ ∀ (i : Nat) r k, rs[i]? = some r → t[i]? = some k → k < r.rs.length
theorem stepO_pre (o : List (List Nat)) (t : List (Option Nat)) : ∃ x, stepO o t = o ++ x := by
  unfold stepO; split
  · exact ⟨[], by simp⟩
  · split
    · exact ⟨[], by simp⟩
    · exact ⟨_, rfl⟩
theorem foldO_pre : ∀ (ts : List (List (Option Nat))) (o : List (List Nat)), ∃ x, ts.foldl stepO o = o ++ x
  | [], o => ⟨[], by simp⟩
  | t :: ts, o => by
    obtain ⟨x, e⟩ := stepO_pre o t
    obtain ⟨y, e2⟩ := foldO_pre ts (stepO o t)
    exact ⟨x ++ y, by rw [List.foldl_cons, e2, e, List.append_assoc]⟩
theorem stepO_nd {o : List (List Nat)} {t : List (Option Nat)} (nd : o.Nodup) : (stepO o t).Nodup := by
  unfold stepO; split
  · exact nd
  · split
    · exact nd
    · rename_i h
      exact List.nodup_append.mpr ⟨nd, by simp, fun a ha b hb e => h (by rw [List.mem_singleton.mp hb] at e; exact e ▸ ha)⟩
theorem foldO_nd : ∀ (ts : List (List (Option Nat))) {o : List (List Nat)}, o.Nodup → (ts.foldl stepO o).Nodup
  | [], o, nd => nd
  | t :: ts, o, nd => foldO_nd ts (stepO_nd nd)
theorem stepO_mem {o : List (List Nat)} {t : List (Option Nat)} (h : none ∉ t) : bareO t ∈ stepO o t := by
  unfold stepO; rw [if_neg h]; split
  · assumption
  · simp
theorem toR_in {r : Rl} (ok : RlOk r) {k : Nat} (hk : k < r.rs.length) {u : Str} {j : Nat} (h : toR r k u = some j) : j < r.rs.length := by
  unfold toR at h
  split at h
  · have hg : r.rs.getD k [] = r.rs[k] := by rw [List.getD_eq_getElem?_getD, List.getElem?_eq_getElem hk]; rfl
    rw [hg, List.getD_eq_getElem?_getD] at h
    cases e : (r.rs[k])[r.ws.idxOf u]? with
    | none => rw [e] at h; cases h
    | some o => rw [e] at h; exact (ok.row _ (List.getElem_mem hk)).2 j (by rw [← (show o = some j from h)]; exact List.mem_of_getElem? e)
  · cases h; exact hk
theorem bare_in {rs : List Rl} (ok : ∀ r ∈ rs, RlOk r) {here : List Nat} (hi : InO rs here) {u : Str} (h : none ∉ toAll rs here u) : InO rs (bareO (toAll rs here u)) := by
  refine ⟨by unfold bareO toAll; rw [List.length_map, List.length_zipWith, hi.1]; omega, fun i r k e1 e2 => ?_⟩
  unfold bareO toAll at e2
  rw [List.getElem?_map, List.getElem?_zipWith, e1] at e2
  cases e3 : here[i]? with
  | none => rw [e3] at e2; cases e2
  | some k' =>
    rw [e3] at e2
    have hm : toR r k' u ∈ toAll rs here u := List.mem_of_getElem? (i := i) (by unfold toAll; rw [List.getElem?_zipWith, e1, e3])
    cases e4 : toR r k' u with
    | none => rw [e4] at hm; exact absurd hm h
    | some j =>
      have e2' : (toR r k' u).getD 0 = k := by simpa using e2
      rw [e4] at e2'
      have : j = k := e2'
      subst this
      exact toR_in (ok r (List.mem_of_getElem? e1)) (hi.2 i r k' e1 e3) e4
theorem stepO_in {rs : List Rl} (ok : ∀ r ∈ rs, RlOk r) {here : List Nat} (hi : InO rs here) {u : Str} {o : List (List Nat)} (h : ∀ t ∈ o, InO rs t) : ∀ t ∈ stepO o (toAll rs here u), InO rs t := by
  intro t ht
  unfold stepO at ht
  split at ht
  · exact h t ht
  · rename_i hn
    split at ht
    · exact h t ht
    · rcases List.mem_append.mp ht with z | z
      · exact h t z
      · rw [List.mem_singleton.mp z]; exact bare_in ok hi hn
theorem foldO_in {rs : List Rl} (ok : ∀ r ∈ rs, RlOk r) {here : List Nat} (hi : InO rs here) : ∀ (us : List Str) {o : List (List Nat)}, (∀ t ∈ o, InO rs t) → ∀ t ∈ (behO rs us here).foldl stepO o, InO rs t
  | [], o, h => h
  | u :: us, o, h => foldO_in ok hi us (stepO_in ok hi h)
theorem zero_in {rs : List Rl} (ok : ∀ r ∈ rs, RlOk r) : InO rs (List.replicate rs.length 0) := by
  refine ⟨by simp, fun i r k e1 e2 => ?_⟩
  rw [List.getElem?_replicate] at e2
  split at e2
  · cases e2
    have := (ok r (List.mem_of_getElem? e1)).n0
    omega
  · cases e2
theorem ordO_facts {rs : List Rl} (ok : ∀ r ∈ rs, RlOk r) (us : List Str) : ∀ r, (ordO rs us r).Nodup ∧ (∀ t ∈ ordO rs us r, InO rs t) ∧ 1 ≤ (ordO rs us r).length
  | 0 => ⟨by simp [ordO], fun t ht => by simp [ordO] at ht; rw [ht]; exact zero_in ok, by simp [ordO]⟩
  | r + 1 => by
    obtain ⟨nd, hi, h1⟩ := ordO_facts ok us r
    unfold ordO
    split
    · rename_i hr
      obtain ⟨x, e⟩ := foldO_pre (behO rs us ((ordO rs us r).getD r [])) (ordO rs us r)
      refine ⟨foldO_nd _ nd, foldO_in ok (hi _ ?_) us hi, by rw [e, List.length_append]; omega⟩
      rw [List.getD_eq_getElem?_getD, List.getElem?_eq_getElem hr]; exact List.getElem_mem hr
    · exact ⟨nd, hi, h1⟩
theorem hereO_in {rs : List Rl} (ok : ∀ r ∈ rs, RlOk r) {us : List Str} {r : Nat} (hr : r < (ordO rs us r).length) : InO rs (hereO rs us r) := by
  refine (ordO_facts ok us r).2.1 _ ?_
  unfold hereO
  rw [List.getD_eq_getElem?_getD, List.getElem?_eq_getElem hr]; exact List.getElem_mem hr
/-! at most as many as the rooms multiplied -/
def prodR : List Rl → Nat
  | [] => 1
  | r :: rs => r.rs.length * prodR rs
def encO : List Rl → List Nat → Nat
  | r :: rs, k :: t => k + r.rs.length * encO rs t
  | _, _ => 0
theorem InO.tail {r : Rl} {rs : List Rl} {k : Nat} {t : List Nat} (h : InO (r :: rs) (k :: t)) : k < r.rs.length ∧ InO rs t :=
  ⟨h.2 0 r k rfl rfl, by have := h.1; simpa using this, fun i r' k' e1 e2 => h.2 (i + 1) r' k' (by simpa using e1) (by simpa using e2)⟩
theorem enc_lt : ∀ {rs : List Rl} {t : List Nat}, InO rs t → encO rs t < prodR rs
  | [], t, h => by cases t <;> exact Nat.zero_lt_one
  | r :: rs, [], h => by have := h.1; simp at this
  | r :: rs, k :: t, h => by
    obtain ⟨h1, h2⟩ := h.tail
    have := enc_lt h2
    show k + r.rs.length * encO rs t < r.rs.length * prodR rs
    calc k + r.rs.length * encO rs t < r.rs.length + r.rs.length * encO rs t := by omega
      _ = r.rs.length * (encO rs t + 1) := by rw [Nat.mul_add, Nat.mul_one, Nat.add_comm]
      _ ≤ r.rs.length * prodR rs := Nat.mul_le_mul_left _ this
theorem enc_inj : ∀ {rs : List Rl} {t t' : List Nat}, InO rs t → InO rs t' → encO rs t = encO rs t' → t = t'
  | [], t, t', h, h', _ => by
    have a := h.1; have b := h'.1
    simp at a b
    rw [a, b]
  | r :: rs, [], _, h, _, _ => by have := h.1; simp at this
  | r :: rs, _ :: _, [], _, h, _ => by have := h.1; simp at this
  | r :: rs, k :: t, k' :: t', h, h', e => by
    obtain ⟨h1, h2⟩ := h.tail
    obtain ⟨h1', h2'⟩ := h'.tail
    have e' : k + r.rs.length * encO rs t = k' + r.rs.length * encO rs t' := e
    have m1 : (k + r.rs.length * encO rs t) % r.rs.length = k := by rw [Nat.add_mul_mod_self_left, Nat.mod_eq_of_lt h1]
    have m2 : (k' + r.rs.length * encO rs t') % r.rs.length = k' := by rw [Nat.add_mul_mod_self_left, Nat.mod_eq_of_lt h1']
    have ek : k = k' := by rw [← m1, ← m2, e']
    subst ek
    have e2 : r.rs.length * encO rs t = r.rs.length * encO rs t' := by omega
    rw [enc_inj h2 h2' (Nat.eq_of_mul_eq_mul_left (by omega) e2)]
theorem nodup_le75 : ∀ (n : Nat) (l : List Nat), l.Nodup → (∀ x ∈ l, x < n) → l.length ≤ n
  | 0, l, nd, h => by
    cases l with
    | nil => exact Nat.le_refl _
    | cons a t => exact absurd (h a List.mem_cons_self) (Nat.not_lt_zero _)
  | n + 1, l, nd, h => by
    have h1 := nodup_le75 n (l.filter (· ≠ n)) (nd.filter _) (fun x hx => by
      rw [List.mem_filter] at hx
      have := h x hx.1
      have h2 : x ≠ n := by simpa using hx.2
      omega)
    by_cases hn : n ∈ l
    · have : (l.erase n).length = l.length - 1 := List.length_erase_of_mem hn
      have e : l.erase n = l.filter (· ≠ n) := by rw [List.Nodup.erase_eq_filter nd]; congr 1; funext x; by_cases z : x = n <;> simp [z, bne]
      rw [← e, this] at h1
      omega
    · have e : l.filter (· ≠ n) = l := List.filter_eq_self.mpr fun x hx => by simpa using fun z : x = n => hn (z ▸ hx)
      rw [e] at h1; omega
theorem in_len {rs : List Rl} {o : List (List Nat)} (nd : o.Nodup) (hi : ∀ t ∈ o, InO rs t) : o.length ≤ prodR rs := by
  have h := nodup_le75 (prodR rs) (o.map (encO rs)) (List.pairwise_map.mpr (List.Pairwise.imp_of_mem (fun {a b} ha hb hab e => hab (enc_inj (hi a ha) (hi b hb) e)) nd)) (fun x hx => by
    obtain ⟨t, ht, rfl⟩ := List.mem_map.mp hx
    exact enc_lt (hi t ht))
  rwa [List.length_map] at h
/-! keys -/
theorem keyL_inj : ∀ {t t' : List Nat}, keyL t = keyL t' → t = t'
  | [], [], _ => rfl
  | [], _ :: _, h => by cases h
  | _ :: _, [], h => by cases h
  | a :: t, b :: t', h => by
    have h' : some (a : Int) :: keyL t = some (b : Int) :: keyL t' := h
    have e1 : (a : Int) = b := Option.some.inj (List.cons.inj h').1
    have e2 := keyL_inj (List.cons.inj h').2
    rw [e2, show a = b by omega]
def NumK (kvs : List (List (Option Int) × V)) (o : List (List Nat)) : Prop := kvs.length = o.length ∧ (∀ t ∈ o, valV kvs (keyL t) = some (V.int (o.idxOf t : Nat))) ∧ ∀ k, (∀ t ∈ o, k ≠ keyL t) → valV kvs k = none
theorem NumK.snoc {kvs : List (List (Option Int) × V)} {o : List (List Nat)} {t : List Nat} (h : NumK kvs o) (ht : t ∉ o) : valV kvs (keyL t) = none ∧ NumK (kvs ++ [(keyL t, V.int (o.length : Int))]) (o ++ [t]) := by
  obtain ⟨h1, h2, h3⟩ := h
  have hn : valV kvs (keyL t) = none := h3 _ fun t' ht' e => ht (keyL_inj e ▸ ht')
  refine ⟨hn, by simp [h1], fun t' ht' => ?_, fun k hk => ?_⟩
  · rw [valV_snoc _ _ _ _ hn]
    rcases List.mem_append.mp ht' with z | z
    · rw [if_neg (fun e => by have := keyL_inj e; subst this; exact ht z), h2 t' z, List.idxOf_append, if_pos z]
    · rw [List.mem_singleton.mp z, if_pos rfl, List.idxOf_append, if_neg ht]; simp
  · rw [valV_snoc _ _ _ _ hn, if_neg (hk t (by simp))]
    exact h3 k fun t' ht' => hk t' (by simp [ht'])
theorem NumK.zero (t : List Nat) : NumK [(keyL t, V.int (0 : Int))] [t] := by
  refine ⟨rfl, fun t' ht' => ?_, fun k hk => ?_⟩
  · rw [List.mem_singleton.mp ht', valV_pos rfl]; simp
  · rw [valV_neg (fun e => hk t (by simp) e.symm)]; rfl
/-- the key of a tuple of ways -/
def keyO (t : List (Option Nat)) : List (Option Int) := t.map fun o => o.map fun k : Nat => (k : Int)
theorem keyO_bare {t : List (Option Nat)} (h : none ∉ t) : keyO t = keyL (bareO t) := by
  unfold keyO keyL bareO
  rw [List.map_map]
  refine List.map_congr_left fun o ho => ?_
  cases o with
  | none => exact absurd ho h
  | some k => rfl
theorem keyO_none {t : List (Option Nat)} (h : none ∈ t) (t' : List Nat) : keyO t ≠ keyL t' := fun e => by
  have : none ∈ keyO t := List.mem_map.mpr ⟨none, h, rfl⟩
  rw [e] at this
  unfold keyL at this
  obtain ⟨k, _, e⟩ := List.mem_map.mp this
  cases e
theorem NumK.look {kvs : List (List (Option Int) × V)} {o : List (List Nat)} (h : NumK kvs o) {t : List (Option Nat)} (ht : none ∉ t → bareO t ∈ o) : (valV kvs (keyO t)).getD .non = wayV (numO o t) := by
  unfold numO
  by_cases c : none ∈ t
  · rw [if_pos c, h.2.2 _ fun t' _ => keyO_none c t']; rfl
  · rw [if_neg c, keyO_bare c, h.2.1 _ (ht c)]; rfl
theorem wayV_keys (t : List (Option Nat)) : t.map wayV = (keyO t).map optV := by
  unfold keyO
  rw [List.map_map]
  refine List.map_congr_left fun o _ => ?_
  cases o <;> rfl
/-- a number in a part of the order is that in the whole -/
theorem numO_pre {o x : List (List Nat)} {t : List (Option Nat)} (h : none ∉ t → bareO t ∈ o) : numO (o ++ x) t = numO o t := by
  unfold numO
  split
  · rfl
  · rename_i c; rw [List.idxOf_append, if_pos (h c)]
theorem foldO_mem : ∀ (ts : List (List (Option Nat))) (o : List (List Nat)) {t : List (Option Nat)}, t ∈ ts → none ∉ t → bareO t ∈ ts.foldl stepO o
  | t' :: ts, o, t, h, hn => by
    rcases List.mem_cons.mp h with e | h
    · subst e
      obtain ⟨x, e⟩ := foldO_pre ts (stepO o t)
      rw [List.foldl_cons, e]
      exact List.mem_append_left _ (stepO_mem hn)
    · exact foldO_mem ts _ h hn
section
variable {P : Program} {w : World} {K : PySem.W.Frag} {mg : Str → Option Value} {base : Heap}
def spBlame : Sp := fun vs H Q _ => ∃ (a : Addr) (t : List (Option Nat)), vs = [.ref a] ∧ H a = some (.tup (t.map wayV)) ∧ t.length ≤ 8 ∧ Q (wayV (blaO t)) H
theorem way_flat (t : List (Option Nat)) : (t.map wayV).all flatV = true := by
  rw [List.all_eq_true]
  intro v hv
  obtain ⟨o, _, rfl⟩ := List.mem_map.mp hv
  cases o <;> rfl
theorem way_in (t : List (Option Nat)) : inV V.non (t.map wayV) = decide (none ∈ t) := by
  unfold inV
  rw [List.any_map]
  rw [Bool.eq_iff_iff, List.any_eq_true, decide_eq_true_iff]
  constructor
  · rintro ⟨o, ho, e⟩
    cases o with
    | none => exact ho
    | some k => cases e
  · intro h
    exact ⟨none, h, rfl⟩
theorem idx_keys : ∀ (t : List (Option Nat)), (keyO t).idxOf none = t.idxOf none
  | [] => rfl
  | none :: t => rfl
  | some k :: t => by
    show List.idxOf none (some (k : Int) :: keyO t) = _
    rw [List.idxOf_cons, List.idxOf_cons, idx_keys t]
    rfl
theorem ok_blame (D : DefAt K mg "blame_of" s_blame_of) : Cal P w K mg base 1 "blame_of" ["rooms"] spBlame := by
  refine D.cal sc_blame_of (fun _ _ _ _ _ _ us hl => match us, hl with | [_], _ => rfl) (fun vs H Q E h => by obtain ⟨_, _, rfl, _⟩ := h; rfl) (fun f cdv A outer s H vs Q E hr h => ?_)
  obtain ⟨a, t, rfl, h1, h8, q⟩ := h
  refine ⟨_, (pss_one (ps_ret (pe_ifExp (pt_cmpR (op_inK K) pe_non (pv 0 (hv := v_blame_of_rooms)) (by with_unfolding_all rfl)) (pe_bmT PySem.F.plainAttrs_tuple PySem.F.slot_tuple_index PySem.F.type_tuple_index (mt_indexOT K) (pv 0 (hv := v_blame_of_rooms)) (pa_cons pe_non pa_nil)) pe_non))), ?_⟩
  walk_at "rd1"
  refine ⟨_, .inr (SqT.of h1), rfl, way_flat t, ?_⟩
  rw [way_in]
  unfold blaO at q
  by_cases c : none ∈ t
  · rw [if_pos c] at q
    refine ite2 (fun _ => ?_) (fun z => absurd (decide_eq_true c) z)
    rw [tBMT_at]
    walk_at "rd1"
    refine ⟨a, _, rfl, h1, a, keyO t, none, rfl, rfl, ?_, List.mem_map.mpr ⟨none, c, rfl⟩, ?_⟩
    · rw [← wayV_keys]; exact SqT.of h1
    · rw [idx_keys]; exact q
  · rw [if_neg c] at q
    exact ite2 (fun z => absurd (of_decide_eq_true z) c) (fun _ => q)
end
section
variable {P : Program} {w : World} {K : PySem.W.Frag} {mg : Str → Option Value} {base : Heap}
def OrdAt (H : Hp) (p : Addr) (o : List (List Nat)) : Prop := ∃ ts : List Addr, H p = some (.lst (ts.map V.ref)) ∧ ts.length = o.length ∧ ∀ (i : Nat) a t, ts[i]? = some a → o[i]? = some t → H a = some (.tup (t.map fun k : Nat => V.int (k : Int)))
theorem OrdAt.mono {H H' : Hp} {p : Addr} {o : List (List Nat)} (h : OrdAt H p o) (sm : Same H H') : OrdAt H' p o := by
  obtain ⟨ts, h1, h2, h3⟩ := h
  exact ⟨ts, sm _ _ h1, h2, fun i a t e1 e2 => sm _ _ (h3 i a t e1 e2)⟩
theorem OrdAt.other {H : Hp} {p c : Addr} {o : List (List Nat)} {u : HO} (h : OrdAt H p o) (hc : p ≠ c) (ht : ∀ xs, H c ≠ some (.tup xs)) : OrdAt (upd H c u) p o := by
  obtain ⟨ts, h1, h2, h3⟩ := h
  refine ⟨ts, by rw [upd_ne hc]; exact h1, h2, fun i a t e1 e2 => ?_⟩
  have e := h3 i a t e1 e2
  rw [upd_ne (fun z => by subst z; exact ht _ e)]; exact e
theorem OrdAt.push {H : Hp} {p a : Addr} {o : List (List Nat)} {t : List Nat} {ts : List Addr} (h1 : H p = some (.lst (ts.map V.ref))) (h2 : ts.length = o.length) (h3 : ∀ (i : Nat) a t, ts[i]? = some a → o[i]? = some t → H a = some (.tup (t.map fun k : Nat => V.int (k : Int)))) (e : H a = some (.tup (t.map fun k : Nat => V.int (k : Int)))) : OrdAt (upd H p (.lst (ts.map V.ref ++ [.ref a]))) p (o ++ [t]) := by
  refine ⟨ts ++ [a], by rw [upd_same]; simp, by simp [h2], fun i a' t' e1 e2 => ?_⟩
  have np : ∀ {b xs}, H b = some (.tup xs) → b ≠ p := fun e z => by rw [z, h1] at e; cases e
  by_cases hi : i < ts.length
  · rw [List.getElem?_append_left hi] at e1
    rw [List.getElem?_append_left (by omega)] at e2
    have z := h3 i a' t' e1 e2
    rw [upd_ne (np z)]; exact z
  · have hi' : i = ts.length := by have := (List.getElem?_eq_some_iff.mp e1).1; simp at this; omega
    subst hi'
    rw [List.getElem?_append_right (Nat.le_refl _)] at e1
    rw [h2, List.getElem?_append_right (Nat.le_refl _)] at e2
    simp at e1 e2
    subst e1 e2
    rw [upd_ne (np e)]; exact e
theorem RoomsAs.other {H : Hp} {p c : Addr} {rs : List (List (Option Nat))} {as : List Addr} {u : HO} (h : RoomsAs H p rs as) (hc : p ≠ c) (ha : c ∉ as) : RoomsAs (upd H c u) p rs as := by
  obtain ⟨h1, h2, h3⟩ := h
  refine ⟨by rw [upd_ne hc]; exact h1, h2, fun i a x e1 e2 => ?_⟩
  rw [upd_ne (fun z => by subst z; exact ha (List.mem_of_getElem? e1))]; exact h3 i a x e1 e2
theorem RoomsAs.push {H : Hp} {p a : Addr} {rs : List (List (Option Nat))} {as : List Addr} {x : List (Option Nat)} (h : RoomsAs H p rs as) (hp : p ∉ as) (ha : p ≠ a) (e : H a = some (.lst (x.map wayV))) : RoomsAs (upd H p (.lst (as.map V.ref ++ [.ref a]))) p (rs ++ [x]) (as ++ [a]) := by
  obtain ⟨h1, h2, h3⟩ := h
  refine ⟨by rw [upd_same]; simp, by simp [h2], fun i a' x' e1 e2 => ?_⟩
  by_cases hi : i < as.length
  · rw [List.getElem?_append_left hi] at e1
    rw [List.getElem?_append_left (by omega)] at e2
    rw [upd_ne (fun z => by subst z; exact hp (List.mem_of_getElem? e1))]
    exact h3 i a' x' e1 e2
  · have hi' : i = as.length := by have := (List.getElem?_eq_some_iff.mp e1).1; simp at this; omega
    subst hi'
    rw [List.getElem?_append_right (Nat.le_refl _)] at e1
    rw [h2, List.getElem?_append_right (Nat.le_refl _)] at e2
    simp at e1 e2
    subst e1 e2
    rw [upd_ne ha.symm]; exact e
theorem do_put75 {P : Program} {w : World} {H : Hp} {a c : Addr} {kvs : List (OKey × V)} {xs : List V} {o : HO} (h : DO P w H a kvs) (hc : H c = some (.lst xs)) (hne : a ≠ c) : DO P w (upd H c o) a kvs := by
  obtain ⟨ys, h1, h2, h3, h4⟩ := h
  exact ⟨ys, by rw [upd_ne hne]; exact h1, h2, h3, Paired.imp' (fun p q z => ⟨z.1, z.2.1.mono fun d zs e => by rw [upd_ne (fun z => by subst z; rw [hc] at e; cases e)]; exact e, z.2.2⟩) h4⟩
theorem do_ne75 {P : Program} {w : World} {H : Hp} {a c : Addr} {kvs : List (OKey × V)} {xs : List V} (h : DO P w H a kvs) (hc : H c = some (.lst xs)) : a ≠ c := by
  obtain ⟨ys, h1, _⟩ := h
  rintro rfl
  rw [h1] at hc; cases hc
theorem do_nt75 {P : Program} {w : World} {H : Hp} {a : Addr} {kvs : List (OKey × V)} (h : DO P w H a kvs) : ∀ xs, H a ≠ some (.tup xs) := fun xs z => by
  obtain ⟨ys, h1, _⟩ := h
  rw [h1] at z; cases z
theorem keyL_opt (t : List Nat) : (keyL t).map optV = t.map fun k : Nat => V.int (k : Int) := by unfold keyL; rw [List.map_map]; rfl
theorem bare_way {t : List (Option Nat)} (h : none ∉ t) : t.map wayV = (bareO t).map fun k : Nat => V.int (k : Int) := by
  unfold bareO
  rw [List.map_map]
  refine List.map_congr_left fun o ho => ?_
  cases o with
  | none => exact absurd ho h
  | some k => rfl
theorem WaysL.mono {H H' : Hp} {l : Addr} {rs : List Rl} {us : List Str} (h : WaysL P w H l rs us) (sm : Same H H') : WaysL P w H' l rs us := by
  obtain ⟨ds, h1, h2, h3⟩ := h
  exact ⟨ds, sm _ _ h1, h2, fun i d r e1 e2 => (h3 i d r e1 e2).mono sm⟩
/-- all that laid_by tells, new -/
def LaidAt (H H' : Hp) (pr pb : Addr) (rs : List Rl) (us : List Str) : Prop := ∃ (M : Nat) (as bs : List Addr), M ≤ 60 ∧ M = (ordO rs us M).length ∧ RoomsAs H' pr ((List.range M).map (rowO rs us)) as ∧ RoomsAs H' pb ((List.range M).map (blmO rs us)) bs ∧ (pr :: pb :: (as ++ bs)).Nodup ∧ ∀ a ∈ pr :: pb :: (as ++ bs), H a = none
def spLaidBy (P : Program) (w : World) : Sp := fun vs H Q _ => ∃ (l : Addr) (rs : List Rl) (us : List Str), vs = [.ref l, .int us.length] ∧ WaysL P w H l rs us ∧ rs.length ≤ 8 ∧ us.length ≤ 1000 ∧ (∀ r ∈ rs, RlOk r) ∧ prodR rs ≤ 60 ∧
  ∀ (p pr pb : Addr) (H' : Hp), Same H H' → H p = none → H' p = some (.tup [.ref pr, .ref pb]) → LaidAt H H' pr pb rs us → Q (.ref p) H'
theorem ok_laidby (D : DefAt K mg "laid_by" s_laid_by) (z_len : mg "len" = none) (z_tuple : mg "tuple" = none) (g_MOST_ROOMS : ∃ t, mg "MOST_ROOMS" = some (.int 60 t)) (c_rooms_behind : Cal P w K mg base 1 "rooms_behind" ["ways", "here", "width"] (spBehind P w)) (c_blame_of : Cal P w K mg base 1 "blame_of" ["rooms"] spBlame) : Cal P w K mg base 2 "laid_by" ["ways", "width"] (spLaidBy P w) := by
  refine D.cal sc_laid_by (fun _ _ _ _ _ _ us hl => match us, hl with | [_, _], _ => rfl) (fun vs H Q E h => by obtain ⟨_, _, _, rfl, _⟩ := h; rfl) (fun f cdv A outer s H vs Q E hr h => ?_)
  obtain ⟨l, rs, us, rfl, hW, n8, nu, ok, hpr, q⟩ := h
  obtain ⟨ds, h1, h2, h3⟩ := id hW
  refine ⟨_, (pss_cons (ps_let 2 sc_laid_by.nd (pe_bty (call_tupA K) z_tuple bt_tuple (pa_cons (pe_comp (CompSc.to (fsc := (defScope s_laid_by)) (N := ["ways", "width", "first", "order", "numbers", "rooms", "blames", "behind", "there"]) (N0 := ["ways", "width", "first", "order", "numbers", "rooms", "blames", "behind", "there"]) (T := ["way"]) ⟨by decide +kernel, by decide +kernel, by decide +kernel, by decide +kernel, by decide +kernel, by decide +kernel, by decide +kernel⟩ rfl rfl) rfl (pi_listK K (pv 0 (hv := v_laid_by_ways))) (fun _ _ _ _ => (pg_let 9 (show (["ways", "width", "first", "order", "numbers", "rooms", "blames", "behind", "there", "way"] : List Str).Nodup from by decide +kernel) (hx := (locC (defScope s_laid_by) (by decide +kernel))) (hf := fnC (defScope s_laid_by) (by decide +kernel)))) (gfr_name (show (["ways", "width", "first", "order", "numbers", "rooms", "blames", "behind", "there"] : List Str).length ≤ 9 from by decide)) (fun _ _ _ _ => pifs_nil) (fun _ _ _ _ => pe_int)) pa_nil) (hg := gl_laid_by_tuple)) (hx := l_laid_by_first))
      (pss_cons (ps_let 3 sc_laid_by.nd (pe_lst (pa_cons (pv 2 (hv := v_laid_by_first)) pa_nil)) (hx := l_laid_by_order))
      (pss_cons (ps_let 4 sc_laid_by.nd ((pe_disp1OW P w hr) (pv 2 (hv := v_laid_by_first)) pe_int) (hx := l_laid_by_numbers))
      (pss_cons (ps_let 5 sc_laid_by.nd (pe_lst pa_nil) (hx := l_laid_by_rooms))
      (pss_cons (ps_let 6 sc_laid_by.nd (pe_lst pa_nil) (hx := l_laid_by_blames))
      (pss_cons (ps_while PassesOwn.never (pt_cmpR op_ltA (pe_blt (call_lenK K) z_len bt_len (pa_cons (pv 5 (hv := v_laid_by_rooms)) pa_nil) (hg := gl_laid_by_len)) (pe_blt (call_lenK K) z_len bt_len (pa_cons (pv 3 (hv := v_laid_by_order)) pa_nil) (hg := gl_laid_by_len)) (nomark _)) (pss_cons (ps_let 7 sc_laid_by.nd (pe_cal c_rooms_behind hr (pa_cons (pv 0 (hv := v_laid_by_ways)) (pa_cons (pe_ix (ix_K K) (pv 3 (hv := v_laid_by_order)) (pe_blt (call_lenK K) z_len bt_len (pa_cons (pv 5 (hv := v_laid_by_rooms)) pa_nil) (hg := gl_laid_by_len)) (fun _ _ => rfl)) (pa_cons (pv 1 (hv := v_laid_by_width)) pa_nil))) (hg := gl_laid_by_rooms_behind)) (hx := l_laid_by_behind))
      (pss_cons (ps_for PassesOwn.never rfl (pi_listK K (pv 7 (hv := v_laid_by_behind))) (pg_let 8 sc_laid_by.nd (hx := l_laid_by_there)) (pss_one (ps_if (PW.pt' (pw_and (pt_cmpR (op_notInK K) pe_non (pv 8 (hv := v_laid_by_there)) (by with_unfolding_all rfl)) (pw_and1 (pt_cmpR (op_notInOW P w hr) (pv 8 (hv := v_laid_by_there)) (pv 4 (hv := v_laid_by_numbers)) (by with_unfolding_all rfl))))) (pss_cons (ps_asg (pe_blt (call_lenK K) z_len bt_len (pa_cons (pv 3 (hv := v_laid_by_order)) pa_nil) (hg := gl_laid_by_len)) (pg_sub (pv 4 (hv := v_laid_by_numbers)) (pv 8 (hv := v_laid_by_there)) (set_OW P w hr)))
      (pss_one (ps_expr (pe_bmK K PySem.F.plainAttrs_list PySem.F.slot_list_append PySem.F.type_list_append mt_appendA (pv 3 (hv := v_laid_by_order)) (pa_cons (pv 8 (hv := v_laid_by_there)) pa_nil))))) pss_nil)))
      (pss_cons (ps_if (pt_cmpR op_gt (pe_blt (call_lenK K) z_len bt_len (pa_cons (pv 3 (hv := v_laid_by_order)) pa_nil) (hg := gl_laid_by_len)) (pe_gint g_MOST_ROOMS (hg := gl_laid_by_MOST_ROOMS)) (nomark _)) (pss_one ps_never) pss_nil)
      (pss_cons (ps_expr (pe_bmK K PySem.F.plainAttrs_list PySem.F.slot_list_append PySem.F.type_list_append mt_appendA (pv 5 (hv := v_laid_by_rooms)) (pa_cons (pe_comp (CompSc.to (fsc := (defScope s_laid_by)) (N := ["ways", "width", "first", "order", "numbers", "rooms", "blames", "behind", "there"]) (N0 := ["ways", "width", "first", "order", "numbers", "rooms", "blames", "behind", "there'"]) (T := ["there"]) ⟨by decide +kernel, by decide +kernel, by decide +kernel, by decide +kernel, by decide +kernel, by decide +kernel, by decide +kernel⟩ rfl rfl) rfl (pi_listK K (pv 7 (hv := v_laid_by_behind))) (fun _ _ _ _ => (pg_let 9 (show (["ways", "width", "first", "order", "numbers", "rooms", "blames", "behind", "there'", "there"] : List Str).Nodup from by decide +kernel) (hx := (locC (defScope s_laid_by) (by decide +kernel))) (hf := fnC (defScope s_laid_by) (by decide +kernel)))) (gfr_name (show (["ways", "width", "first", "order", "numbers", "rooms", "blames", "behind", "there"] : List Str).length ≤ 9 from by decide)) (fun _ _ _ _ => pifs_nil) (fun _ _ _ _ => (pe_getOW P w hr (pv 4 (hv := (visC (defScope s_laid_by) (by decide +kernel)))) (pv 9 (hv := (visC (defScope s_laid_by) (by decide +kernel)))) ⟨rfl, rfl, rfl, rfl⟩))) pa_nil)))
      (pss_one (ps_expr (pe_bmK K PySem.F.plainAttrs_list PySem.F.slot_list_append PySem.F.type_list_append mt_appendA (pv 6 (hv := v_laid_by_blames)) (pa_cons (pe_comp (CompSc.to (fsc := (defScope s_laid_by)) (N := ["ways", "width", "first", "order", "numbers", "rooms", "blames", "behind", "there"]) (N0 := ["ways", "width", "first", "order", "numbers", "rooms", "blames", "behind", "there'"]) (T := ["there"]) ⟨by decide +kernel, by decide +kernel, by decide +kernel, by decide +kernel, by decide +kernel, by decide +kernel, by decide +kernel⟩ rfl rfl) rfl (pi_listK K (pv 7 (hv := v_laid_by_behind))) (fun _ _ _ _ => (pg_let 9 (show (["ways", "width", "first", "order", "numbers", "rooms", "blames", "behind", "there'", "there"] : List Str).Nodup from by decide +kernel) (hx := (locC (defScope s_laid_by) (by decide +kernel))) (hf := fnC (defScope s_laid_by) (by decide +kernel)))) (gfr_name (show (["ways", "width", "first", "order", "numbers", "rooms", "blames", "behind", "there"] : List Str).length ≤ 9 from by decide)) (fun _ _ _ _ => pifs_nil) (fun _ _ _ _ => (pe_cal c_blame_of hr (pa_cons (pv 9 (hv := (visC (defScope s_laid_by) (by decide +kernel)))) pa_nil) (hg := (glC (defScope s_laid_by) (by decide +kernel)))))) pa_nil)))))))))
      (pss_one (ps_ret (pe_tup (pa_cons (pv 5 (hv := v_laid_by_rooms)) (pa_cons (pv 6 (hv := v_laid_by_blames)) pa_nil))))))))))), ?_⟩
  walk_at "rd1"
  refine ⟨⟨_, SqL.of h1⟩, fun L hL => ?_⟩
  refine compW_list (xs := ds.map V.ref) (fun i ys H' => Same H H' ∧ H' L = some (.lst ys) ∧ ys = (List.replicate i 0).map fun k : Nat => V.int (k : Int)) ⟨same_new hL _, upd_same, rfl⟩ (fun i ys H' _ h => SqL.of (h.1 _ _ h1)) ?_ ?_
  · rintro i ys H' v hv hi ⟨sm, hl, rfl⟩
    rw [List.length_map] at hi
    walk_at "rd1"
    exact cstep (by rw [List.length_map]; exact hi) (by simp) (by rw [List.length_map]; exact smallL (by omega)) hl ⟨sm.upd hL _, upd_same, by rw [List.replicate_succ', List.map_append]; rfl⟩
  rintro ys H1 ⟨s1, hl, rfl⟩
  rw [List.length_map, h2] at hl
  walk_at "rd1"
  refine ⟨_, .inl ⟨SqL.of hl, fun ft hft => ?_⟩⟩
  have s2 := same_new hft (.tup ((List.replicate rs.length 0).map fun k : Nat => V.int (k : Int)))
  have e2 : upd H1 ft (.tup ((List.replicate rs.length 0).map fun k : Nat => V.int (k : Int))) ft = some (.tup ((List.replicate rs.length 0).map fun k : Nat => V.int (k : Int))) := upd_same
  generalize upd H1 ft (.tup ((List.replicate rs.length 0).map fun k : Nat => V.int (k : Int))) = H2 at s2 e2 ⊢
  walk_at "nx"
  refine ⟨by decide, fun op hop => ?_⟩
  have s3 := same_new hop (.lst [V.ref ft])
  have e3 : upd H2 op (.lst [V.ref ft]) op = some (.lst ([ft].map V.ref)) := upd_same
  generalize upd H2 op (.lst [V.ref ft]) = H3 at s3 e3 ⊢
  walk_at "nx"
  rw [tDisp1O_at]
  refine fun mp hmp u hu => ?_
  have s4 := same_new hmp u
  generalize upd H3 mp u = H4 at s4 hu ⊢
  walk_at "rd1"
  refine ⟨ft, keyL (List.replicate rs.length 0), rfl, ?_, hu, fun u' hu' => ?_⟩
  · show H4 ft = some (.tup _)
    rw [keyL_opt]; exact (s3.trans s4) _ _ e2
  have o4 : OrdAt H4 op (ordO rs us 0) := ⟨[ft], s4 _ _ e3, rfl, fun i a t z1 z2 => by
    match i, z1, z2 with
    | 0, z1, z2 => cases z1; cases z2; exact (s3.trans s4) _ _ e2
    | i + 1, z1, z2 => simp at z1⟩
  have hs3 : Same H H3 := (s1.trans s2).trans s3
  have hmp0 : H mp = none := hs3.free hmp
  have s04 : Same H (upd H4 mp u') := (hs3.trans s4).upd hmp0 u'
  have o5 := o4.other (u := u') (Ne.symm (do_ne75 hu (s4 _ _ e3))) (do_nt75 hu)
  generalize upd H4 mp u' = H5 at o5 s04 hu' ⊢
  walk_at "nx"
  refine ⟨by decide, fun rp hrp => ?_⟩
  have s6 := same_new hrp (.lst [])
  have e6 : upd H5 rp (.lst []) rp = some (.lst (([] : List Addr).map V.ref)) := upd_same
  generalize upd H5 rp (.lst []) = H6 at s6 e6 ⊢
  walk_at "nx"
  refine ⟨by decide, fun bp hbp => ?_⟩
  have s7 := same_new hbp (.lst [])
  have e7 : upd H6 bp (.lst []) bp = some (.lst (([] : List Addr).map V.ref)) := upd_same
  generalize upd H6 bp (.lst []) = H7 at s7 e7 ⊢
  obtain ⟨_, oo, _⟩ := id o5
  have n1 : op ≠ rp := ne_of_none oo hrp
  have n2 : op ≠ bp := ne_of_none (s6 _ _ oo) hbp
  have n3 : rp ≠ bp := ne_of_none e6 hbp
  have hop0 : H op = none := (s1.trans s2).free hop
  have hrp0 : H rp = none := s04.free hrp
  have hbp0 : H bp = none := (s04.trans s6).free hbp
  walk_at "nx"
  refine ⟨fun mm σ H' => ∃ (r : Nat) (as bs : List Addr) (kvs : List (OKey × V)) (o7 o8 : Option V), mm = 61 - r ∧ σ = [some (.ref l), some (.int us.length), some (.ref ft), some (.ref op), some (.ref mp), some (.ref rp), some (.ref bp), o7, o8] ∧ Same H H' ∧ OrdAt H' op (ordO rs us r) ∧ DO P w H' mp kvs ∧ NumK kvs (ordO rs us r) ∧ RoomsAs H' rp ((List.range r).map (rowO rs us)) as ∧ RoomsAs H' bp ((List.range r).map (blmO rs us)) bs ∧ (op :: rp :: bp :: (as ++ bs)).Nodup ∧ (∀ a ∈ as ++ bs, H a = none) ∧ r ≤ (ordO rs us r).length,
    ⟨_, 0, [], [], _, none, none, rfl, rfl, (s04.trans s6).trans s7, o5.mono (s6.trans s7), hu'.mono (s6.trans s7), NumK.zero _, ⟨s7 _ _ e6, rfl, fun i a x z => by simp at z⟩, ⟨e7, rfl, fun i a x z => by simp at z⟩, by simp [n1, n2, n3], by simp, by simp [ordO]⟩, ?_⟩
  rintro mm σ H' ⟨r, as, bs, kvs, o7, o8, em, rfl, sm, hO, hM, hN, hA, hB, nd, hfr, hrl⟩
  obtain ⟨fnd, fin, fl1⟩ := ordO_facts ok us r
  have hlen := in_len fnd fin
  obtain ⟨ts, t1, t2, t3⟩ := id hO
  walk_at "rd1"
  have hAl : as.length = r := by have := hA.2.1; simpa using this
  refine ⟨_, .inl (SqL.of hA.1), _, .inl (SqL.of t1), ?_⟩
  rw [List.length_map, List.length_map, hAl, t2]
  by_cases hend : r < (ordO rs us r).length
  rotate_left
  · refine ite2 (fun c => absurd (by omega) hend) (fun _ => ?_)
    walk_at "nx"
    refine ⟨by decide, fun p hp => ?_⟩
    have ndr := List.nodup_cons.mp nd
    have s' := same_new hp (.tup [V.ref rp, V.ref bp])
    refine q p rp bp _ (sm.trans s') (sm.free hp) upd_same ⟨r, as, bs, by omega, by omega, hA.mono s', hB.mono s', ndr.2, fun a ha => ?_⟩
    rcases List.mem_cons.mp ha with rfl | ha
    · exact hrp0
    rcases List.mem_cons.mp ha with rfl | ha
    · exact hbp0
    · exact hfr a ha
  refine ite2 (fun _ => ?_) (fun c => absurd (by omega) c)
  have hin := hereO_in ok hend
  have hgr : (ordO rs us r)[r]? = some (hereO rs us r) := by unfold hereO; rw [List.getD_eq_getElem?_getD, List.getElem?_eq_getElem hend]; rfl
  obtain ⟨tx, htx⟩ : ∃ tx, ts[r]? = some tx := ⟨ts[r], List.getElem?_eq_getElem (by omega)⟩
  have etx := t3 r tx _ htx hgr
  refine ⟨_, fun _ _ h => h, _, .inl (SqL.of hA.1), _, _, .inl (SqL.of t1), atI_nat (v := .ref tx) (by rw [List.length_map, hAl, List.getElem?_map, htx]; rfl), ?_⟩
  refine ⟨l, tx, rs, us, hereO rs us r, rfl, hW.mono sm, n8, nu, etx, hin.1, hin.2, fun bl H8 ys s8 hbl eb hyl hys => ?_⟩
  obtain ⟨nmA, nmB, nmO⟩ : mp ≠ rp ∧ mp ≠ bp ∧ mp ≠ op := ⟨do_ne75 hM hA.1, do_ne75 hM hB.1, do_ne75 hM t1⟩
  have hbl0 : H bl = none := sm.free hbl
  have nbo : bl ≠ op := Ne.symm (ne_of_none t1 hbl)
  have nbm : bl ≠ mp := by obtain ⟨zs, z, _⟩ := hM; exact Ne.symm (ne_of_none z hbl)
  have sm8 := sm.trans s8
  have hys' : ∀ (k : Nat) t (hk : k < us.length), ys[k]? = some t → H8 t = some (.tup ((toAll rs (hereO rs us r) us[k]).map wayV)) := fun k t hk e => hys k t us[k] e (List.getElem?_eq_getElem hk)
  walk_at "nx"
  refine ⟨⟨_, SqL.of eb⟩, ?_⟩
  refine forW_list (xs := ys.map V.ref) (fun k σ H'' => ∃ (kv2 : List (OKey × V)) (o8 : Option V), σ = [some (.ref l), some (.int us.length), some (.ref ft), some (.ref op), some (.ref mp), some (.ref rp), some (.ref bp), some (.ref bl), o8] ∧ Same H H'' ∧ H'' bl = some (.lst (ys.map V.ref)) ∧ (∀ (k : Nat) t (hk : k < us.length), ys[k]? = some t → H'' t = some (.tup ((toAll rs (hereO rs us r) us[k]).map wayV))) ∧ OrdAt H'' op (((behO rs us (hereO rs us r)).take k).foldl stepO (ordO rs us r)) ∧ DO P w H'' mp kv2 ∧ NumK kv2 (((behO rs us (hereO rs us r)).take k).foldl stepO (ordO rs us r)) ∧ RoomsAs H'' rp ((List.range r).map (rowO rs us)) as ∧ RoomsAs H'' bp ((List.range r).map (blmO rs us)) bs)
    ⟨kvs, o8, rfl, sm8, eb, hys', hO.mono s8, hM.mono s8, hN, hA.mono s8, hB.mono s8⟩ (fun k σ H'' _ h => by obtain ⟨_, _, _, _, z, _⟩ := h; exact SqL.of z) ?_ ?_
  · rintro k v σ H'' hv ⟨kv2, o8, rfl, sx, ebx, hyx, hOx, hMx, hNx, hAx, hBx⟩
    have hk : k < ys.length := by have := (List.getElem?_eq_some_iff.mp hv).1; simpa using this
    have hku : k < us.length := by omega
    rw [List.getElem?_map, List.getElem?_eq_getElem hk] at hv
    cases hv
    have ety := hyx k ys[k] hku (List.getElem?_eq_getElem hk)
    have hst : ((behO rs us (hereO rs us r)).take (k + 1)).foldl stepO (ordO rs us r) = stepO (((behO rs us (hereO rs us r)).take k).foldl stepO (ordO rs us r)) (toAll rs (hereO rs us r) us[k]) := by
      rw [List.take_add_one, List.foldl_append]
      unfold behO
      rw [List.getElem?_map, List.getElem?_eq_getElem hku]
      rfl
    have pnd : (((behO rs us (hereO rs us r)).take k).foldl stepO (ordO rs us r)).Nodup := foldO_nd _ fnd
    have pin : ∀ t ∈ ((behO rs us (hereO rs us r)).take k).foldl stepO (ordO rs us r), InO rs t := by
      unfold behO
      rw [← List.map_take]
      exact foldO_in ok hin (us.take k) fin
    have plen := in_len pnd pin
    rw [hst]
    generalize ((behO rs us (hereO rs us r)).take k).foldl stepO (ordO rs us r) = o' at hOx hNx pnd pin plen ⊢
    generalize toAll rs (hereO rs us r) us[k] = t at ety ⊢
    walk_at "rd1"
    refine ⟨_, .inr (SqT.of ety), rfl, way_flat t, ?_⟩
    rw [way_in]
    by_cases c : none ∈ t
    · refine ite2 (fun z => by rw [decide_eq_true c] at z; cases z) (fun _ => ?_)
      have e : stepO o' t = o' := by unfold stepO; rw [if_pos c]
      rw [e]
      exact ⟨kv2, _, rfl, sx, ebx, hyx, hOx, hMx, hNx, hAx, hBx⟩
    refine ite2 (fun _ => ?_) (fun z => absurd (by rw [decide_eq_false c]; rfl) z)
    have hkey : KeyO H'' (keyL (bareO t)) ys[k] := by
      show H'' ys[k] = some (.tup _)
      rw [keyL_opt, ← bare_way c]; exact ety
    refine ⟨ys[k], mp, keyL (bareO t), kv2, rfl, rfl, hMx, hkey, _, rfl, ?_⟩
    by_cases c2 : bareO t ∈ o'
    · rw [hNx.2.1 _ c2]
      refine ite2 (fun z => by cases z) (fun _ => ?_)
      have e : stepO o' t = o' := by unfold stepO; rw [if_neg c, if_pos c2]
      rw [e]
      exact ⟨kv2, _, rfl, sx, ebx, hyx, hOx, hMx, hNx, hAx, hBx⟩
    obtain ⟨hvn, hN2⟩ := hNx.snoc c2
    rw [hvn]
    refine ite2 (fun _ => ?_) (fun z => absurd rfl z)
    have e : stepO o' t = o' ++ [bareO t] := by unfold stepO; rw [if_neg c, if_neg c2]
    rw [e]
    obtain ⟨us2, a1, a2, a3⟩ := id hOx
    refine ⟨_, .inl (SqL.of a1), mp, ys[k], keyL (bareO t), kv2, rfl, rfl, hMx, hkey, hvn, small' (by have := hNx.1; omega), fun uu huu => ?_⟩
    rw [List.length_map, a2] at huu
    have ntm := do_nt75 hMx
    have hO2 := hOx.other (u := uu) (Ne.symm (do_ne75 hMx a1)) ntm
    have keepT : ∀ {c : Addr} {xs : List V}, H'' c = some (.tup xs) → upd H'' mp uu c = some (.tup xs) := fun {c xs} e => by rw [upd_ne (fun z => by subst z; exact ntm _ e)]; exact e
    have ety2 := keepT ety
    have hyx2 : ∀ (k : Nat) t (hk : k < us.length), ys[k]? = some t → upd H'' mp uu t = some (.tup ((toAll rs (hereO rs us r) us[k]).map wayV)) := fun k t hk e => keepT (hyx k t hk e)
    have ebx2 : upd H'' mp uu bl = some (.lst (ys.map V.ref)) := by rw [upd_ne nbm]; exact ebx
    have nml : ∀ a ∈ as ++ bs, a ≠ mp := fun a ha => by
      rcases List.mem_append.mp ha with z | z
      · obtain ⟨i, hi, rfl⟩ := List.mem_iff_getElem.mp z
        exact Ne.symm (do_ne75 hMx (hAx.2.2 i as[i] _ (List.getElem?_eq_getElem hi) (List.getElem?_eq_getElem (by rw [← hAx.2.1]; exact hi))))
      · obtain ⟨i, hi, rfl⟩ := List.mem_iff_getElem.mp z
        exact Ne.symm (do_ne75 hMx (hBx.2.2 i bs[i] _ (List.getElem?_eq_getElem hi) (List.getElem?_eq_getElem (by rw [← hBx.2.1]; exact hi))))
    have hA2 := hAx.other (u := uu) (Ne.symm nmA) (fun z => nml _ (List.mem_append_left _ z) rfl)
    have hB2 := hBx.other (u := uu) (Ne.symm nmB) (fun z => nml _ (List.mem_append_right _ z) rfl)
    have sx2 := sx.upd hmp0 uu
    generalize upd H'' mp uu = G at huu hO2 ety2 hyx2 ebx2 hA2 hB2 sx2 ⊢
    obtain ⟨us3, b1, b2, b3⟩ := id hO2
    walk_at "nx"
    refine ⟨⟨_, SqL.of b1⟩, _, b1, by rw [List.length_map]; exact small' (by omega), ?_⟩
    have hO3 := OrdAt.push (t := bareO t) b1 b2 b3 (by rw [← bare_way c]; exact ety2)
    have ntop : ∀ xs, G op ≠ some (.tup xs) := fun xs z => by rw [b1] at z; cases z
    have ndo := List.nodup_cons.mp nd
    have nol : op ∉ as ++ bs := fun z => ndo.1 (List.mem_cons_of_mem _ (List.mem_cons_of_mem _ z))
    refine ⟨_, _, rfl, sx2.upd hop0 _, by rw [upd_ne nbo]; exact ebx2, fun k t hk e => ?_, hO3, do_put75 huu b1 nmO, hN2, hA2.other n1.symm (fun z => nol (List.mem_append_left _ z)), hB2.other n2.symm (fun z => nol (List.mem_append_right _ z))⟩
    have z := hyx2 k t hk e
    rw [upd_ne (fun z' => by subst z'; exact ntop _ z)]; exact z
  rintro σ H9 ⟨kv2, o9, rfl, sx, ebx, hyx, hOx, hMx, hNx, hAx, hBx⟩
  have ho' : ((behO rs us (hereO rs us r)).take (ys.map V.ref).length).foldl stepO (ordO rs us r) = ordO rs us (r + 1) := by
    rw [List.length_map, List.take_of_length_le (by unfold behO; rw [List.length_map]; omega)]
    conv => rhs; unfold ordO
    rw [if_pos hend]; rfl
  rw [ho'] at hOx hNx
  obtain ⟨fnd', fin', fl'⟩ := ordO_facts ok us (r + 1)
  have hlen' := in_len fnd' fin'
  obtain ⟨us2, a1, a2, a3⟩ := id hOx
  walk_at "nx"
  refine ⟨_, .inl (SqL.of a1), ite2 (fun z => ?_) (fun _ => ?_)⟩
  · rw [List.length_map, a2] at z; omega
  walk_at "nx"
  have hrow : ∀ (i : Nat) (hi : i < us.length), (rowO rs us r)[i]? = some (numO (ordO rs us (r + 1)) (toAll rs (hereO rs us r) us[i])) := fun i hi => by
    unfold rowO behO; rw [List.getElem?_map, List.getElem?_map, List.getElem?_eq_getElem hi]; rfl
  have hblm : ∀ (i : Nat) (hi : i < us.length), (blmO rs us r)[i]? = some (blaO (toAll rs (hereO rs us r) us[i])) := fun i hi => by
    unfold blmO behO; rw [List.getElem?_map, List.getElem?_map, List.getElem?_eq_getElem hi]; rfl
  have hrl1 : (rowO rs us r).length = us.length := by unfold rowO behO; simp
  have hrl2 : (blmO rs us r).length = us.length := by unfold blmO behO; simp
  have htl : ∀ u, (toAll rs (hereO rs us r) u).length ≤ 8 := fun u => by unfold toAll; rw [List.length_zipWith]; omega
  refine ⟨⟨_, SqL.of hAx.1⟩, ⟨_, SqL.of ebx⟩, fun L1 hL1 => ?_⟩
  refine compW_list (xs := ys.map V.ref) (fun i zs H' => Same H9 H' ∧ H' L1 = some (.lst zs) ∧ zs = ((rowO rs us r).take i).map wayV) ⟨same_new hL1 _, upd_same, rfl⟩ (fun i zs H' _ h => SqL.of (h.1 _ _ ebx)) ?_ ?_
  · rintro i zs H' v hv hi ⟨s', hl', rfl⟩
    rw [List.length_map] at hi
    have hiu : i < us.length := by omega
    rw [List.getElem?_map, List.getElem?_eq_getElem hi] at hv
    cases hv
    have ety := s' _ _ (hyx i ys[i] hiu (List.getElem?_eq_getElem hi))
    have hk' : KeyO H' (keyO (toAll rs (hereO rs us r) us[i])) ys[i] := by
      show H' ys[i] = some (.tup _)
      rw [← wayV_keys]; exact ety
    have hlook := hNx.look (t := toAll rs (hereO rs us r) us[i]) (fun c => by
      have := foldO_mem (behO rs us (hereO rs us r)) (ordO rs us r) (t := toAll rs (hereO rs us r) us[i]) (List.mem_map.mpr ⟨us[i], List.getElem_mem hiu, rfl⟩) c
      conv => arg 1; unfold ordO
      rw [if_pos hend]; exact this)
    walk_at "rd1"
    rw [tDGetO_at]
    walk_at "rd1"
    refine ⟨mp, kv2, rfl, hMx.mono s', ys[i], _, kv2, rfl, hMx.mono s', hk', ?_⟩
    rw [hlook]
    exact cstep (by rw [List.length_map]; exact hi) (by rw [List.length_map, List.length_take]; omega) (by rw [List.length_map]; exact smallL (by omega)) hl' ⟨s'.upd hL1 _, upd_same, by rw [List.take_add_one, hrow i hiu, List.map_append]; rfl⟩
  rintro zs H10 ⟨s10, hl10, rfl⟩
  rw [List.length_map, List.take_of_length_le (by omega)] at hl10
  have hA10 := hAx.mono s10
  have ndo := List.nodup_cons.mp nd
  have ndr := List.nodup_cons.mp ndo.2
  have ndb := List.nodup_cons.mp ndr.2
  have nL1 : ∀ {b o}, H9 b = some o → b ≠ L1 := fun e => ne_of_none e hL1
  have elA : ∀ a ∈ as, ∃ o, H9 a = some o := fun a ha => by
    obtain ⟨i, hi, rfl⟩ := List.mem_iff_getElem.mp ha
    exact ⟨_, hAx.2.2 i as[i] _ (List.getElem?_eq_getElem hi) (List.getElem?_eq_getElem (by rw [← hAx.2.1]; exact hi))⟩
  have elB : ∀ a ∈ bs, ∃ o, H9 a = some o := fun a ha => by
    obtain ⟨i, hi, rfl⟩ := List.mem_iff_getElem.mp ha
    exact ⟨_, hBx.2.2 i bs[i] _ (List.getElem?_eq_getElem hi) (List.getElem?_eq_getElem (by rw [← hBx.2.1]; exact hi))⟩
  have hL10 : H L1 = none := sx.free hL1
  have rpa : rp ∉ as ++ bs := fun z => ndr.1 (List.mem_cons_of_mem _ z)
  refine ⟨_, hA10.1, by rw [List.length_map]; exact small' (by omega), ?_⟩
  have hA11 := hA10.push (fun z => rpa (List.mem_append_left _ z)) (nL1 hAx.1) hl10
  have hB11 := (hBx.mono s10).other (c := rp) (u := .lst (as.map V.ref ++ [.ref L1])) (Ne.symm n3) (fun z => rpa (List.mem_append_right _ z))
  have hO11 := (hOx.mono s10).other (c := rp) (u := .lst (as.map V.ref ++ [.ref L1])) n1 (fun xs z => by rw [hA10.1] at z; cases z)
  have hM11 := do_put75 (hMx.mono s10) (o := .lst (as.map V.ref ++ [.ref L1])) hA10.1 nmA
  have nbr : bl ≠ rp := Ne.symm (ne_of_none hA.1 hbl)
  have nbb : bl ≠ bp := Ne.symm (ne_of_none hB.1 hbl)
  have eb11 : upd H10 rp (.lst (as.map V.ref ++ [.ref L1])) bl = some (.lst (ys.map V.ref)) := by rw [upd_ne nbr]; exact s10 _ _ ebx
  have hy11 : ∀ (k : Nat) t (hk : k < us.length), ys[k]? = some t → upd H10 rp (.lst (as.map V.ref ++ [.ref L1])) t = some (.tup ((toAll rs (hereO rs us r) us[k]).map wayV)) := fun k t hk e => by
    have z := s10 _ _ (hyx k t hk e)
    rw [upd_ne (fun z' => by subst z'; rw [hA10.1] at z; cases z)]; exact z
  have sx11 := (sx.trans s10).upd hrp0 (.lst (as.map V.ref ++ [.ref L1]))
  have el11 : ∀ b o, H9 b = some o → ∃ o', upd H10 rp (.lst (as.map V.ref ++ [.ref L1])) b = some o' := fun b o e => by
    by_cases c : b = rp
    · exact ⟨_, by rw [c]; exact upd_same⟩
    · exact ⟨o, by rw [upd_ne c]; exact s10 _ _ e⟩
  have elL1 : upd H10 rp (.lst (as.map V.ref ++ [.ref L1])) L1 = some (.lst ((rowO rs us r).map wayV)) := by rw [upd_ne (Ne.symm (nL1 hAx.1))]; exact hl10
  generalize upd H10 rp (.lst (as.map V.ref ++ [.ref L1])) = H11 at hA11 hB11 hO11 hM11 eb11 hy11 sx11 el11 elL1 ⊢
  walk_at "nx"
  refine ⟨⟨_, SqL.of hB11.1⟩, ⟨_, SqL.of eb11⟩, fun L2 hL2 => ?_⟩
  refine compW_list (xs := ys.map V.ref) (fun i zs H' => Same H11 H' ∧ H' L2 = some (.lst zs) ∧ zs = ((blmO rs us r).take i).map wayV) ⟨same_new hL2 _, upd_same, rfl⟩ (fun i zs H' _ h => SqL.of (h.1 _ _ eb11)) ?_ ?_
  · rintro i zs H' v hv hi ⟨s', hl', rfl⟩
    rw [List.length_map] at hi
    have hiu : i < us.length := by omega
    rw [List.getElem?_map, List.getElem?_eq_getElem hi] at hv
    cases hv
    walk_at "rd1"
    refine ⟨ys[i], _, rfl, s' _ _ (hy11 i ys[i] hiu (List.getElem?_eq_getElem hi)), htl _, ?_⟩
    exact cstep (by rw [List.length_map]; exact hi) (by rw [List.length_map, List.length_take]; omega) (by rw [List.length_map]; exact smallL (by omega)) hl' ⟨s'.upd hL2 _, upd_same, by rw [List.take_add_one, hblm i hiu, List.map_append]; rfl⟩
  rintro zs H12 ⟨s12, hl12, rfl⟩
  rw [List.length_map, List.take_of_length_le (by omega)] at hl12
  have hB12 := hB11.mono s12
  have bpa : bp ∉ as ++ bs := ndb.1
  have hBl : bs.length = r := by have := hB.2.1; simpa using this
  refine ⟨_, hB12.1, by rw [List.length_map]; exact small' (by omega), ?_⟩
  have nL2 : ∀ {b o}, H11 b = some o → b ≠ L2 := fun e => ne_of_none e hL2
  have nbL : bp ≠ L1 := nL1 hBx.1
  have hB13 := hB12.push (fun z => bpa (List.mem_append_right _ z)) (nL2 hB11.1) hl12
  have hA13 := (hA11.mono s12).other (c := bp) (u := .lst (bs.map V.ref ++ [.ref L2])) n3 (fun z => by
    rcases List.mem_append.mp z with z | z
    · exact bpa (List.mem_append_left _ z)
    · exact nbL (List.mem_singleton.mp z))
  have hO13 := (hO11.mono s12).other (c := bp) (u := .lst (bs.map V.ref ++ [.ref L2])) n2 (fun xs z => by rw [hB12.1] at z; cases z)
  have hM13 := do_put75 (hM11.mono s12) (o := .lst (bs.map V.ref ++ [.ref L2])) hB12.1 nmB
  have mapS : ∀ {β : Type} (f : Nat → β), (List.range (r + 1)).map f = (List.range r).map f ++ [f r] := fun f => by rw [List.range_succ, List.map_append]; rfl
  refine ⟨61 - (r + 1), by omega, r + 1, as ++ [L1], bs ++ [L2], kv2, _, _, rfl, rfl, (sx11.trans s12).upd hbp0 _, hO13, hM13, hNx, by rw [mapS]; exact hA13, by rw [mapS]; exact hB13, ?_, fun a ha => ?_, ?_⟩
  · have pm : (op :: rp :: bp :: ((as ++ [L1]) ++ (bs ++ [L2]))).Perm (L2 :: L1 :: op :: rp :: bp :: (as ++ bs)) := by
      rw [List.perm_iff_count]
      intro a
      simp only [List.count_cons, List.count_append, List.count_nil]
      omega
    have all9 : ∀ a ∈ op :: rp :: bp :: (as ++ bs), ∃ o, H9 a = some o := fun a ha => by
      simp only [List.mem_cons, List.mem_append] at ha
      rcases ha with rfl | rfl | rfl | z | z
      · exact ⟨_, a1⟩
      · exact ⟨_, hAx.1⟩
      · exact ⟨_, hBx.1⟩
      · exact elA a z
      · exact elB a z
    refine pm.nodup_iff.mpr (List.nodup_cons.mpr ⟨fun z => ?_, List.nodup_cons.mpr ⟨fun z => ?_, nd⟩⟩)
    · rcases List.mem_cons.mp z with z | z
      · exact nL2 elL1 z.symm
      · obtain ⟨o, e⟩ := all9 _ z
        obtain ⟨o', e'⟩ := el11 _ o e
        exact nL2 e' rfl
    · obtain ⟨o, e⟩ := all9 _ z
      exact nL1 e rfl
  · simp only [List.mem_append, List.mem_singleton] at ha
    rcases ha with (z | z) | (z | z)
    · exact hfr a (List.mem_append_left _ z)
    · rw [z]; exact hL10
    · exact hfr a (List.mem_append_right _ z)
    · rw [z]; exact sx11.free hL2
  · have e : ordO rs us (r + 1) = (behO rs us (hereO rs us r)).foldl stepO (ordO rs us r) := by
      conv => lhs; unfold ordO
      rw [if_pos hend]; rfl
    obtain ⟨x, e'⟩ := foldO_pre (behO rs us (hereO rs us r)) (ordO rs us r)
    rw [e, e', List.length_append]; omega
end
section
variable {P : Program} {w : World} {K : PySem.W.Frag} {mg : Str → Option Value} {base : Heap}
/-- a list of rules -/
def RulesAt (H : Hp) (l : Addr) (ps : List Addr) (rs : List Rl) : Prop := H l = some (.lst (ps.map V.ref)) ∧ ps.length = rs.length ∧ ∀ (i : Nat) p r, ps[i]? = some p → rs[i]? = some r → RuleAt H p r
theorem RulesAt.mono {H H' : Hp} {l : Addr} {ps : List Addr} {rs : List Rl} (h : RulesAt H l ps rs) (sm : Same H H') : RulesAt H' l ps rs := ⟨sm _ _ h.1, h.2.1, fun i p r e1 e2 => (h.2.2 i p r e1 e2).mono sm⟩
/-- the words of all, rising, each once -/
def WordsOf (ts : List Str) (rs : List Rl) : Prop := ts.Nodup ∧ sortedS ts = true ∧ ∀ x, x ∈ ts ↔ x ∈ rs.flatMap (·.ws)
def spWordsAll : Sp := fun vs H Q _ => ∃ (l : Addr) (ps : List Addr) (rs : List Rl), vs = [.ref l] ∧ RulesAt H l ps rs ∧ (rs.flatMap (·.ws)).length ≤ 60 ∧ ∀ (t : Addr) (H' : Hp) (ts : List Str), Same H H' → H t = none → H' t = some (.lst (ts.map V.str)) → WordsOf ts rs → ts.length ≤ 60 → Q (.ref t) H'
theorem ok_wordsall (D : DefAt K mg "words_of_all" s_words_of_all) (z_sorted : mg "sorted" = none) (z_set : mg "set" = none) : Cal P w K mg base 1 "words_of_all" ["rules"] spWordsAll := by
  refine D.cal sc_words_of_all (fun _ _ _ _ _ _ us hl => match us, hl with | [_], _ => rfl) (fun vs H Q E h => by obtain ⟨_, _, _, rfl, _⟩ := h; rfl) (fun f cdv A outer s H vs Q E hr h => ?_)
  obtain ⟨l, ps, rs, rfl, hR, h60, q⟩ := h
  refine ⟨_, (pss_cons (ps_let 1 sc_words_of_all.nd (pe_lst pa_nil) (hx := l_words_of_all_words))
      (pss_cons (ps_for PassesOwn.never rfl (pi_listK K (pv 0 (hv := v_words_of_all_rules))) (pg_let 2 sc_words_of_all.nd (hx := l_words_of_all_rule)) (pss_one (ps_expr (pe_bmK K PySem.F.plainAttrs_list PySem.F.slot_list_extend PySem.F.type_list_extend mt_extendA (pv 1 (hv := v_words_of_all_words)) (pa_cons (pe_ix (ix_K K) (pv 2 (hv := v_words_of_all_rule)) pe_int (fun _ _ => rfl)) pa_nil)))))
      (pss_one (ps_ret (pe_blt (call_sortSetTW w hr) z_sorted bt_sorted (pa_cons (pe_bty (call_setTTW K w hr) z_set bt_set (pa_cons (pv 1 (hv := v_words_of_all_words)) pa_nil) (hg := gl_words_of_all_set)) pa_nil) (hg := gl_words_of_all_sorted)))))), ?_⟩
  walk_at "rd1"
  refine ⟨by decide, fun wp hwp => ?_⟩
  have s1 := same_new hwp (.lst [])
  have e1 : upd H wp (.lst []) wp = some (.lst ((([] : List Rl).flatMap (·.ws)).map V.str)) := upd_same
  generalize upd H wp (.lst []) = H0 at s1 e1 ⊢
  walk_at "nx"
  refine ⟨⟨_, SqL.of (s1 _ _ hR.1)⟩, ?_⟩
  refine forW_list (xs := ps.map V.ref) (fun i σ H' => ∃ o : Option V, σ = [some (.ref l), some (.ref wp), o] ∧ Same H H' ∧ H' wp = some (.lst (((rs.take i).flatMap (·.ws)).map V.str))) ⟨none, rfl, s1, e1⟩ (fun i σ H' _ h => by obtain ⟨_, _, sm, _⟩ := h; exact SqL.of (sm _ _ hR.1)) ?_ ?_
  · rintro i v σ H' hv ⟨o, rfl, sm, hw⟩
    have hi : i < ps.length := by have := (List.getElem?_eq_some_iff.mp hv).1; simpa using this
    have hi' : i < rs.length := by have := hR.2.1; omega
    rw [List.getElem?_map, List.getElem?_eq_getElem hi] at hv
    cases hv
    obtain ⟨pw, pr, as, r1, r2, r3⟩ := (hR.2.2 i ps[i] rs[i] (List.getElem?_eq_getElem hi) (List.getElem?_eq_getElem hi')).mono sm
    have hle : ((rs.take i).flatMap (·.ws)).length ≤ 60 := by
      refine Nat.le_trans ?_ h60
      conv => rhs; rw [← List.take_append_drop i rs, List.flatMap_append, List.length_append]
      omega
    have hle1 : (rs[i].ws).length ≤ 60 := by
      refine Nat.le_trans ?_ h60
      have : rs = rs.take i ++ rs[i] :: rs.drop (i + 1) := by rw [← List.drop_eq_getElem_cons hi', List.take_append_drop]
      conv => rhs; rw [this, List.flatMap_append, List.flatMap_cons, List.length_append, List.length_append]
      omega
    walk_at "rd1"
    refine ⟨⟨_, SqL.of hw⟩, _, _, .inr (SqT.of r1), atI_nat (j := 1) rfl, ?_⟩
    have fin : Same H (upd H' wp (.lst ((((rs.take i).flatMap (·.ws)).map V.str) ++ rs[i].ws.map V.str))) ∧ upd H' wp (.lst ((((rs.take i).flatMap (·.ws)).map V.str) ++ rs[i].ws.map V.str)) wp = some (.lst (((rs.take (i + 1)).flatMap (·.ws)).map V.str)) := by
      refine ⟨sm.upd hwp _, ?_⟩
      rw [upd_same, List.take_add_one, List.getElem?_eq_getElem hi', List.flatMap_append, List.map_append]
      simp
    rw [rExtend_at]
    exact ⟨_, _, hw, r2, by rw [List.length_map, List.length_map]; exact smallL (by omega), _, rfl, fin⟩
  rintro σ H1 ⟨o, rfl, sm, hw⟩
  walk_at "nx"
  rw [List.length_map, hR.2.1, List.take_length] at hw
  refine ⟨wp, _, rfl, SqL.of hw, h60, fun sp ds hsp hnd hmem hdl => ?_⟩
  refine ⟨sp, ds, rfl, upd_same, by omega, fun t ts ht hp hso => ?_⟩
  have hsm := (sm.trans (same_new hsp _)).trans (same_new ht (.lst (ts.map V.str)))
  refine q t _ ts hsm ((sm.trans (same_new hsp _)).free ht) upd_same ⟨hp.nodup_iff.mpr hnd, hso, fun x => ?_⟩ (by rw [hp.length_eq]; omega)
  rw [hp.mem_iff, hmem]
def spUnlike : Sp := fun vs H Q _ => ∃ (p q : Addr) (r r' : Rl), vs = [.ref p, .ref q] ∧ RuleAt H p r ∧ RuleAt H q r' ∧ r.s = r'.s ∧ Q .non H
theorem ok_unlike (D : DefAt K mg "refuse_unlike" s_refuse_unlike) : Cal P w K mg base 1 "refuse_unlike" ["one", "other"] spUnlike := by
  refine D.cal (k := 0) sc_refuse_unlike (fun _ _ _ _ _ _ us hl => match us, hl with | [_, _], _ => rfl) (fun vs H Q E h => by obtain ⟨p, q, r, r', rfl, _⟩ := h; rfl) (fun f cdv A outer s H vs Q E hr h => ?_)
  obtain ⟨p, q, r, r', rfl, ⟨pw, pr, as, h1, _⟩, ⟨qw, qr, bs, g1, _⟩, e, hq⟩ := h
  refine ⟨_, (pss_one (ps_if (pt_cmpR op_neA (pe_ix (ix_K K) (pv 0 (hv := v_refuse_unlike_one)) pe_int (fun _ _ => rfl)) (pe_ix (ix_K K) (pv 1 (hv := v_refuse_unlike_other)) pe_int (fun _ _ => rfl)) (nomark _)) (pss_one ps_never) pss_nil)), ?_⟩
  walk_at "rd1"
  refine ⟨_, _, .inr (SqT.of h1), at0, ?_⟩
  refine ⟨_, _, .inr (SqT.of g1), at0, ?_⟩
  walk_at "rd1"
  refine ite2 (fun c => absurd c (by simp [e])) (fun _ => ?_)
  exact hq
/-- rules with names, in a list -/
def NmdAt (H : Hp) (l : Addr) (ns : List Str) (rs : List Rl) : Prop := ∃ (qs ps : List Addr), H l = some (.lst (qs.map V.ref)) ∧ qs.length = rs.length ∧ ps.length = rs.length ∧ ns.length = rs.length ∧ (∀ (i : Nat) q n p, qs[i]? = some q → ns[i]? = some n → ps[i]? = some p → H q = some (.tup [.str n, .ref p])) ∧ ∀ (i : Nat) p r, ps[i]? = some p → rs[i]? = some r → RuleAt H p r
theorem NmdAt.mono {H H' : Hp} {l : Addr} {ns : List Str} {rs : List Rl} (h : NmdAt H l ns rs) (sm : Same H H') : NmdAt H' l ns rs := by
  obtain ⟨qs, ps, h1, h2, h3, h4, h5, h6⟩ := h
  exact ⟨qs, ps, sm _ _ h1, h2, h3, h4, fun i q n p e1 e2 e3 => sm _ _ (h5 i q n p e1 e2 e3), fun i p r e1 e2 => (h6 i p r e1 e2).mono sm⟩
/-- what laid_rules tells, all of it new -/
def ToldAt (H H' : Hp) (p : Addr) (s : Int) (rs : List Rl) : Prop := ∃ (q wt pr pb : Addr) (ts : List Str), H' p = some (.tup [.ref q, .ref pb]) ∧ H' q = some (.tup [.int s, .ref wt, .ref pr]) ∧ H' wt = some (.lst (ts.map V.str)) ∧ WordsOf ts rs ∧ ts.length ≤ 60 ∧ H wt = none ∧ ∃ (M : Nat) (as bs : List Addr), M ≤ 60 ∧ M = (ordO rs ts M).length ∧ RoomsAs H' pr ((List.range M).map (rowO rs ts)) as ∧ RoomsAs H' pb ((List.range M).map (blmO rs ts)) bs ∧ (wt :: pr :: pb :: (as ++ bs)).Nodup ∧ ∀ a ∈ wt :: pr :: pb :: (as ++ bs), H a = none
def spLaid (P : Program) (w : World) : Sp := fun vs H Q _ => ∃ (l : Addr) (ns : List Str) (rs : List Rl) (s : Int), vs = [.ref l] ∧ NmdAt H l ns rs ∧ 1 ≤ rs.length ∧ rs.length ≤ 8 ∧ (∀ r ∈ rs, RlOk r ∧ r.ws.Nodup ∧ r.s = s) ∧ prodR rs ≤ 60 ∧ (rs.flatMap (·.ws)).length ≤ 60 ∧ (∀ ts, WordsOf ts rs → ts.length ≤ 16) ∧
  ∀ (p : Addr) (H' : Hp), Same H H' → H p = none → ToldAt H H' p s rs → Q (.ref p) H'
theorem ok_laid (D : DefAt K mg "laid_rules" s_laid_rules) (z_len : mg "len" = none) (g_MOST_WORDS : ∃ t, mg "MOST_WORDS" = some (.int 16 t)) (c_refuse_unlike : Cal P w K mg base 1 "refuse_unlike" ["one", "other"] spUnlike) (c_words_of_all : Cal P w K mg base 1 "words_of_all" ["rules"] spWordsAll) (c_ways_by_room : Cal P w K mg base 2 "ways_by_room" ["rule", "words"] (spWaysBy P w)) (c_laid_by : Cal P w K mg base 2 "laid_by" ["ways", "width"] (spLaidBy P w)) : Cal P w K mg base 3 "laid_rules" ["rules"] (spLaid P w) := by
  refine D.cal sc_laid_rules (fun _ _ _ _ _ _ us hl => match us, hl with | [_], _ => rfl) (fun vs H Q E h => by obtain ⟨_, _, _, _, rfl, _⟩ := h; rfl) (fun f cdv A outer s H vs Q E hr h => ?_)
  obtain ⟨l, ns, rs, sd, rfl, ⟨qs, ps, h1, h2, h3, h4, h5, h6⟩, n1, n8, ok, hpr, h60, h16, q⟩ := h
  refine ⟨_, (pss_cons (ps_setcomp (CompSc.to (fsc := (defScope s_laid_rules)) (N := ["rules", "bare", "rule", "words", "laid"]) (N0 := ["rules", "bare", "rule", "words", "laid"]) (T := ["named"]) ⟨by decide +kernel, by decide +kernel, by decide +kernel, by decide +kernel, by decide +kernel, by decide +kernel, by decide +kernel⟩ rfl rfl) rfl sc_laid_rules.nd (i := 1) rfl k_laid_rules_bare (pi_listK K (pv 0 (hv := v_laid_rules_rules))) (fun _ _ _ _ => (pg_let 5 (show (["rules", "bare", "rule", "words", "laid", "named"] : List Str).Nodup from by decide +kernel) (hx := (locC (defScope s_laid_rules) (by decide +kernel))) (hf := fnC (defScope s_laid_rules) (by decide +kernel)))) (gfr_name (show (["rules", "bare", "rule", "words", "laid"] : List Str).length ≤ 5 from by decide)) (fun _ _ _ _ => pifs_nil) (fun _ _ _ _ => (pe_ix (ix_K K) (pv 5 (hv := (visC (defScope s_laid_rules) (by decide +kernel)))) pe_int (fun _ _ => rfl))))
      (pss_cons (ps_for PassesOwn.never rfl (pi_listK K (pv 1 (hv := v_laid_rules_bare))) (pg_let 2 sc_laid_rules.nd (hx := l_laid_rules_rule)) (pss_one (ps_expr (pe_cal c_refuse_unlike hr (pa_cons (pe_ix (ix_K K) (pv 1 (hv := v_laid_rules_bare)) pe_int (fun _ _ => rfl)) (pa_cons (pv 2 (hv := v_laid_rules_rule)) pa_nil)) (hg := gl_laid_rules_refuse_unlike)))))
      (pss_cons (ps_let 3 sc_laid_rules.nd (pe_cal c_words_of_all hr (pa_cons (pv 1 (hv := v_laid_rules_bare)) pa_nil) (hg := gl_laid_rules_words_of_all)) (hx := l_laid_rules_words))
      (pss_cons (ps_if (pt_cmpR op_gt (pe_blt (call_lenK K) z_len bt_len (pa_cons (pv 3 (hv := v_laid_rules_words)) pa_nil) (hg := gl_laid_rules_len)) (pe_gint g_MOST_WORDS (hg := gl_laid_rules_MOST_WORDS)) (nomark _)) (pss_one ps_never) pss_nil)
      (pss_cons (ps_let 4 sc_laid_rules.nd (pe_cal c_laid_by hr (pa_cons (pe_comp (CompSc.to (fsc := (defScope s_laid_rules)) (N := ["rules", "bare", "rule", "words", "laid"]) (N0 := ["rules", "bare", "rule'", "words", "laid"]) (T := ["rule"]) ⟨by decide +kernel, by decide +kernel, by decide +kernel, by decide +kernel, by decide +kernel, by decide +kernel, by decide +kernel⟩ rfl rfl) rfl (pi_listK K (pv 1 (hv := v_laid_rules_bare))) (fun _ _ _ _ => (pg_let 5 (show (["rules", "bare", "rule'", "words", "laid", "rule"] : List Str).Nodup from by decide +kernel) (hx := (locC (defScope s_laid_rules) (by decide +kernel))) (hf := fnC (defScope s_laid_rules) (by decide +kernel)))) (gfr_name (show (["rules", "bare", "rule", "words", "laid"] : List Str).length ≤ 5 from by decide)) (fun _ _ _ _ => pifs_nil) (fun _ _ _ _ => (pe_cal c_ways_by_room hr (pa_cons (pv 5 (hv := (visC (defScope s_laid_rules) (by decide +kernel)))) (pa_cons (pv 3 (hv := (visC (defScope s_laid_rules) (by decide +kernel)))) pa_nil)) (hg := (glC (defScope s_laid_rules) (by decide +kernel)))))) (pa_cons (pe_blt (call_lenK K) z_len bt_len (pa_cons (pv 3 (hv := v_laid_rules_words)) pa_nil) (hg := gl_laid_rules_len)) pa_nil)) (hg := gl_laid_rules_laid_by)) (hx := l_laid_rules_laid))
      (pss_one (ps_ret (pe_tup (pa_cons (pe_tup (pa_cons (pe_ix (ix_K K) (pe_ix (ix_K K) (pv 1 (hv := v_laid_rules_bare)) pe_int (fun _ _ => rfl)) pe_int (fun _ _ => rfl)) (pa_cons (pv 3 (hv := v_laid_rules_words)) (pa_cons (pe_ix (ix_K K) (pv 4 (hv := v_laid_rules_laid)) pe_int (fun _ _ => rfl)) pa_nil)))) (pa_cons (pe_ix (ix_K K) (pv 4 (hv := v_laid_rules_laid)) pe_int (fun _ _ => rfl)) pa_nil)))))))))), ?_⟩
  walk_at "rd1"
  refine ⟨⟨_, SqL.of h1⟩, fun B hB => ?_⟩
  refine compW_list (xs := qs.map V.ref) (fun i ys H' => Same H H' ∧ H' B = some (.lst ys) ∧ ys = (ps.take i).map V.ref) ⟨same_new hB _, upd_same, rfl⟩ (fun i ys H' _ h => SqL.of (h.1 _ _ h1)) ?_ ?_
  · rintro i ys H' v hv hi ⟨sm, hl, rfl⟩
    rw [List.length_map] at hi
    rw [List.getElem?_map, List.getElem?_eq_getElem hi] at hv
    cases hv
    have hip : i < ps.length := by omega
    have hq := sm _ _ (h5 i qs[i] (ns[i]'(by omega)) ps[i] (List.getElem?_eq_getElem hi) (List.getElem?_eq_getElem _) (List.getElem?_eq_getElem hip))
    walk_at "rd1"
    refine ⟨_, _, .inr (SqT.of hq), atI_nat (j := 1) rfl, ?_⟩
    exact cstep (by rw [List.length_map]; exact hi) (by rw [List.length_map, List.length_take]; omega) (by rw [List.length_map]; exact smallL (by omega)) hl ⟨sm.upd hB _, upd_same, by rw [List.take_add_one, List.getElem?_eq_getElem hip, List.map_append]; rfl⟩
  rintro ys H1 ⟨s1, hl1, rfl⟩
  rw [List.length_map, List.take_of_length_le (by omega)] at hl1
  have hRs : RulesAt H1 B ps rs := ⟨hl1, h3, fun i p r e1 e2 => (h6 i p r e1 e2).mono s1⟩
  walk_at "nx"
  refine ⟨⟨_, SqL.of hl1⟩, ?_⟩
  have hp0 : ps[0]? = some ps[0] := List.getElem?_eq_getElem (by omega)
  have hr0 : rs[0]? = some rs[0] := List.getElem?_eq_getElem (by omega)
  refine forW_list (xs := ps.map V.ref) (fun i σ H' => ∃ o : Option V, σ = [some (.ref l), some (.ref B), o, none, none] ∧ H' = H1) ⟨none, rfl, rfl⟩ (fun i σ H' _ h => by obtain ⟨_, _, rfl⟩ := h; exact SqL.of hl1) ?_ ?_
  · rintro i v σ H' hv ⟨o, rfl, rfl⟩
    have hi : i < ps.length := by have := (List.getElem?_eq_some_iff.mp hv).1; simpa using this
    have hi' : i < rs.length := by omega
    rw [List.getElem?_map, List.getElem?_eq_getElem hi] at hv
    cases hv
    walk_at "rd1"
    refine ⟨_, _, .inl (SqL.of hl1), atI_nat (j := 0) (v := .ref ps[0]) (by rw [List.getElem?_map, hp0]; rfl), ?_⟩
    exact ⟨ps[0], ps[i], rs[0], rs[i], rfl, hRs.2.2 0 _ _ hp0 hr0, hRs.2.2 i _ _ (List.getElem?_eq_getElem hi) (List.getElem?_eq_getElem hi'), by rw [(ok _ (List.getElem_mem _)).2.2, (ok _ (List.getElem_mem _)).2.2], _, rfl, rfl⟩
  rintro σ H' ⟨o, rfl, rfl⟩
  walk_at "nx"
  refine ⟨B, ps, rs, rfl, hRs, h60, fun wt H2 ts s2 hwt ew hWo hts => ?_⟩
  have ht16 := h16 ts hWo
  walk_at "nx"
  refine ⟨_, .inl (SqL.of ew), ite2 (fun z => ?_) (fun _ => ?_)⟩
  · rw [List.length_map] at z; omega
  walk_at "nx"
  have hB2 := s2 _ _ hl1
  refine ⟨⟨_, SqL.of hB2⟩, fun W hW => ?_⟩
  refine compW_list (xs := ps.map V.ref) (fun i ys H' => Same H2 H' ∧ H' W = some (.lst ys) ∧ ∃ ds : List Addr, ys = ds.map V.ref ∧ ds.length = i ∧ ∀ (k : Nat) d r, ds[k]? = some d → rs[k]? = some r → WaysD (fun b => b ≠ W) P w H' d r ts r.rs.length true) ⟨same_new hW _, upd_same, [], rfl, rfl, by simp⟩ (fun i ys H' _ h => SqL.of (h.1 _ _ hB2)) ?_ ?_
  · rintro i ys H3 v hv hi ⟨sm, hl, ds, rfl, hdl, hds⟩
    rw [List.length_map] at hi
    have hi' : i < rs.length := by omega
    rw [List.getElem?_map, List.getElem?_eq_getElem hi] at hv
    cases hv
    have hri := (hRs.2.2 i ps[i] rs[i] (List.getElem?_eq_getElem hi) (List.getElem?_eq_getElem hi')).mono (s2.trans sm)
    have oki := ok rs[i] (List.getElem_mem hi')
    walk_at "rd1"
    refine ⟨ps[i], wt, rs[i], ts, rfl, hri, oki.1, oki.2.1, sm _ _ ew, by omega, fun d H4 s4 hd hWd => ?_⟩
    refine cstep (by rw [List.length_map]; exact hi) (by rw [List.length_map]; exact hdl) (by rw [List.length_map]; exact smallL (by omega)) (s4 _ _ hl) ⟨(sm.trans s4).upd hW _, upd_same, ds ++ [d], by simp, by simp [hdl], fun k d' r' e1 e2 => ?_⟩
    by_cases hk : k < ds.length
    · rw [List.getElem?_append_left hk] at e1
      exact ((hds k d' r' e1 e2).mono s4).put (s4 _ _ hl)
    · have hk' : k = ds.length := by have := (List.getElem?_eq_some_iff.mp e1).1; simp at this; omega
      subst hk'
      rw [List.getElem?_append_right (Nat.le_refl _)] at e1
      simp at e1
      subst e1
      rw [hdl, List.getElem?_eq_getElem hi'] at e2
      cases e2
      exact (hWd.weak fun b hb z => by rw [z, hl] at hb; cases hb).put (s4 _ _ hl)
  rintro ys H3 ⟨s3, hl3, ds, rfl, hdl, hds⟩
  rw [List.length_map] at hdl
  walk_at "rd1"
  have s03 := (s1.trans s2).trans s3
  refine ⟨_, .inl (SqL.of (s3 _ _ ew)), W, rs, ts, by rw [List.length_map], ⟨ds, hl3, by omega, fun i d r e1 e2 => (hds i d r e1 e2).weak fun _ _ => trivial⟩, n8, by omega, fun r hr => (ok r hr).1, hpr, fun lp pr pb H4 s4 hlp elp hLA => ?_⟩
  obtain ⟨M, as, bs, m1, m2, m3, m4, m5, m6⟩ := hLA
  walk_at "nx"
  have hr0' := (hRs.2.2 0 _ _ hp0 hr0).mono (s2.trans (s3.trans s4))
  obtain ⟨pw, pp, aa, g1, g2, g3⟩ := hr0'
  refine ⟨_, _, .inl (SqL.of ((s2.trans (s3.trans s4)) _ _ hl1)), atI_nat (j := 0) (v := .ref ps[0]) (by rw [List.getElem?_map, hp0]; rfl), ?_⟩
  refine ⟨_, _, .inr (SqT.of g1), at0, _, _, .inr (SqT.of elp), at0, by decide, fun p1 hp1 => ?_⟩
  have s5 := same_new hp1 (.tup [V.int rs[0].s, V.ref wt, V.ref pr])
  have e5 : upd H4 p1 (.tup [V.int rs[0].s, V.ref wt, V.ref pr]) p1 = some (.tup [V.int rs[0].s, V.ref wt, V.ref pr]) := upd_same
  generalize upd H4 p1 (.tup [V.int rs[0].s, V.ref wt, V.ref pr]) = H5 at s5 e5 ⊢
  refine ⟨_, _, .inr (SqT.of (s5 _ _ elp)), atI_nat (j := 1) rfl, by decide, fun p2 hp2 => ?_⟩
  have s6 := same_new hp2 (.tup [V.ref p1, V.ref pb])
  have e6 : upd H5 p2 (.tup [V.ref p1, V.ref pb]) p2 = some (.tup [V.ref p1, V.ref pb]) := upd_same
  generalize upd H5 p2 (.tup [V.ref p1, V.ref pb]) = H6 at s6 e6 ⊢
  have s05 := (s03.trans s4).trans s5
  have hwt0 : H wt = none := s1.free hwt
  have ew3 := s3 _ _ ew
  rw [(ok _ (List.getElem_mem _)).2.2] at e5
  refine q p2 H6 (s05.trans s6) (s05.free hp2) ⟨p1, wt, pr, pb, ts, e6, s6 _ _ e5, ((s4.trans s5).trans s6) _ _ ew3, hWo, hts, hwt0, M, as, bs, m1, m2, m3.mono (s5.trans s6), m4.mono (s5.trans s6), List.nodup_cons.mpr ⟨fun z => ?_, m5⟩, fun a ha => ?_⟩
  · have := m6 wt z
    rw [ew3] at this; cases this
  · rcases List.mem_cons.mp ha with rfl | ha
    · exact hwt0
    · exact s03.free (m6 a ha)
end
section
variable {P : Program} {w : World} {K : PySem.W.Frag} {mg : Str → Option Value} {base : Heap}
/-! ### what the law of k75 draws -/
def letF (z : Int) : Nat := letters.cps.toList.getD (z % 26).toNat 0
theorem letter_atF (z : Int) : letters.length ≤ sizeLine ∧ atI letters.cps.toList (z % 26) = some (letF z) := by
  have hz : (z % 26).toNat < letters.cps.toList.length := by
    show (z % 26).toNat < 26
    omega
  refine ⟨by decide, ?_⟩
  have q := atI_nat (List.getElem?_eq_getElem hz)
  rw [show (((z % 26).toNat : Nat) : Int) = z % 26 by omega] at q
  rw [q]
  unfold letF
  rw [List.getD_eq_getElem?_getD, List.getElem?_eq_getElem hz]; rfl
theorem letF_inj {y z : Int} (h : letF y = letF z) : y % 26 = z % 26 := by
  have key : ∀ i j : Fin 26, letters.cps.toList.getD i.val 0 = letters.cps.toList.getD j.val 0 → i = j := by decide +kernel
  have := key ⟨(y % 26).toNat, by omega⟩ ⟨(z % 26).toNat, by omega⟩ h
  have := congrArg Fin.val this
  simp only [] at this
  omega
theorem cps_app75 (x : Str) (c : Nat) : (x ++ (⟨#[c]⟩ : Str)).cps.toList = x.cps.toList ++ [c] := by
  show (x.cps ++ #[c]).toList = _
  simp
def spWordsN : Sp := fun vs H Q _ => ∃ (c : Int) (n : Nat), vs = [.int c, .int n] ∧ n ≤ 26 ∧ ∀ (p : Addr) (H' : Hp) (ss : List Str), Same H H' → H p = none → H' p = some (.lst (ss.map V.str)) → ss.length = n → (∀ x ∈ ss, x.length ≤ 8) → ss.Nodup → Q (.ref p) H'
theorem ok_words75 (D : DefAt K mg "_law_words" s_law_words) (z_range : mg "range" = none) (z_int : mg "int" = none) (c_law_mixed : Cal P w K mg base 1 "_law_mixed" ["_law_cell", "_law_many"] spMixed) : Cal P w K mg base 2 "_law_words" ["_law_cell", "_law_many"] spWordsN := by
  refine D.cal sc_law_words (fun _ _ _ _ _ _ us hl => match us, hl with | [_, _], _ => rfl) (fun vs H Q E h => by obtain ⟨c, n, rfl, _⟩ := h; rfl) (fun f cdv A outer s H vs Q E hr h => ?_)
  obtain ⟨c, n, rfl, n26, q⟩ := h
  refine ⟨_, (pss_cons (ps_let 2 sc_law_words.nd pe_str (hx := l_law_words__law_letters))
      (pss_cons (ps_let 3 sc_law_words.nd (pe_cal c_law_mixed hr (pa_cons (pv 0 (hv := v_law_words__law_cell)) (pa_cons pe_int pa_nil)) (hg := gl_law_words__law_mixed)) (hx := l_law_words__law_xs))
      (pss_cons (ps_let 4 sc_law_words.nd (pe_op op_addA pe_int (pe_op op_mod (pe_ix (ix_K K) (pv 3 (hv := v_law_words__law_xs)) pe_int (fun _ _ => rfl)) pe_int)) (hx := l_law_words__law_size))
      (pss_cons (ps_let 5 sc_law_words.nd (pe_op op_mod (pe_ix (ix_K K) (pv 3 (hv := v_law_words__law_xs)) pe_int (fun _ _ => rfl)) (pv 4 (hv := v_law_words__law_size))) (hx := l_law_words__law_at))
      (pss_cons (ps_let 6 sc_law_words.nd (pe_lst pa_nil) (hx := l_law_words__law_words_here))
      (pss_cons (ps_for PassesOwn.never rfl (pi_range1 gl_law_words_range z_range (pa_cons (pv 1 (hv := v_law_words__law_many)) pa_nil)) (pg_let 7 sc_law_words.nd (hx := l_law_words__law_k)) (pss_cons (ps_let 8 sc_law_words.nd pe_str (hx := l_law_words__law_word))
      (pss_cons (ps_for PassesOwn.never rfl (pi_range1 gl_law_words_range z_range (pa_cons (pv 4 (hv := v_law_words__law_size)) pa_nil)) (pg_let 9 sc_law_words.nd (hx := l_law_words__law_j)) (pss_one (ps_let 8 sc_law_words.nd (pe_op op_addA (pv 8 (hv := v_law_words__law_word)) (pe_ix (ix_K K) (pv 2 (hv := v_law_words__law_letters)) (pe_op op_mod (pe_op op_addA (pe_ix (ix_K K) (pv 3 (hv := v_law_words__law_xs)) (pe_op op_addA pe_int (pv 9 (hv := v_law_words__law_j))) (fun _ _ => rfl)) (pe_op op_mulB (pv 7 (hv := v_law_words__law_k)) (pe_bty call_intA z_int bt_int (pa_cons (pe_cmpR op_eqA (pv 9 (hv := v_law_words__law_j)) (pv 5 (hv := v_law_words__law_at)) (nomark _)) pa_nil) (hg := gl_law_words_int)))) pe_int) (fun _ _ => rfl))) (hx := l_law_words__law_word))))
      (pss_one (ps_expr (pe_bmK K PySem.F.plainAttrs_list PySem.F.slot_list_append PySem.F.type_list_append mt_appendA (pv 6 (hv := v_law_words__law_words_here)) (pa_cons (pv 8 (hv := v_law_words__law_word)) pa_nil)))))))
      (pss_one (ps_ret (pv 6 (hv := v_law_words__law_words_here)))))))))), ?_⟩
  walk_at "rd1"
  walk_at "nx"
  refine ⟨c, 10, rfl, by decide, by decide, fun xp H1 ms sm1 hxp hxl hxn hxb => ?_⟩
  have item : ∀ {H' : Hp} (i : Nat), Same H1 H' → i < 10 → ∃ xs, (SqL K H' xp xs ∨ SqT K H' xp xs) ∧ atI xs (i : Int) = some (.int (ms.getD i 0)) := fun {H'} i sm h1 =>
    ⟨_, .inl (SqL.of (sm _ _ hxl)), atI_nat (by rw [List.getElem?_map, List.getD_eq_getElem?_getD, List.getElem?_eq_getElem (by omega)]; rfl)⟩
  walk_at "nx"
  obtain ⟨xs, h1, h2⟩ := item 0 (Same.refl H1) (by decide)
  refine ⟨xs, _, h1, h2, ?_⟩
  walk_at "rd1"
  refine ⟨by decide, ?_⟩
  have hsz0 : ∃ z : Nat, 1 + ms.getD 0 0 % 8 = (z : Int) ∧ 1 ≤ z ∧ z ≤ 8 := ⟨(1 + ms.getD 0 0 % 8).toNat, by omega, by omega, by omega⟩
  obtain ⟨sz, esz, sz0, sz1⟩ := hsz0
  rw [esz]
  walk_at "nx"
  obtain ⟨xs, h1, h2⟩ := item 9 (Same.refl H1) (by decide)
  refine ⟨xs, _, h1, h2, ?_⟩
  walk_at "rd1"
  refine ⟨by omega, ?_⟩
  have hat0 : ∃ z : Nat, ms.getD 9 0 % (sz : Int) = (z : Int) ∧ z < sz := ⟨(ms.getD 9 0 % (sz : Int)).toNat, by have := Int.emod_nonneg (ms.getD 9 0) (show (sz : Int) ≠ 0 by omega); omega, by have := Int.emod_lt_of_pos (ms.getD 9 0) (show (0 : Int) < sz by omega); have := Int.emod_nonneg (ms.getD 9 0) (show (sz : Int) ≠ 0 by omega); omega⟩
  obtain ⟨at', eat, hat⟩ := hat0
  rw [eat]
  walk_at "nx"
  refine ⟨by decide, fun p hp => ?_⟩
  generalize hH2 : upd H1 p _ = H2
  have sm2 := al_same hH2 hp
  have e2 := al_at hH2
  walk_at "nx"
  refine ⟨by omega, by omega, ?_⟩
  refine forW_range (fun i σ H' => ∃ (ss : List Str) (o7 o8 o9 : Option V), σ = [some (.int c), some (.int n), some (.str letters), some (.ref xp), some (.int sz), some (.int at'), some (.ref p), o7, o8, o9] ∧ Same H1 H' ∧ H' p = some (.lst (ss.map V.str)) ∧ ss.length = i ∧ (∀ x ∈ ss, x.length ≤ 8) ∧ ∀ (k : Nat) x, ss[k]? = some x → x.cps.toList[at']? = some (letF (ms.getD (1 + at') 0 + k * 1)))
    ⟨[], none, none, none, rfl, sm2, e2, rfl, by simp, by simp⟩ ?_ ?_
  · rintro i σ H' hi ⟨ss, o7, o8, o9, rfl, sm, hl, hsn, hsl, hsk⟩
    rw [Int.toNat_natCast] at hi
    walk_at "rd1"
    walk_at "nx"
    refine ⟨by omega, by omega, ?_⟩
    refine forW_range (fun j σ H2 => ∃ (x : Str) (o8 : Option V), σ = [some (.int c), some (.int n), some (.str letters), some (.ref xp), some (.int sz), some (.int at'), some (.ref p), some (.int (0 + (i : Int))), some (.str x), o8] ∧ H' = H2 ∧ x.length = j ∧ (at' < j → x.cps.toList[at']? = some (letF (ms.getD (1 + at') 0 + i * 1))))
      ⟨_, _, rfl, rfl, rfl, fun h => absurd h (by omega)⟩ ?_ ?_
    · rintro j σ H2 hj ⟨x, o8, rfl, rfl, hx, hxa⟩
      rw [Int.toNat_natCast] at hj
      walk_at "rd1"
      obtain ⟨xs, h1, h2⟩ := item (1 + j) sm (by omega)
      rw [show ((1 + j : Nat) : Int) = 1 + (0 + (j : Int)) by omega] at h2
      refine ⟨xs, _, h1, h2, .inl ⟨by omega, by omega⟩, ?_⟩
      walk_at "rd1"
      obtain ⟨l1, l2⟩ := letter_atF (ms.getD (1 + j) 0 + (0 + (i : Int)) * if 0 + (j : Int) = (at' : Int) then 1 else 0)
      refine ⟨by decide, _, l1, l2, ?_, x ++ ⟨#[letF (ms.getD (1 + j) 0 + (0 + (i : Int)) * if 0 + (j : Int) = (at' : Int) then 1 else 0)]⟩, _, rfl, ?_, fun hlt => ?_⟩
      · show x.length + 1 ≤ sizeLine
        exact smallL (by omega)
      · rw [len_app1, hx]
      · have hxl : x.cps.toList.length = j := by rw [Array.length_toList]; exact hx
        rw [cps_app75]
        rcases Nat.lt_or_ge at' j with g | g
        · rw [List.getElem?_append_left (by omega)]; exact hxa g
        · have e : at' = j := by omega
          subst e
          rw [List.getElem?_append_right (by omega), hxl, Nat.sub_self, if_pos (by omega), Int.zero_add]; rfl
    · rintro σ H2 ⟨x, o8, rfl, rfl, hx, hxa⟩
      rw [Int.toNat_natCast] at hx hxa
      walk_at "nx"
      refine ⟨⟨_, SqL.of hl⟩, _, hl, by rw [List.length_map]; exact small' (by omega), ?_⟩
      refine ⟨ss ++ [x], _, _, _, rfl, sm.upd hp _, by rw [upd_same, List.map_append]; rfl, by simp [hsn], fun y hy => ?_, fun k y e => ?_⟩
      · rcases List.mem_append.mp hy with z | z
        · exact hsl y z
        · rw [List.mem_singleton.mp z]; omega
      · rcases Nat.lt_or_ge k ss.length with z | z
        · rw [List.getElem?_append_left z] at e; exact hsk k y e
        · rw [List.getElem?_append_right z] at e
          have hk : k - ss.length = 0 := by
            have := (List.getElem?_eq_some_iff.mp e).1
            simp at this; omega
          rw [hk] at e
          have e' : x = y := by simpa using e
          subst e'
          rw [show k = i by omega]
          exact hxa hat
  · rintro σ H' ⟨ss, o7, o8, o9, rfl, sm, hl, hsn, hsl, hsk⟩
    rw [Int.toNat_natCast] at hsn
    walk_at "nx"
    refine q p H' ss (sm1.trans sm) (sm1.free hp) hl hsn hsl ?_
    rw [List.nodup_iff_pairwise_ne, List.pairwise_iff_getElem]
    intro a b ha hb hab e
    have h1 := hsk a _ (List.getElem?_eq_getElem ha)
    have h2 := hsk b _ (List.getElem?_eq_getElem hb)
    rw [e, h2] at h1
    have h3 := letF_inj (Option.some.inj h1)
    omega
def spTo : Sp := fun vs H Q _ => ∃ (p : Addr) (r : Rl) (k : Nat) (y : Str), vs = [.ref p, .int (k : Int), .str y] ∧ RuleAt H p r ∧ RlOk r ∧ k < r.rs.length ∧ Q (wayV (toR r k y)) H
theorem ok_to (D : DefAt K mg "_law_to" s_law_to) : Cal P w K mg base 1 "_law_to" ["_law_rule", "_law_room", "_law_word"] spTo := by
  refine D.cal (k := 0) sc_law_to (fun _ _ _ _ _ _ us hl => match us, hl with | [_, _, _], _ => rfl) (fun vs H Q E h => by obtain ⟨p, r, k, y, rfl, _⟩ := h; rfl) (fun f cdv A outer s H vs Q E hr h => ?_)
  obtain ⟨p, r, k, y, rfl, hR, ok, hk, q⟩ := h
  obtain ⟨pw, pr, as, h1, h2, h3, h4, h5⟩ := hR
  refine ⟨_, (pss_cons (ps_if (pt_cmpR (op_inK K) (pv 2 (hv := v_law_to__law_word)) (pe_ix (ix_K K) (pv 0 (hv := v_law_to__law_rule)) pe_int (fun _ _ => rfl)) (by with_unfolding_all rfl)) (pss_one (ps_ret (pe_ix (ix_K K) (pe_ix (ix_K K) (pe_ix (ix_K K) (pv 0 (hv := v_law_to__law_rule)) pe_int (fun _ _ => rfl)) (pv 1 (hv := v_law_to__law_room)) (fun _ _ => rfl)) (pe_bmK K PySem.F.plainAttrs_list PySem.F.slot_list_index PySem.F.type_list_index (mt_indexS K) (pe_ix (ix_K K) (pv 0 (hv := v_law_to__law_rule)) pe_int (fun _ _ => rfl)) (pa_cons (pv 2 (hv := v_law_to__law_word)) pa_nil)) (fun _ _ => rfl)))) pss_nil)
      (pss_one (ps_ret (pv 1 (hv := v_law_to__law_room))))), ?_⟩
  walk_at "rd1"
  refine ⟨_, _, .inr (SqT.of h1), atI_nat (j := 1) rfl, ?_⟩
  walk_at "rd1"
  refine ⟨_, .inl (SqL.of h2), rfl, flat_strs _, ?_⟩
  rw [inV_str]
  refine ite2 (fun c => ?_) (fun c => ?_)
  · have hy : y ∈ r.ws := by simpa using c
    have hka : k < as.length := by omega
    have hx := ok.row _ (List.getElem_mem hk)
    have hj : r.ws.idxOf y < (r.rs[k]).length := by rw [hx.1]; exact List.idxOf_lt_length_iff.mpr hy
    refine ⟨_, _, .inr (SqT.of h1), atI_nat (j := 2) rfl, ?_⟩
    walk_at "rd1"
    refine ⟨_, _, .inl (SqL.of h3), atI_nat (v := .ref as[k]) (by rw [List.getElem?_map, List.getElem?_eq_getElem hka]; rfl), ?_⟩
    refine ⟨_, _, .inr (SqT.of h1), atI_nat (j := 1) rfl, ?_⟩
    walk_at "rd1"
    refine ⟨⟨_, SqL.of h2⟩, _, SqL.of h2, hy, ?_⟩
    walk_at "rd1"
    refine ⟨_, _, .inl (SqL.of (h5 k _ _ (List.getElem?_eq_getElem hka) (List.getElem?_eq_getElem hk))), atI_nat (v := wayV (toR r k y)) ?_, q⟩
    rw [List.getElem?_map, List.getElem?_eq_getElem hj]
    unfold toR
    rw [if_pos hy, List.getD_eq_getElem?_getD, List.getD_eq_getElem?_getD, List.getElem?_eq_getElem hk]
    show _ = some (wayV ((r.rs[k])[r.ws.idxOf y]?.getD none))
    rw [List.getElem?_eq_getElem hj]; rfl
  · have hy : y ∉ r.ws := by simpa using c
    have e : toR r k y = some k := by unfold toR; rw [if_neg hy]
    rw [e] at q
    walk_at "nx"
    exact q
end
theorem share_at (l : List Int) (c : Int) (h : l.length = 4) (hb : ∀ x ∈ l, 0 < x ∧ x < 1073741824) : ∃ v, atI (l.map V.int) (c % 4) = some (.int v) ∧ 0 < v ∧ v < 1073741824 := by
  obtain ⟨v, hv, _⟩ := at_lst (xs := l) (i := c % 4) (by omega) (by omega)
  exact ⟨v, at_map (by omega) hv, (hb v (List.mem_of_getElem? hv)).1, (hb v (List.mem_of_getElem? hv)).2⟩
theorem ix_of {xs : List V} {i : Nat} (h : i < xs.length) : ixN xs.length (0 + (i : Int)) = some i := by
  unfold ixN
  rw [if_pos (by omega), if_pos (by omega)]
  congr 1
  omega
section
variable {P : Program} {w : World} {K : PySem.W.Frag} {mg : Str → Option Value} {base : Heap}
def spRooms (K : PySem.W.Frag) : Sp := fun vs H Q _ => ∃ (cp : Addr) (cs : List Int) (sz mn : Nat) (c : Int), vs = [.ref cp, .int sz, .int mn, .int c] ∧ SqL K H cp (cs.map V.int) ∧ 1 ≤ sz ∧ sz ≤ 3 ∧ mn ≤ 3 ∧ ∀ (p : Addr) (H' : Hp) (as : List Addr) (rs : List (List (Option Nat))), Same H H' → H p = none → RoomsAs H' p rs as → (∀ a ∈ as, H a = none) → rs.length = sz → (∀ x ∈ rs, x.length = mn ∧ ∀ k, some k ∈ x → k < sz) → Q (.ref p) H'
theorem ok_rooms (D : DefAt K mg "_law_rooms" s_law_rooms) (z_range : mg "range" = none) (z_len : mg "len" = none) (z_min : mg "min" = none) (c_law_mixed : Cal P w K mg base 1 "_law_mixed" ["_law_cell", "_law_many"] spMixed) (c_law_way : Cal P w K mg base 1 "_law_way" ["_law_number", "_law_share", "_law_many"] spWay) : Cal P w K mg base 2 "_law_rooms" ["_law_cells", "_law_size", "_law_many", "_law_cell"] (spRooms K) := by
  refine D.cal sc_law_rooms (fun _ _ _ _ _ _ us hl => match us, hl with | [_, _, _, _], _ => rfl) (fun vs H Q E h => by obtain ⟨_, _, _, _, _, rfl, _⟩ := h; rfl) (fun f cdv A outer s H vs Q E hr h => ?_)
  obtain ⟨cp, cs, sz, mn, c, rfl, hcs, z0, z1, m1, q⟩ := h
  refine ⟨_, (pss_cons (ps_let 4 sc_law_rooms.nd (pe_ix (ix_K K) (pe_lst (pa_cons pe_int (pa_cons pe_int (pa_cons pe_int (pa_cons pe_int pa_nil))))) (pe_op op_mod (pv 3 (hv := v_law_rooms__law_cell)) pe_int) (fun _ _ => rfl)) (hx := l_law_rooms__law_share))
      (pss_cons (ps_let 5 sc_law_rooms.nd (pe_cal c_law_mixed hr (pa_cons (pv 3 (hv := v_law_rooms__law_cell)) (pa_cons (pe_op op_mulB (pv 2 (hv := v_law_rooms__law_many)) (pv 1 (hv := v_law_rooms__law_size))) pa_nil)) (hg := gl_law_rooms__law_mixed)) (hx := l_law_rooms__law_xs))
      (pss_cons (ps_for PassesOwn.never rfl (pi_range1 gl_law_rooms_range z_range (pa_cons (pe_blt call_minA z_min bt_min (pa_cons (pe_blt (call_lenK K) z_len bt_len (pa_cons (pv 0 (hv := v_law_rooms__law_cells)) pa_nil) (hg := gl_law_rooms_len)) (pa_cons (pe_op op_mulB (pv 2 (hv := v_law_rooms__law_many)) (pv 1 (hv := v_law_rooms__law_size))) pa_nil)) (hg := gl_law_rooms_min)) pa_nil)) (pg_let 6 sc_law_rooms.nd (hx := l_law_rooms__law_k)) (pss_one (ps_asg (pe_op op_mod (pe_ix (ix_K K) (pv 0 (hv := v_law_rooms__law_cells)) (pv 6 (hv := v_law_rooms__law_k)) (fun _ _ => rfl)) pe_int) (pg_sub (pv 5 (hv := v_law_rooms__law_xs)) (pv 6 (hv := v_law_rooms__law_k)) set_A))))
      (pss_one (ps_ret (pe_compO (CompScO.to (fsc := (defScope s_law_rooms)) (N := ["_law_cells", "_law_size", "_law_many", "_law_cell", "_law_share", "_law_xs", "_law_k"]) (N0 := ["_law_cells", "_law_size", "_law_many", "_law_cell", "_law_share", "_law_xs", "_law_k"]) (T := ["_law_r"]) ⟨by decide +kernel, by decide +kernel, by decide +kernel, by decide +kernel, by decide +kernel, by decide +kernel⟩ rfl rfl) rfl (pi_range1 gl_law_rooms_range z_range (pa_cons (pv 1 (hv := v_law_rooms__law_size)) pa_nil)) (fun _ _ _ _ => (pg_let 7 (show (["_law_cells", "_law_size", "_law_many", "_law_cell", "_law_share", "_law_xs", "_law_k", "_law_r"] : List Str).Nodup from by decide +kernel) (hx := (locCO (defScope s_law_rooms) (by decide +kernel))) (hf := fnCO (defScope s_law_rooms) (by decide +kernel)))) (gfr_name (show (["_law_cells", "_law_size", "_law_many", "_law_cell", "_law_share", "_law_xs", "_law_k"] : List Str).length ≤ 7 from by decide)) (fun _ _ _ _ => pifs_nil) (fun _ _ _ _ => (pe_comp (CompSc.to (fsc := (relabelS _ (defScope s_law_rooms))) (N := ["_law_cells", "_law_size", "_law_many", "_law_cell", "_law_share", "_law_xs", "_law_k", "_law_r"]) (N0 := ["_law_cells", "_law_size", "_law_many", "_law_cell", "_law_share", "_law_xs", "_law_k", "_law_r"]) (T := ["_law_j"]) ⟨by decide +kernel, by decide +kernel, by decide +kernel, by decide +kernel, by decide +kernel, by decide +kernel, by decide +kernel⟩ rfl rfl) rfl (pi_range1 (glCO (defScope s_law_rooms) (by decide +kernel)) z_range (pa_cons (pv 2 (hv := (visCO (defScope s_law_rooms) (by decide +kernel)))) pa_nil)) (fun _ _ _ _ => (pg_let 8 (show (["_law_cells", "_law_size", "_law_many", "_law_cell", "_law_share", "_law_xs", "_law_k", "_law_r", "_law_j"] : List Str).Nodup from by decide +kernel) (hx := (locC (relabelS _ (defScope s_law_rooms)) (e := rfl) (by decide +kernel))) (hf := fnC (relabelS _ (defScope s_law_rooms)) (e := rfl) (by decide +kernel)))) (gfr_name (show (["_law_cells", "_law_size", "_law_many", "_law_cell", "_law_share", "_law_xs", "_law_k", "_law_r"] : List Str).length ≤ 8 from by decide)) (fun _ _ _ _ => pifs_nil) (fun _ _ _ _ => (pe_cal c_law_way hr (pa_cons (pe_ix (ix_K K) (pv 5 (hv := (visC (relabelS _ (defScope s_law_rooms)) (e := rfl) (by decide +kernel)))) (pe_op op_addA (pe_op op_mulB (pv 2 (hv := (visC (relabelS _ (defScope s_law_rooms)) (e := rfl) (by decide +kernel)))) (pv 7 (hv := (visC (relabelS _ (defScope s_law_rooms)) (e := rfl) (by decide +kernel))))) (pv 8 (hv := (visC (relabelS _ (defScope s_law_rooms)) (e := rfl) (by decide +kernel))))) (fun _ _ => rfl)) (pa_cons (pv 4 (hv := (visC (relabelS _ (defScope s_law_rooms)) (e := rfl) (by decide +kernel)))) (pa_cons (pv 1 (hv := (visC (relabelS _ (defScope s_law_rooms)) (e := rfl) (by decide +kernel)))) pa_nil))) (hg := (glC (relabelS _ (defScope s_law_rooms)) (e := rfl) (by decide +kernel))))))))))))), ?_⟩
  walk_at "rd1"
  refine ⟨by decide, fun sp hsp => ?_⟩
  have s1 := same_new hsp (.lst [V.int 2, V.int 5, V.int 9, V.int 101])
  have e1 : upd H sp (.lst [V.int 2, V.int 5, V.int 9, V.int 101]) sp = some (.lst ([2, 5, 9, 101].map V.int)) := upd_same
  generalize upd H sp (.lst [V.int 2, V.int 5, V.int 9, V.int 101]) = H1 at s1 e1 ⊢
  obtain ⟨sh, hsh, sh0, sh1⟩ := share_at [2, 5, 9, 101] c rfl (by decide)
  refine ⟨by decide, _, _, .inl (SqL.of e1), hsh, ?_⟩
  walk_at "nx"
  have hmz : (mn : Int) * sz = ((mn * sz : Nat) : Int) := by simp
  have hmz9 : mn * sz ≤ 9 := Nat.le_trans (Nat.mul_le_mul m1 z1) (by decide)
  refine ⟨.inl ⟨by omega, by omega⟩, _, _, rfl, by rw [hmz]; omega, by rw [hmz]; omega, fun xp H2 ms s2 hxp hxl hxn hxb => ?_⟩
  walk_at "nx"
  have hcs2 := (s1.trans s2).seq hcs
  refine ⟨_, .inl hcs2, .inl ⟨by omega, by omega⟩, ?_⟩
  have hb : ∃ b : Nat, (if (mn : Int) * sz < ((cs.map V.int).length : Int) then (mn : Int) * sz else ((cs.map V.int).length : Int)) = (b : Int) ∧ b ≤ mn * sz ∧ b ≤ cs.length := by
    rw [hmz, List.length_map]
    split
    · exact ⟨mn * sz, rfl, Nat.le_refl _, by omega⟩
    · exact ⟨cs.length, rfl, by omega, Nat.le_refl _⟩
  obtain ⟨b, eb, hb1, hb2⟩ := hb
  rw [eb]
  have hxn' : ms.length = mn * sz := by rw [hmz] at hxn; omega
  refine ⟨by omega, by omega, ?_⟩
  refine forW_range (fun i σ H' => ∃ (ms' : List Int) (o6 : Option V), σ = [some (.ref cp), some (.int sz), some (.int mn), some (.int c), some (.int sh), some (.ref xp), o6] ∧ Same H H' ∧ H' xp = some (.lst (ms'.map V.int)) ∧ ms'.length = mn * sz) ⟨ms, none, rfl, s1.trans s2, hxl, hxn'⟩ ?_ ?_
  · rintro i σ H' hi ⟨ms', o6, rfl, sm, hl, hn⟩
    rw [Int.toNat_natCast] at hi
    walk_at "rd1"
    have hat : atI (cs.map V.int) (0 + (i : Int)) = some (.int (cs.getD i 0)) := by
      rw [Int.zero_add]
      exact atI_nat (by rw [List.getElem?_map, List.getD_eq_getElem?_getD, List.getElem?_eq_getElem (by omega)]; rfl)
    refine ⟨_, _, .inl (sm.seq hcs), hat, ?_⟩
    walk_at "rd1"
    exact ⟨by decide, _, i, hl, ix_of (by rw [List.length_map]; omega), ms'.set i (cs.getD i 0 % 998244353), _, rfl, sm.upd (s1.free hxp) _, by rw [upd_same, List.map_set], by rw [List.length_set]; exact hn⟩
  rintro σ H3 ⟨ms', o6, rfl, s3, hl3, hn3⟩
  walk_at "nx"
  refine ⟨by omega, by omega, fun L hL => ?_⟩
  refine compW_range (fun i ys H' => ∃ (as : List Addr) (rs : List (List (Option Nat))), Same H3 H' ∧ H' L = some (.lst ys) ∧ ys = as.map V.ref ∧ as.length = i ∧ rs.length = i ∧ (∀ (k : Nat) a x, as[k]? = some a → rs[k]? = some x → H' a = some (.lst (x.map wayV)) ∧ a ≠ L) ∧ (∀ a ∈ as, H3 a = none) ∧ ∀ x ∈ rs, x.length = mn ∧ ∀ k, some k ∈ x → k < sz) ⟨[], [], same_new hL _, upd_same, rfl, rfl, rfl, by simp, by simp, by simp⟩ ?_ ?_
  · rintro i ys H' hi ⟨as, rs, sm, hl, rfl, hal, hrl, has, hfr, hrs⟩
    have hi' : i < sz := by omega
    walk_at "rd1"
    refine ⟨by omega, by omega, fun L2 hL2 => ?_⟩
    have nL : L2 ≠ L := Ne.symm (ne_of_none hl hL2)
    refine compW_range (fun j ys H'' => ∃ x : List (Option Nat), Same H' H'' ∧ H'' L2 = some (.lst ys) ∧ ys = x.map wayV ∧ x.length = j ∧ ∀ k, some k ∈ x → k < sz) ⟨[], same_new hL2 _, upd_same, rfl, rfl, by simp⟩ ?_ ?_
    · rintro j ys H'' hj ⟨x, smx, hlx, rfl, hx, hxk⟩
      have hj' : j < mn := by omega
      have hix : mn * i + j < ms'.length := by
        rw [hn3]
        calc mn * i + j < mn * i + mn := by omega
          _ = mn * (i + 1) := by rw [Nat.mul_add, Nat.mul_one]
          _ ≤ mn * sz := Nat.mul_le_mul_left _ hi'
      have hat : atI (ms'.map V.int) ((mn : Int) * (0 + (i : Int)) + (0 + (j : Int))) = some (.int ms'[mn * i + j]) := by
        rw [show (mn : Int) * (0 + (i : Int)) + (0 + (j : Int)) = ((mn * i + j : Nat) : Int) by simp]
        exact atI_nat (by rw [List.getElem?_map, List.getElem?_eq_getElem hix]; rfl)
      walk_at "rd1"
      refine ⟨.inl ⟨by omega, by omega⟩, _, _, .inl (SqL.of ((sm.trans smx) _ _ hl3)), hat, ?_⟩
      refine ⟨_, sh, sz, rfl, sh0, sh1, by omega, by omega, fun o ho => ?_⟩
      exact cstep (by omega) (by rw [List.length_map]; exact hx) (smallL (by omega)) hlx ⟨x ++ [o], smx.upd hL2 _, upd_same, by simp, by simp [hx], fun k hk => by
        rcases List.mem_append.mp hk with z | z
        · exact hxk k z
        · have := ho k (List.mem_singleton.mp z).symm
          omega⟩
    rintro ys H'' ⟨x, smx, hlx, rfl, hx, hxk⟩
    refine cstep (by omega) (by rw [List.length_map]; exact hal) (smallL (by omega)) (smx _ _ hl) ⟨as ++ [L2], rs ++ [x], (sm.trans smx).upd hL _, upd_same, by simp, by simp [hal], by simp [hrl], fun k a y e1 e2 => ?_, fun a ha => ?_, fun y hy => ?_⟩
    · by_cases hk : k < as.length
      · rw [List.getElem?_append_left hk] at e1
        rw [List.getElem?_append_left (by omega)] at e2
        obtain ⟨g1, g2⟩ := has k a y e1 e2
        exact ⟨by rw [upd_ne g2]; exact smx _ _ g1, g2⟩
      · have hk' : k = as.length := by have := (List.getElem?_eq_some_iff.mp e1).1; simp at this; omega
        subst hk'
        rw [List.getElem?_append_right (Nat.le_refl _)] at e1
        rw [show as.length = rs.length by omega, List.getElem?_append_right (Nat.le_refl _)] at e2
        simp at e1 e2
        subst e1 e2
        exact ⟨by rw [upd_ne nL]; exact hlx, nL⟩
    · rcases List.mem_append.mp ha with z | z
      · exact hfr a z
      · rw [List.mem_singleton.mp z]; exact sm.free hL2
    · rcases List.mem_append.mp hy with z | z
      · exact hrs y z
      · rw [List.mem_singleton.mp z]; exact ⟨by omega, hxk⟩
  rintro ys H4 ⟨as, rs, sm, hl, rfl, hal, hrl, has, hfr, hrs⟩
  refine q L H4 as rs (s3.trans sm) (s3.free hL) ⟨hl, by omega, fun i a x e1 e2 => (has i a x e1 e2).1⟩ (fun a ha => s3.free (hfr a ha)) (by omega) hrs
end
/-! ### what the law draws -/
def T (x : Str) : List Nat := x.cps.toList
theorem T_app (x y : Str) : T (x ++ y) = T x ++ T y := by
  show (x.cps ++ y.cps).toList = _
  simp [T]
theorem T_inj {x y : Str} (h : T x = T y) : x = y := by
  cases x; cases y
  unfold T at h
  simpa using h
theorem T_len (x : Str) : (T x).length = x.length := by simp [T, Str.length]
theorem sided_inj {u u' x y : Str} (hu : u.length = 1) (hu' : u'.length = 1) (h : (u ++ Str.ofString ".") ++ x = (u' ++ Str.ofString ".") ++ y) : x = y := by
  have e := congrArg T h
  rw [T_app, T_app, T_app, T_app] at e
  have hl : (T u ++ T (Str.ofString ".")).length = (T u' ++ T (Str.ofString ".")).length := by rw [List.length_append, List.length_append, T_len, T_len, T_len, hu, hu']
  exact T_inj (List.append_inj_right e hl)
theorem nodup_key {α : Type} {ss : List α} {R : Nat → α → Prop} (h : ∀ (k : Nat) s, ss[k]? = some s → R k s) (inj : ∀ i j s, i < ss.length → j < ss.length → R i s → R j s → i = j) : ss.Nodup := by
  rw [List.nodup_iff_pairwise_ne, List.pairwise_iff_getElem]
  intro i j hi hj hij e
  have := inj i j _ hi hj (h i _ (List.getElem?_eq_getElem hi)) (h j _ (by rw [e]; exact List.getElem?_eq_getElem hj))
  omega
theorem key_push {α : Type} {ss : List α} {R : Nat → α → Prop} {i : Nat} {x : α} (hn : ss.length = i) (h : ∀ (k : Nat) s, ss[k]? = some s → R k s) (hx : R i x) : ∀ (k : Nat) s, (ss ++ [x])[k]? = some s → R k s := by
  intro k s e
  rcases Nat.lt_or_ge k ss.length with z | z
  · rw [List.getElem?_append_left z] at e; exact h k s e
  · rw [List.getElem?_append_right z] at e
    have hk : k - ss.length = 0 := by
      have := (List.getElem?_eq_some_iff.mp e).1
      simp at this; omega
    rw [hk] at e
    have : x = s := by simpa using e
    subst this
    rw [show k = i by omega]; exact hx
section
variable {P : Program} {w : World} {K : PySem.W.Frag} {mg : Str → Option Value} {base : Heap}
/-- a rule none of whose lists is W -/
def RuleAv (H : Hp) (p : Addr) (r : Rl) (W : Addr) : Prop := ∃ pw pr as, H p = some (.tup [.int r.s, .ref pw, .ref pr]) ∧ H pw = some (.lst (r.ws.map V.str)) ∧ RoomsAs H pr r.rs as ∧ pw ≠ W ∧ pr ≠ W ∧ W ∉ as
theorem RuleAv.to {H : Hp} {p W : Addr} {r : Rl} (h : RuleAv H p r W) : RuleAt H p r := by
  obtain ⟨pw, pr, as, h1, h2, h3, _⟩ := h
  exact ⟨pw, pr, as, h1, h2, h3⟩
theorem RuleAv.mono {H H' : Hp} {p W : Addr} {r : Rl} (h : RuleAv H p r W) (sm : Same H H') : RuleAv H' p r W := by
  obtain ⟨pw, pr, as, h1, h2, h3, h4⟩ := h
  exact ⟨pw, pr, as, sm _ _ h1, sm _ _ h2, h3.mono sm, h4⟩
theorem RuleAv.put {H : Hp} {p W : Addr} {r : Rl} {xs : List V} {u : HO} (h : RuleAv H p r W) (hW : H W = some (.lst xs)) : RuleAv (upd H W u) p r W := by
  obtain ⟨pw, pr, as, h1, h2, h3, h4, h5, h6⟩ := h
  exact ⟨pw, pr, as, by rw [upd_ne (fun z => by rw [z, hW] at h1; cases h1)]; exact h1, by rw [upd_ne h4]; exact h2, h3.other h5 h6, h4, h5, h6⟩
theorem turn_take {xs : List Str} (nd : xs.Nodup) (h6 : xs.length = 6) {st m : Nat} (hs : st < 6) (hm : m ≤ 3) : (((xs ++ xs).drop st).take m).Nodup ∧ (∀ x ∈ ((xs ++ xs).drop st).take m, x ∈ xs) ∧ (((xs ++ xs).drop st).take m).length ≤ 3 := by
  have e : ((xs ++ xs).drop st).take m = (xs.drop st ++ xs.take st).take m := by
    rw [List.drop_append_of_le_length (by omega)]
    conv => lhs; rw [show xs.drop st ++ xs = (xs.drop st ++ xs.take st) ++ xs.drop st by rw [List.append_assoc, List.take_append_drop]]
    rw [List.take_append_of_le_length (by rw [List.length_append, List.length_drop, List.length_take]; omega)]
  refine ⟨?_, fun x hx => ?_, by rw [List.length_take]; omega⟩
  · rw [e]
    refine List.Nodup.sublist (List.take_sublist _ _) ?_
    have pm : (xs.drop st ++ xs.take st).Perm xs := by
      have := List.perm_append_comm (l₁ := xs.drop st) (l₂ := xs.take st)
      rwa [List.take_append_drop] at this
    exact pm.nodup_iff.mpr nd
  · have := List.mem_of_mem_drop (List.mem_of_mem_take hx)
    simpa using this
theorem cutV_mid (xs : List V) (i j : Nat) : cutV xs (some (i : Int)) (some (j : Int)) = (xs.take j).drop i := by
  unfold cutV
  rw [HT.sIx_nat, HT.sIx_nat, List.drop_take]
  rcases Nat.lt_or_ge xs.length i with h | h
  · rw [List.drop_eq_nil_of_le (by omega), List.drop_eq_nil_of_le (by omega)]; simp
  · rcases Nat.lt_or_ge xs.length j with h2 | h2
    · rw [show min i xs.length = i by omega, show min j xs.length = xs.length by omega, List.take_of_length_le (by simp), List.take_of_length_le (by simp; omega)]
    · rw [show min i xs.length = i by omega, show min j xs.length = j by omega]
theorem pick_fwd_len (xs : List V) (lo n : Nat) (hn : 1 ≤ n) : (pickV xs (some (lo : Int)) none (some (n : Int))).length ≤ xs.length := by
  unfold pickV
  refine Nat.le_trans (List.length_filterMap_le _ _) ?_
  have hb : ∃ st : Int, 0 ≤ st ∧ sliceBounds (some (lo : Int)) none (some (n : Int)) xs.length = (st, (xs.length : Int), (n : Int)) := by
    refine ⟨max 0 (min (lo : Int) xs.length), by omega, ?_⟩
    have hn' : (n : Int) > 0 := by omega
    show (_, _, _) = _
    simp only [sliceBounds, Option.getD_some, hn', if_true]
    rw [if_neg (by omega)]
  obtain ⟨st, h0, e⟩ := hb
  rw [e]
  unfold sliceRange
  rw [List.length_map, List.length_range]
  dsimp only
  rw [if_pos (by omega)]
  split
  · rename_i h
    have : ((xs.length : Int) - st + n - 1) / n ≤ xs.length - st := by
      refine Int.le_of_lt_add_one (Int.ediv_lt_of_lt_mul (by omega) ?_)
      have h1 : ((xs.length : Int) - st + 1) * n = ((xs.length : Int) - st) * n + n := by rw [Int.add_mul, Int.one_mul]
      have h2 : ((xs.length : Int) - st) * 1 ≤ ((xs.length : Int) - st) * n := Int.mul_le_mul_of_nonneg_left (by omega) (by omega)
      rw [h1]
      omega
    omega
  · simp
theorem pick_ints {ns : List Int} {lo hi st : Option Int} : ∃ cs : List Int, pickV (ns.map V.int) lo hi st = cs.map V.int := by
  have h : ∀ vs : List V, (∀ v ∈ vs, v ∈ ns.map V.int) → ∃ cs : List Int, vs = cs.map V.int := by
    intro vs
    induction vs with
    | nil => exact fun _ => ⟨[], rfl⟩
    | cons v vs ih =>
      intro h
      obtain ⟨cs, e⟩ := ih fun u hu => h u (List.mem_cons_of_mem _ hu)
      obtain ⟨z, _, e2⟩ := List.mem_map.mp (h v List.mem_cons_self)
      exact ⟨z :: cs, by rw [e, ← e2]; rfl⟩
  exact h _ fun v hv => pick_mem hv
theorem nodup_sub : ∀ {l m : List Str}, l.Nodup → (∀ x ∈ l, x ∈ m) → l.length ≤ m.length
  | [], _, _, _ => Nat.zero_le _
  | x :: l, m, hn, hs => by
    have hx := hs x List.mem_cons_self
    obtain ⟨h1, h2⟩ := List.nodup_cons.mp hn
    have h3 := nodup_sub (m := m.erase x) h2 (fun y hy => (List.mem_erase_of_ne (by rintro rfl; exact h1 hy)).mpr (hs y (List.mem_cons_of_mem _ hy)))
    rw [List.length_erase_of_mem hx] at h3
    have := List.length_pos_of_mem hx
    rw [List.length_cons]; omega
theorem prod_cap : ∀ (rs : List Rl) (cs : List Nat), rs.length ≤ cs.length → (∀ c ∈ cs, 1 ≤ c) → (∀ (k : Nat) r, rs[k]? = some r → r.rs.length ≤ cs.getD k 1) → prodR rs ≤ cs.foldr (· * ·) 1
  | [], [], _, _, _ => Nat.le_refl _
  | [], c :: cs, _, h1, _ => by
    have ih := prod_cap [] cs (Nat.zero_le _) (fun c hc => h1 c (List.mem_cons_of_mem _ hc)) (fun k r e => by simp at e)
    show 1 ≤ c * cs.foldr (· * ·) 1
    exact Nat.mul_le_mul (h1 c List.mem_cons_self) ih
  | r :: rs, [], h, _, _ => by simp at h
  | r :: rs, c :: cs, h, h1, h2 => by
    have ih := prod_cap rs cs (by simpa using h) (fun c hc => h1 c (List.mem_cons_of_mem _ hc)) (fun k r e => by have := h2 (k + 1) r (by simpa using e); simpa using this)
    show r.rs.length * prodR rs ≤ c * cs.foldr (· * ·) 1
    exact Nat.mul_le_mul (by have := h2 0 r rfl; simpa using this) ih
theorem flat_len : ∀ (rs : List Rl), (∀ r ∈ rs, r.ws.length ≤ 3) → (rs.flatMap (·.ws)).length ≤ 3 * rs.length
  | [], _ => Nat.zero_le _
  | r :: rs, h => by
    have ih := flat_len rs fun r hr => h r (List.mem_cons_of_mem _ hr)
    rw [List.flatMap_cons, List.length_append, List.length_cons]
    have := h r List.mem_cons_self
    omega
def capR : List Nat := [3, 3, 3, 2, 1, 1, 1, 1]
/-- what the drawn rules are -/
structure DrawnR (rs : List Rl) (sd : Int) : Prop where
  n1 : 1 ≤ rs.length
  n8 : rs.length ≤ 8
  ok : ∀ r ∈ rs, RlOk r ∧ r.ws.Nodup ∧ r.s = sd
  pr : prodR rs ≤ 60
  fl : (rs.flatMap (·.ws)).length ≤ 60
  w16 : ∀ ts, WordsOf ts rs → ts.length ≤ 16
def spRulesL (K : PySem.W.Frag) : Sp := fun vs H Q _ => ∃ (a : Addr) (ns : List Int), vs = [.ref a] ∧ SqL K H a (ns.map V.int) ∧ ns.length ≤ 63 ∧ ∀ (p : Addr) (H' : Hp) (nms : List Str) (rs : List Rl) (sd : Int), Same H H' → NmdAt H' p nms rs → DrawnR rs sd → Q (.ref p) H'
theorem ok_rules (D : DefAt K mg "_law_rules" s_law_rules) (z_range : mg "range" = none) (z_len : mg "len" = none) (z_str : mg "str" = none) (z_sorted : mg "sorted" = none) (c_law_cell_at : Cal P w K mg base 1 "_law_cell_at" ["_law_script", "_law_k"] (spCell K)) (c_law_words : Cal P w K mg base 2 "_law_words" ["_law_cell", "_law_many"] spWordsN) (c_law_rooms : Cal P w K mg base 2 "_law_rooms" ["_law_cells", "_law_size", "_law_many", "_law_cell"] (spRooms K)) : Cal P w K mg base 3 "_law_rules" ["_law_script"] (spRulesL K) := by
  refine D.cal sc_law_rules (fun _ _ _ _ _ _ us hl => match us, hl with | [_], _ => rfl) (fun vs H Q E h => by obtain ⟨_, _, rfl, _⟩ := h; rfl) (fun f cdv A outer s H vs Q E hr h => ?_)
  obtain ⟨a, ns, rfl, hS, h63, q⟩ := h
  refine ⟨_, (pss_cons (ps_let 1 sc_law_rules.nd (pe_op op_addA pe_int (pe_op op_mod (pe_cal c_law_cell_at hr (pa_cons (pv 0 (hv := v_law_rules__law_script)) (pa_cons pe_int pa_nil)) (hg := gl_law_rules__law_cell_at)) pe_int)) (hx := l_law_rules__law_many))
      (pss_cons (ps_if (pt_cmpR op_eqA (pe_op op_mod (pe_op op_fdiv (pe_cal c_law_cell_at hr (pa_cons (pv 0 (hv := v_law_rules__law_script)) (pa_cons pe_int pa_nil)) (hg := gl_law_rules__law_cell_at)) pe_int) pe_int) pe_int (nomark _)) (pss_one (ps_let 1 sc_law_rules.nd (pe_op op_addA pe_int (pe_op op_mod (pe_op op_fdiv (pe_cal c_law_cell_at hr (pa_cons (pv 0 (hv := v_law_rules__law_script)) (pa_cons pe_int pa_nil)) (hg := gl_law_rules__law_cell_at)) pe_int) pe_int)) (hx := l_law_rules__law_many))) pss_nil)
      (pss_cons (ps_let 2 sc_law_rules.nd (pe_op op_addA pe_int (pe_op op_mod (pe_cal c_law_cell_at hr (pa_cons (pv 0 (hv := v_law_rules__law_script)) (pa_cons pe_int pa_nil)) (hg := gl_law_rules__law_cell_at)) pe_int)) (hx := l_law_rules__law_sides))
      (pss_cons (ps_let 3 sc_law_rules.nd (pe_cal c_law_words hr (pa_cons (pe_op op_fdiv (pe_cal c_law_cell_at hr (pa_cons (pv 0 (hv := v_law_rules__law_script)) (pa_cons pe_int pa_nil)) (hg := gl_law_rules__law_cell_at)) pe_int) (pa_cons pe_int pa_nil)) (hg := gl_law_rules__law_words)) (hx := l_law_rules__law_words_here))
      (pss_cons (ps_if (pt_cmpR op_eqA (pv 2 (hv := v_law_rules__law_sides)) pe_int (nomark _)) (pss_one (ps_let 3 sc_law_rules.nd (pe_comp (CompSc.to (fsc := (defScope s_law_rules)) (N := ["_law_script", "_law_many", "_law_sides", "_law_words_here", "_law_names", "_law_rules_here", "_law_k", "_law_head", "_law_step", "_law_some", "_law_size", "_law_rooms_here"]) (N0 := ["_law_script", "_law_many", "_law_sides", "_law_words_here", "_law_names", "_law_rules_here", "_law_k", "_law_head", "_law_step", "_law_some", "_law_size", "_law_rooms_here"]) (T := ["_law_j"]) ⟨by decide +kernel, by decide +kernel, by decide +kernel, by decide +kernel, by decide +kernel, by decide +kernel, by decide +kernel⟩ rfl rfl) rfl (pi_range1 gl_law_rules_range z_range (pa_cons pe_int pa_nil)) (fun _ _ _ _ => (pg_let 12 (show (["_law_script", "_law_many", "_law_sides", "_law_words_here", "_law_names", "_law_rules_here", "_law_k", "_law_head", "_law_step", "_law_some", "_law_size", "_law_rooms_here", "_law_j"] : List Str).Nodup from by decide +kernel) (hx := (locC (defScope s_law_rules) (by decide +kernel))) (hf := fnC (defScope s_law_rules) (by decide +kernel)))) (gfr_name (show (["_law_script", "_law_many", "_law_sides", "_law_words_here", "_law_names", "_law_rules_here", "_law_k", "_law_head", "_law_step", "_law_some", "_law_size", "_law_rooms_here"] : List Str).length ≤ 12 from by decide)) (fun _ _ _ _ => pifs_nil) (fun _ _ _ _ => (pe_op op_addA (pe_op op_addA (pe_bty call_strI z_str bt_str (pa_cons (pe_op op_addA pe_int (pe_op op_mod (pe_op op_fdiv (pe_op op_fdiv (pe_cal c_law_cell_at hr (pa_cons (pv 0 (hv := (visC (defScope s_law_rules) (by decide +kernel)))) (pa_cons pe_int pa_nil)) (hg := (glC (defScope s_law_rules) (by decide +kernel)))) pe_int) (pe_op op_addA (pv 12 (hv := (visC (defScope s_law_rules) (by decide +kernel)))) pe_int)) pe_int)) pa_nil) (hg := (glC (defScope s_law_rules) (by decide +kernel)))) pe_str) (pe_ix (ix_K K) (pv 3 (hv := (visC (defScope s_law_rules) (by decide +kernel)))) (pv 12 (hv := (visC (defScope s_law_rules) (by decide +kernel)))) (fun _ _ => rfl))))) (hx := l_law_rules__law_words_here))) pss_nil)
      (pss_cons (ps_let 4 sc_law_rules.nd (pe_cal c_law_words hr (pa_cons (pe_op op_fdiv (pe_cal c_law_cell_at hr (pa_cons (pv 0 (hv := v_law_rules__law_script)) (pa_cons pe_int pa_nil)) (hg := gl_law_rules__law_cell_at)) pe_int) (pa_cons pe_int pa_nil)) (hg := gl_law_rules__law_words)) (hx := l_law_rules__law_names))
      (pss_cons (ps_let 5 sc_law_rules.nd (pe_lst pa_nil) (hx := l_law_rules__law_rules_here))
      (pss_cons (ps_for PassesOwn.never rfl (pi_range1 gl_law_rules_range z_range (pa_cons (pv 1 (hv := v_law_rules__law_many)) pa_nil)) (pg_let 6 sc_law_rules.nd (hx := l_law_rules__law_k)) (pss_cons (ps_let 7 sc_law_rules.nd (pe_cal c_law_cell_at hr (pa_cons (pv 0 (hv := v_law_rules__law_script)) (pa_cons (pe_op op_addA pe_int (pv 6 (hv := v_law_rules__law_k))) pa_nil)) (hg := gl_law_rules__law_cell_at)) (hx := l_law_rules__law_head))
      (pss_cons (ps_let 8 sc_law_rules.nd (pe_op op_mod (pe_op op_fdiv (pv 7 (hv := v_law_rules__law_head)) pe_int) pe_int) (hx := l_law_rules__law_step))
      (pss_cons (ps_let 9 sc_law_rules.nd (pe_blt (call_sortS K) z_sorted bt_sorted (pa_cons (pe_slice (sl_listK K) (pe_op op_addA (pv 3 (hv := v_law_rules__law_words_here)) (pv 3 (hv := v_law_rules__law_words_here))) (po_some (pv 8 (hv := v_law_rules__law_step))) (po_some (pe_op op_addA (pv 8 (hv := v_law_rules__law_step)) (pe_op op_mod (pv 7 (hv := v_law_rules__law_head)) pe_int)))) pa_nil) (hg := gl_law_rules_sorted)) (hx := l_law_rules__law_some))
      (pss_cons (ps_let 10 sc_law_rules.nd (pe_op op_addA pe_int (pe_op op_mod (pe_op op_fdiv (pv 7 (hv := v_law_rules__law_head)) pe_int) (pe_ix (ix_K K) (pe_lst (pa_cons pe_int (pa_cons pe_int (pa_cons pe_int (pa_cons pe_int (pa_cons pe_int (pa_cons pe_int (pa_cons pe_int (pa_cons pe_int pa_nil))))))))) (pv 6 (hv := v_law_rules__law_k)) (fun _ _ => rfl)))) (hx := l_law_rules__law_size))
      (pss_cons (ps_let 11 sc_law_rules.nd (pe_cal c_law_rooms hr (pa_cons (pe_sliceP K (pv 0 (hv := v_law_rules__law_script)) (po_some (pe_op op_addA pe_int (pv 6 (hv := v_law_rules__law_k)))) po_none (po_some (pv 1 (hv := v_law_rules__law_many)))) (pa_cons (pv 10 (hv := v_law_rules__law_size)) (pa_cons (pe_blt (call_lenK K) z_len bt_len (pa_cons (pv 9 (hv := v_law_rules__law_some)) pa_nil) (hg := gl_law_rules_len)) (pa_cons (pe_cal c_law_cell_at hr (pa_cons (pv 0 (hv := v_law_rules__law_script)) (pa_cons (pe_op op_addA pe_int (pv 6 (hv := v_law_rules__law_k))) pa_nil)) (hg := gl_law_rules__law_cell_at)) pa_nil)))) (hg := gl_law_rules__law_rooms)) (hx := l_law_rules__law_rooms_here))
      (pss_one (ps_expr (pe_bmK K PySem.F.plainAttrs_list PySem.F.slot_list_append PySem.F.type_list_append mt_appendA (pv 5 (hv := v_law_rules__law_rules_here)) (pa_cons (pe_tup (pa_cons (pe_ix (ix_K K) (pv 4 (hv := v_law_rules__law_names)) (pv 6 (hv := v_law_rules__law_k)) (fun _ _ => rfl)) (pa_cons (pe_tup (pa_cons (pv 2 (hv := v_law_rules__law_sides)) (pa_cons (pv 9 (hv := v_law_rules__law_some)) (pa_cons (pv 11 (hv := v_law_rules__law_rooms_here)) pa_nil)))) pa_nil))) pa_nil))))))))))
      (pss_one (ps_ret (pv 5 (hv := v_law_rules__law_rules_here)))))))))))), ?_⟩
  walk_at "rd1"
  refine ⟨a, ns, 0, rfl, hS, by decide, ?_⟩
  generalize ns.getD (Int.toNat 0) 0 = c0
  walk_at "rd1"
  refine ⟨by decide, ?_⟩
  refine seq_by (fun σ' H' => ∃ n : Nat, 1 ≤ n ∧ n ≤ 8 ∧ σ' = [some (.ref a), some (.int n), none, none, none, none, none, none, none, none, none, none] ∧ H = H') (fun k hk => ?_) ?_
  · walk_at "rd1"
    refine ⟨a, ns, 0, rfl, hS, by decide, ?_⟩
    walk_at "rd1"
    refine ⟨⟨by decide, by decide⟩, by decide, ite2 (fun _ => ?_) (fun _ => ?_)⟩
    · refine ⟨a, ns, 0, rfl, hS, by decide, ?_⟩
      walk_at "rd1"
      refine ⟨⟨by decide, by decide⟩, by decide, hk _ _ ⟨(5 + ns.getD (Int.toNat 0) 0 / 16 % 4).toNat, by omega, by omega, ?_, rfl⟩⟩
      rw [show (((5 + ns.getD (Int.toNat 0) 0 / 16 % 4).toNat : Nat) : Int) = 5 + ns.getD (Int.toNat 0) 0 / 16 % 4 by omega]
    · refine hk _ _ ⟨(1 + c0 % 4).toNat, by omega, by omega, ?_, rfl⟩
      rw [show (((1 + c0 % 4).toNat : Nat) : Int) = 1 + c0 % 4 by omega]
  rintro σ' H' ⟨n, n1, n8, rfl, rfl⟩
  walk_at "nx"
  refine ⟨a, ns, 1, rfl, hS, by decide, ?_⟩
  generalize ns.getD (Int.toNat 1) 0 = c1
  walk_at "rd1"
  refine ⟨by decide, ?_⟩
  generalize hsd : 1 + c1 % 2 = sd
  have hsd' : sd = 1 ∨ sd = 2 := by omega
  walk_at "nx"
  refine ⟨a, ns, 1, rfl, hS, by decide, ?_⟩
  walk_at "rd1"
  refine ⟨⟨by decide, by decide⟩, _, 6, rfl, by decide, fun wp H1 us s1 hwp ew hul hu8 hund => ?_⟩
  dsimp only
  refine seq_by (fun σ' H' => ∃ (tp : Addr) (xs : List Str), σ' = [some (.ref a), some (.int n), some (.int sd), some (.ref tp), none, none, none, none, none, none, none, none] ∧ Same H H' ∧ H' tp = some (.lst (xs.map V.str)) ∧ xs.Nodup ∧ xs.length = 6 ∧ ∀ u ∈ xs, u.length ≤ 10) (fun k hk => ?_) ?_
  · walk_at "rd1"
    refine ite2 (fun _ => ?_) (fun _ => ?_)
    · refine ⟨by decide, by decide, fun L2 hL2 => ?_⟩
      refine compW_range (fun i ys H' => ∃ xs : List Str, Same H1 H' ∧ H' L2 = some (.lst ys) ∧ ys = xs.map V.str ∧ xs.length = i ∧ (∀ u ∈ xs, u.length ≤ 10) ∧ ∀ (k : Nat) x, xs[k]? = some x → ∃ u v, u.length = 1 ∧ us[k]? = some v ∧ x = (u ++ Str.ofString ".") ++ v) ⟨[], same_new hL2 _, upd_same, rfl, rfl, by simp, by simp⟩ ?_ ?_
      · rintro i ys H' hi ⟨xs, sm, hl, rfl, hxl, hx10, hxk⟩
        have hi6 : i < 6 := hi
        have hiu : i < us.length := by omega
        walk_at "rd1"
        refine ⟨a, ns, 0, rfl, (s1.trans sm).seq hS, by decide, ?_⟩
        walk_at "rd1"
        obtain ⟨q1, q2⟩ := side_str (ns.getD (Int.toNat 0) 0 / 2 / (0 + (i : Int) + 1))
        have h8 := hu8 _ (List.getElem_mem hiu)
        obtain ⟨l1, l2⟩ := sided_len q2 h8
        refine ⟨⟨by decide, by decide⟩, ⟨by omega, by omega⟩, by decide, q1, ?_, _, _, .inl (SqL.of (sm _ _ ew)), by rw [Int.zero_add]; exact atI_nat (v := .str us[i]) (by rw [List.getElem?_map, List.getElem?_eq_getElem hiu]; rfl), ?_⟩
        · rw [← Str.length_append, l1]; exact smallL (by omega)
        walk_at "rd1"
        refine ⟨?_, cstep hi (by rw [List.length_map]; exact hxl) (smallL (by decide)) hl ⟨xs ++ [_], sm.upd hL2 _, upd_same, by rw [List.map_append]; rfl, by simp [hxl], fun u hu => ?_, key_push hxl hxk ⟨_, _, q2, List.getElem?_eq_getElem hiu, rfl⟩⟩⟩
        · rw [← Str.length_append]; exact smallL (by omega)
        · rcases List.mem_append.mp hu with z | z
          · exact hx10 u z
          · rw [List.mem_singleton.mp z]; exact l2
      · rintro ys H' ⟨xs, sm, hl, rfl, hxl, hx10, hxk⟩
        refine hk _ _ ⟨L2, xs, rfl, s1.trans sm, hl, nodup_key hxk fun i j s hi hj h1 h2 => ?_, hxl, hx10⟩
        obtain ⟨u, v, lu, ev, es⟩ := h1
        obtain ⟨u', v', lu', ev', es'⟩ := h2
        have evv := sided_inj lu lu' (es.symm.trans es')
        subst evv
        obtain ⟨a1, b1⟩ := List.getElem?_eq_some_iff.mp ev
        obtain ⟨a2, b2⟩ := List.getElem?_eq_some_iff.mp ev'
        exact (List.getElem_inj hund (h₀ := a1) (h₁ := a2)).mp (b1.trans b2.symm)
    · exact hk _ _ ⟨wp, us, rfl, s1, ew, hund, hul, fun u hu => by have := hu8 u hu; omega⟩
  rintro σ' H3 ⟨tp, xs, rfl, s3, e3, hxd, hxl, hx10⟩
  walk_at "nx"
  refine ⟨a, ns, 1, rfl, s3.seq hS, by decide, ?_⟩
  walk_at "rd1"
  refine ⟨⟨by decide, by decide⟩, _, 8, rfl, by decide, fun np H4 nms s4 hnp en hnl hn8 hnd => ?_⟩
  walk_at "nx"
  refine ⟨by decide, fun rp hrp => ?_⟩
  have s5 := same_new hrp (.lst [])
  have e5 : upd H4 rp (.lst []) rp = some (.lst (([] : List Addr).map V.ref)) := upd_same
  generalize upd H4 rp (.lst []) = H5 at s5 e5 ⊢
  walk_at "nx"
  refine ⟨by omega, by omega, ?_⟩
  have s35 := s4.trans s5
  refine forW_range (fun i σ H' => ∃ (qs ps : List Addr) (rs : List Rl) (o6 o7 o8 o9 o10 o11 : Option V), σ = [some (.ref a), some (.int n), some (.int sd), some (.ref tp), some (.ref np), some (.ref rp), o6, o7, o8, o9, o10, o11] ∧ Same H4 H' ∧ H' rp = some (.lst (qs.map V.ref)) ∧ qs.length = i ∧ ps.length = i ∧ rs.length = i ∧ (∀ (k : Nat) q n p, qs[k]? = some q → nms[k]? = some n → ps[k]? = some p → H' q = some (.tup [.str n, .ref p])) ∧ (∀ (k : Nat) p r, ps[k]? = some p → rs[k]? = some r → RuleAv H' p r rp) ∧ ∀ (k : Nat) r, rs[k]? = some r → RlOk r ∧ r.ws.Nodup ∧ r.s = sd ∧ r.ws.length ≤ 3 ∧ (∀ x ∈ r.ws, x ∈ xs) ∧ r.rs.length ≤ capR.getD k 1)
    ⟨[], [], [], none, none, none, none, none, none, rfl, s5, e5, rfl, rfl, rfl, by simp, by simp, by simp⟩ ?_ ?_
  · rintro i σ H' hi ⟨qs, ps, rs, o6, o7, o8, o9, o10, o11, rfl, sm, hl, hql, hpl, hrl, hq, hR, hok⟩
    have hin : i < n := by omega
    have hS' := ((s3.trans s4).trans sm).seq hS
    walk_at "rd1"
    refine ⟨a, ns, 2 + (0 + (i : Int)), rfl, hS', by omega, ?_⟩
    generalize ns.getD (Int.toNat (2 + (0 + (i : Int)))) 0 = hd
    walk_at "nx"
    refine ⟨⟨by decide, by decide⟩, by decide, ?_⟩
    have hst : ∃ z : Nat, hd / 4 % 6 = (z : Int) ∧ z < 6 := ⟨(hd / 4 % 6).toNat, by omega, by omega⟩
    obtain ⟨st, est, hst⟩ := hst
    rw [est]
    walk_at "nx"
    have e3' := (s4.trans sm) _ _ e3
    refine ⟨_, _, e3', e3', by rw [List.length_map, hxl]; decide, fun dp hdp => ?_⟩
    rw [← List.map_append]
    have s6 := same_new hdp (.lst ((xs ++ xs).map V.str))
    have e6 : upd H' dp (.lst ((xs ++ xs).map V.str)) dp = some (.lst ((xs ++ xs).map V.str)) := upd_same
    generalize upd H' dp (.lst ((xs ++ xs).map V.str)) = H6 at s6 e6 ⊢
    have hm : ∃ z : Nat, hd % 4 = (z : Int) ∧ z ≤ 3 := ⟨(hd % 4).toNat, by omega, by omega⟩
    obtain ⟨m, em, hm⟩ := hm
    rw [em]
    obtain ⟨tn, tm, tl⟩ := turn_take hxd hxl hst hm
    refine ⟨by decide, _, SqL.of e6, fun sp hsp => ?_⟩
    rw [show (st : Int) + (m : Int) = ((st + m : Nat) : Int) by omega, cutV_mid, ← List.map_take, ← List.map_drop, List.drop_take, show st + m - st = m by omega] at *
    have s7 := same_new hsp (.lst ((((xs ++ xs).drop st).take m).map V.str))
    have e7 : upd H6 sp (.lst ((((xs ++ xs).drop st).take m).map V.str)) sp = some (.lst ((((xs ++ xs).drop st).take m).map V.str)) := upd_same
    generalize upd H6 sp (.lst ((((xs ++ xs).drop st).take m).map V.str)) = H7 at s7 e7 ⊢
    generalize ((xs ++ xs).drop st).take m = ys at tn tm tl e7
    refine ⟨ys, SqL.of e7, by omega, fun wp' ts hwp' hpm hso => ?_⟩
    have s8 := same_new hwp' (.lst (ts.map V.str))
    have e8 : upd H7 wp' (.lst (ts.map V.str)) wp' = some (.lst (ts.map V.str)) := upd_same
    generalize upd H7 wp' (.lst (ts.map V.str)) = H8 at s8 e8 ⊢
    walk_at "nx"
    refine ⟨⟨by decide, by decide⟩, by decide, fun kp hkp => ?_⟩
    have s9 := same_new hkp (.lst [V.int 3, V.int 3, V.int 3, V.int 2, V.int 1, V.int 1, V.int 1, V.int 1])
    have e9 : upd H8 kp (.lst [V.int 3, V.int 3, V.int 3, V.int 2, V.int 1, V.int 1, V.int 1, V.int 1]) kp = some (.lst (capR.map fun k : Nat => V.int (k : Int))) := upd_same
    generalize upd H8 kp (.lst [V.int 3, V.int 3, V.int 3, V.int 2, V.int 1, V.int 1, V.int 1, V.int 1]) = H9 at s9 e9 ⊢
    have hcap : ∀ i : Fin 8, 1 ≤ capR.getD i.val 1 ∧ capR.getD i.val 1 ≤ 3 := by decide
    obtain ⟨cv1, cv3⟩ := hcap ⟨i, by omega⟩
    have hi8 : i < capR.length := Nat.lt_of_lt_of_le hin n8
    have hcv : atI (capR.map fun k : Nat => V.int (k : Int)) (0 + (i : Int)) = some (.int (capR.getD i 1 : Nat)) := by
      rw [Int.zero_add]
      exact atI_nat (by rw [List.getElem?_map, List.getD_eq_getElem?_getD, List.getElem?_eq_getElem hi8]; rfl)
    refine ⟨_, _, .inl (SqL.of e9), hcv, ?_⟩
    dsimp only at cv1 cv3
    generalize hcg : capR.getD i 1 = cv at cv1 cv3
    walk_at "rd1"
    refine ⟨by omega, ?_⟩
    have hsz : ∃ z : Nat, 1 + hd / 24 % (cv : Int) = (z : Int) ∧ 1 ≤ z ∧ z ≤ cv := ⟨(1 + hd / 24 % (cv : Int)).toNat, by have := Int.emod_nonneg (hd / 24) (show (cv : Int) ≠ 0 by omega); omega, by have := Int.emod_nonneg (hd / 24) (show (cv : Int) ≠ 0 by omega); omega, by have := Int.emod_lt_of_pos (hd / 24) (show (0 : Int) < cv by omega); have := Int.emod_nonneg (hd / 24) (show (cv : Int) ≠ 0 by omega); omega⟩
    obtain ⟨sz, esz, sz1, szc⟩ := hsz
    rw [esz]
    walk_at "nx"
    rw [tSlP_at]
    walk_at "rd1"
    have s69 := ((s6.trans s7).trans s8).trans s9
    rw [show (18 : Int) + (0 + (i : Int)) = ((18 + i : Nat) : Int) by omega]
    obtain ⟨cs, ecs⟩ := pick_ints (ns := ns) (lo := some ((18 + i : Nat) : Int)) (hi := none) (st := some (n : Int))
    have hpl63 := pick_fwd_len (ns.map V.int) (18 + i) n n1
    rw [List.length_map] at hpl63
    refine ⟨a, _, rfl, s69.seq hS', by simp; omega, smallL (by omega), fun vp hvp => ?_⟩
    rw [ecs]
    have s10 := same_new hvp (.lst (cs.map V.int))
    have e10 : upd H9 vp (.lst (cs.map V.int)) vp = some (.lst (cs.map V.int)) := upd_same
    generalize upd H9 vp (.lst (cs.map V.int)) = H10 at s10 e10 ⊢
    have htl : ts.length ≤ 3 := by rw [hpm.length_eq]; exact tl
    refine ⟨_, .inl (SqL.of ((s9.trans s10) _ _ e8)), a, ns, 10 + (0 + (i : Int)), rfl, (s69.trans s10).seq hS', by omega, ?_⟩
    refine ⟨vp, cs, sz, ts.length, _, by rw [List.length_map], SqL.of e10, sz1, by omega, htl, fun pr H11 as rr s11 hpr hRm hfr hrl' hrr => ?_⟩
    have s611 := (s69.trans s10).trans s11
    walk_at "nx"
    have hni : i < nms.length := by omega
    refine ⟨⟨_, SqL.of (s611 _ _ hl)⟩, _, _, .inl (SqL.of ((sm.trans s611) _ _ en)), by rw [Int.zero_add]; exact atI_nat (v := .str nms[i]) (by rw [List.getElem?_map, List.getElem?_eq_getElem hni]; rfl), by decide, fun p1 hp1 => ⟨by decide, fun p2 hp2 => ?_⟩⟩
    have s12 := same_new hp1 (.tup [V.int sd, V.ref wp', V.ref pr])
    have e12 : upd H11 p1 (.tup [V.int sd, V.ref wp', V.ref pr]) p1 = some (.tup [V.int sd, V.ref wp', V.ref pr]) := upd_same
    generalize upd H11 p1 (.tup [V.int sd, V.ref wp', V.ref pr]) = H12 at s12 e12 hp2 ⊢
    have s13 := same_new hp2 (.tup [V.str nms[i], V.ref p1])
    have e13 : upd H12 p2 (.tup [V.str nms[i], V.ref p1]) p2 = some (.tup [V.str nms[i], V.ref p1]) := upd_same
    generalize upd H12 p2 (.tup [V.str nms[i], V.ref p1]) = H13 at s13 e13 ⊢
    have s613 := (s611.trans s12).trans s13
    have hl13 := s613 _ _ hl
    refine ⟨_, hl13, by rw [List.length_map]; exact small' (by omega), ?_⟩
    have e8' := ((((s9.trans s10).trans s11).trans s12).trans s13) _ _ e8
    have nW : ∀ {b : Addr}, H10 b = none → b ≠ rp := fun e z => by rw [z, (s69.trans s10) _ _ hl] at e; cases e
    have hnew : RuleAv H13 p1 ⟨sd, ts, rr⟩ rp := ⟨wp', pr, as, s13 _ _ e12, e8', (hRm.mono s12).mono s13, (fun z => (by rw [z, ((s6.trans s7)) _ _ hl] at hwp'; cases hwp')), nW hpr, fun z => nW (hfr _ z) rfl⟩
    have hokn : RlOk ⟨sd, ts, rr⟩ := ⟨hsd', by show ts.length ≤ 16; omega, by show 1 ≤ rr.length; omega, by show rr.length ≤ 60; omega, fun x hx => ⟨(hrr x hx).1, fun k hk => by show k < rr.length; rw [hrl']; exact (hrr x hx).2 k hk⟩, fun x hx => hx10 x (tm x (hpm.mem_iff.mp hx))⟩
    have ntup : ∀ {b zs}, H13 b = some (.tup zs) → b ≠ rp := fun e z => by rw [z, hl13] at e; cases e
    refine ⟨qs ++ [p2], ps ++ [p1], rs ++ [⟨sd, ts, rr⟩], _, _, _, _, _, _, rfl, (sm.trans s613).upd hrp _, by rw [upd_same]; simp, by simp [hql], by simp [hpl], by simp [hrl], fun k q' nm p' g1 g2 g3 => ?_, fun k p' r' g1 g2 => ?_, fun k r' g1 => ?_⟩
    · by_cases hk : k < qs.length
      · rw [List.getElem?_append_left hk] at g1
        rw [List.getElem?_append_left (by omega)] at g3
        have z := s613 _ _ (hq k q' nm p' g1 g2 g3)
        rw [upd_ne (ntup z)]; exact z
      · have hk' : k = qs.length := by have := (List.getElem?_eq_some_iff.mp g1).1; simp at this; omega
        subst hk'
        rw [List.getElem?_append_right (Nat.le_refl _)] at g1
        rw [show qs.length = ps.length by omega, List.getElem?_append_right (Nat.le_refl _)] at g3
        rw [hql, List.getElem?_eq_getElem hni] at g2
        simp at g1 g3
        cases g2
        subst g1 g3
        rw [upd_ne (ntup e13)]; exact e13
    · by_cases hk : k < ps.length
      · rw [List.getElem?_append_left hk] at g1
        rw [List.getElem?_append_left (by omega)] at g2
        exact ((hR k p' r' g1 g2).mono s613).put hl13
      · have hk' : k = ps.length := by have := (List.getElem?_eq_some_iff.mp g1).1; simp at this; omega
        subst hk'
        rw [List.getElem?_append_right (Nat.le_refl _)] at g1
        rw [show ps.length = rs.length by omega, List.getElem?_append_right (Nat.le_refl _)] at g2
        simp at g1 g2
        subst g1 g2
        exact hnew.put hl13
    · by_cases hk : k < rs.length
      · rw [List.getElem?_append_left hk] at g1
        exact hok k r' g1
      · have hk' : k = rs.length := by have := (List.getElem?_eq_some_iff.mp g1).1; simp at this; omega
        subst hk'
        rw [List.getElem?_append_right (Nat.le_refl _)] at g1
        simp at g1
        subst g1
        refine ⟨hokn, hpm.nodup_iff.mpr tn, rfl, htl, fun x hx => tm x (hpm.mem_iff.mp hx), ?_⟩
        show rr.length ≤ _
        rw [hrl', hrl, hcg]; exact szc
  rintro σ H' ⟨qs, ps, rs, o6, o7, o8, o9, o10, o11, rfl, sm, hl, hql, hpl, hrl, hq, hR, hok⟩
  walk_at "nx"
  rw [Int.toNat_natCast] at hql hpl hrl
  refine q rp H' (nms.take n) rs sd ((s3.trans s4).trans sm) ⟨qs, ps, hl, by omega, by omega, by rw [List.length_take]; omega, fun i q' nm p' g1 g2 g3 => hq i q' nm p' g1 ?_ g3, fun i p' r' g1 g2 => (hR i p' r' g1 g2).to⟩ ⟨by omega, by omega, fun r hr => ?_, ?_, ?_, fun ts hts => ?_⟩
  · rw [List.getElem?_take] at g2
    split at g2
    · exact g2
    · cases g2
  · obtain ⟨k, e⟩ := List.getElem?_of_mem hr
    exact ⟨(hok k r e).1, (hok k r e).2.1, (hok k r e).2.2.1⟩
  · refine Nat.le_trans (prod_cap rs capR (by show _ ≤ 8; omega) (by decide) fun k r e => (hok k r e).2.2.2.2.2) (by decide)
  · have := flat_len rs fun r hr => by
      obtain ⟨k, e⟩ := List.getElem?_of_mem hr
      exact (hok k r e).2.2.2.1
    omega
  · have := nodup_sub hts.1 (m := xs) fun x hx => by
      obtain ⟨r, hr, hxr⟩ := List.mem_flatMap.mp ((hts.2.2 x).mp hx)
      obtain ⟨k, e⟩ := List.getElem?_of_mem hr
      exact (hok k r e).2.2.2.2.1 x hxr
    omega
end
section
variable {P : Program} {w : World} {K : PySem.W.Frag} {mg : Str → Option Value} {base : Heap}
/-- rooms of all rules as a list of ways -/
def upO (t : List Nat) : List (Option Nat) := t.map some
theorem upO_way (t : List Nat) : (upO t).map wayV = t.map fun k : Nat => V.int (k : Int) := by unfold upO; rw [List.map_map]; rfl
theorem upO_rep (n : Nat) : upO (List.replicate n 0) = List.replicate n (some 0) := by unfold upO; rw [List.map_replicate]
theorem zeros_list {l : Addr} {xs : List V} {σ : L2.St} {H : Hp} {L : Addr} {Q : VK} {n : Nat} {g : TG} (hg : g = gName n) (hl : H l = some (.lst xs)) (h8 : xs.length ≤ 8) (hL : H L = none) (q : ∀ H', Same H H' → H' L = some (.lst ((List.replicate xs.length (some 0)).map wayV)) → Q (.ref L) H') :
    compW (Itl K l) g tYes (tC (V.int 0)) 1 σ L Q (upd H L (.lst [])) := by
  subst hg
  refine compW_list (xs := xs) (fun i ys H' => Same H H' ∧ H' L = some (.lst ys) ∧ ys = (List.replicate i (some 0)).map wayV) ⟨same_new hL _, upd_same, rfl⟩ (fun i ys H' _ h => SqL.of (h.1 _ _ hl)) ?_ ?_
  · rintro i ys H' v hv hi ⟨sm, hl, rfl⟩
    show compK _ _ _ _ _ _ _ _
    rw [compK_at]
    exact cstep hi (by simp) (smallL (by omega)) hl ⟨sm.upd hL _, upd_same, by rw [List.replicate_succ', List.map_append]; rfl⟩
  · rintro ys H' ⟨sm, hl, rfl⟩
    exact q H' sm hl
theorem RoomsAs.has {H : Hp} {p : Addr} {rs : List (List (Option Nat))} {as : List Addr} (h : RoomsAs H p rs as) : ∀ a ∈ p :: as, ∃ o, H a = some o := fun a ha => by
  rcases List.mem_cons.mp ha with rfl | ha
  · exact ⟨_, h.1⟩
  obtain ⟨i, hi, rfl⟩ := List.mem_iff_getElem.mp ha
  exact ⟨_, h.2.2 i as[i] _ (List.getElem?_eq_getElem hi) (List.getElem?_eq_getElem (by rw [← h.2.1]; exact hi))⟩
theorem has_all {H : Hp} {op rp bp : Addr} {o r b : List (List (Option Nat))} {ts as bs : List Addr} (hO : RoomsAs H op o ts) (hA : RoomsAs H rp r as) (hB : RoomsAs H bp b bs) : ∀ a ∈ op :: rp :: bp :: (ts ++ as ++ bs), ∃ o, H a = some o := fun a ha => by
  simp only [List.mem_cons, List.mem_append] at ha
  rcases ha with z | z | z | (z | z) | z
  · exact hO.has a (by rw [z]; exact List.mem_cons_self)
  · exact hA.has a (by rw [z]; exact List.mem_cons_self)
  · exact hB.has a (by rw [z]; exact List.mem_cons_self)
  · exact hO.has a (List.mem_cons_of_mem _ z)
  · exact hA.has a (List.mem_cons_of_mem _ z)
  · exact hB.has a (List.mem_cons_of_mem _ z)
/-- the last two steps of a word that breaks nothing -/
theorem due_tail {D : Ends} {H3 : Hp} {l wp mp op rp bp rl bl L' : Addr} {i7 v9 : V} {t : List (Option Nat)} {kv : List (OKey × V)} {n : Int} {X Y : List V} (hl : H3 L' = some (.lst (t.map wayV))) (hn : none ∉ t) (hM : DO P w H3 mp kv) (hv : valV kv (keyL (bareO t)) = some (.int n)) (hrl : H3 rl = some (.lst X)) (hbl : H3 bl = some (.lst Y)) (hX : X.length ≤ 1000) (hY : Y.length ≤ 1000) (hne : rl ≠ bl)
    (q : ∀ tp, H3 tp = none → D.nx [some (.ref l), some (.ref wp), some (.ref mp), some (.ref op), some (.ref rp), some (.ref bp), some i7, some (.ref rl), some (.ref bl), some v9, some (.ref L')] (upd (upd (upd H3 tp (.tup (t.map wayV))) rl (.lst (X ++ [.int n]))) bl (.lst (Y ++ [.non])))) :
    Rest (tSeq (tDrop (tBM K "list" rAppend (tVar 7) (tCons (tOp (rIxO P w) (tVar 2) (tCB (rTupOf K) (tCons (tVar 10) tNil))) tNil))) (tDrop (tBM K "list" rAppend (tVar 8) (tCons (tC V.non) tNil)))) D [some (.ref l), some (.ref wp), some (.ref mp), some (.ref op), some (.ref rp), some (.ref bp), some i7, some (.ref rl), some (.ref bl), some v9, some (.ref L')] H3 := by
  walk_at "nx"
  refine ⟨⟨_, SqL.of hrl⟩, _, .inl ⟨SqL.of hl, fun tp htp => ?_⟩⟩
  have s1 := same_new htp (.tup (t.map wayV))
  have e1 : upd H3 tp (.tup (t.map wayV)) tp = some (.tup (t.map wayV)) := upd_same
  have q' := q tp htp
  generalize upd H3 tp (.tup (t.map wayV)) = H4 at s1 e1 q' ⊢
  refine ⟨mp, tp, keyL (bareO t), kv, _, rfl, rfl, hM.mono s1, ?_, hv, ?_⟩
  · show H4 tp = some (.tup _)
    rw [keyL_opt, ← bare_way hn]; exact e1
  refine ⟨_, s1 _ _ hrl, small' (by omega), ?_⟩
  walk_at "nx"
  have e2 : upd H4 rl (.lst (X ++ [.int n])) bl = some (.lst Y) := by rw [upd_ne (Ne.symm hne)]; exact s1 _ _ hbl
  exact ⟨⟨_, SqL.of e2⟩, _, e2, small' (by omega), q'⟩
/-- all that is due: rooms, blames -/
def spDue (P : Program) (w : World) : Sp := fun vs H Q _ => ∃ (l wp : Addr) (nms : List Str) (rs : List Rl) (us : List Str), vs = [.ref l, .ref wp] ∧ NmdAt H l nms rs ∧ 1 ≤ rs.length ∧ rs.length ≤ 8 ∧ (∀ r ∈ rs, RlOk r) ∧ prodR rs ≤ 60 ∧ H wp = some (.lst (us.map V.str)) ∧ us.length ≤ 60 ∧
  ∀ (p pr pb : Addr) (H' : Hp) (M : Nat) (as bs : List Addr), Same H H' → H p = none → H' p = some (.tup [.ref pr, .ref pb]) → M ≤ 60 → M = (ordO rs us M).length → RoomsAs H' pr ((List.range M).map (rowO rs us)) as → RoomsAs H' pb ((List.range M).map (blmO rs us)) bs → Q (.ref p) H'
theorem ok_due (D : DefAt K mg "_law_due" s_law_due) (z_range : mg "range" = none) (z_len : mg "len" = none) (z_tuple : mg "tuple" = none) (c_law_to : Cal P w K mg base 1 "_law_to" ["_law_rule", "_law_room", "_law_word"] spTo) : Cal P w K mg base 2 "_law_due" ["_law_rules_here", "_law_words_here"] (spDue P w) := by
  refine D.cal sc_law_due (fun _ _ _ _ _ _ us hl => match us, hl with | [_, _], _ => rfl) (fun vs H Q E h => by obtain ⟨_, _, _, _, _, rfl, _⟩ := h; rfl) (fun f cdv A outer s H vs Q E hr h => ?_)
  obtain ⟨l, wp, nms, rs, us, rfl, hNm, n1, n8, ok, hpr, hw, hu, q⟩ := h
  refine ⟨_, (pss_cons (ps_let 2 sc_law_due.nd ((pe_disp1OW P w hr) (pe_bty (call_tupA K) z_tuple bt_tuple (pa_cons (pe_comp (CompSc.to (fsc := (defScope s_law_due)) (N := ["_law_rules_here", "_law_words_here", "_law_numbers", "_law_lists", "_law_rooms_here", "_law_blames", "_law_r", "_law_room", "_law_blame", "_law_word", "_law_to_here"]) (N0 := ["_law_rules_here", "_law_words_here", "_law_numbers", "_law_lists", "_law_rooms_here", "_law_blames", "_law_r", "_law_room", "_law_blame", "_law_word", "_law_to_here"]) (T := ["_law_one"]) ⟨by decide +kernel, by decide +kernel, by decide +kernel, by decide +kernel, by decide +kernel, by decide +kernel, by decide +kernel⟩ rfl rfl) rfl (pi_listK K (pv 0 (hv := v_law_due__law_rules_here))) (fun _ _ _ _ => (pg_let 11 (show (["_law_rules_here", "_law_words_here", "_law_numbers", "_law_lists", "_law_rooms_here", "_law_blames", "_law_r", "_law_room", "_law_blame", "_law_word", "_law_to_here", "_law_one"] : List Str).Nodup from by decide +kernel) (hx := (locC (defScope s_law_due) (by decide +kernel))) (hf := fnC (defScope s_law_due) (by decide +kernel)))) (gfr_name (show (["_law_rules_here", "_law_words_here", "_law_numbers", "_law_lists", "_law_rooms_here", "_law_blames", "_law_r", "_law_room", "_law_blame", "_law_word", "_law_to_here"] : List Str).length ≤ 11 from by decide)) (fun _ _ _ _ => pifs_nil) (fun _ _ _ _ => pe_int)) pa_nil) (hg := gl_law_due_tuple)) pe_int) (hx := l_law_due__law_numbers))
      (pss_cons (ps_let 3 sc_law_due.nd (pe_lst (pa_cons (pe_comp (CompSc.to (fsc := (defScope s_law_due)) (N := ["_law_rules_here", "_law_words_here", "_law_numbers", "_law_lists", "_law_rooms_here", "_law_blames", "_law_r", "_law_room", "_law_blame", "_law_word", "_law_to_here"]) (N0 := ["_law_rules_here", "_law_words_here", "_law_numbers", "_law_lists", "_law_rooms_here", "_law_blames", "_law_r", "_law_room", "_law_blame", "_law_word", "_law_to_here"]) (T := ["_law_one"]) ⟨by decide +kernel, by decide +kernel, by decide +kernel, by decide +kernel, by decide +kernel, by decide +kernel, by decide +kernel⟩ rfl rfl) rfl (pi_listK K (pv 0 (hv := v_law_due__law_rules_here))) (fun _ _ _ _ => (pg_let 11 (show (["_law_rules_here", "_law_words_here", "_law_numbers", "_law_lists", "_law_rooms_here", "_law_blames", "_law_r", "_law_room", "_law_blame", "_law_word", "_law_to_here", "_law_one"] : List Str).Nodup from by decide +kernel) (hx := (locC (defScope s_law_due) (by decide +kernel))) (hf := fnC (defScope s_law_due) (by decide +kernel)))) (gfr_name (show (["_law_rules_here", "_law_words_here", "_law_numbers", "_law_lists", "_law_rooms_here", "_law_blames", "_law_r", "_law_room", "_law_blame", "_law_word", "_law_to_here"] : List Str).length ≤ 11 from by decide)) (fun _ _ _ _ => pifs_nil) (fun _ _ _ _ => pe_int)) pa_nil)) (hx := l_law_due__law_lists))
      (pss_cons (ps_let 4 sc_law_due.nd (pe_lst pa_nil) (hx := l_law_due__law_rooms_here))
      (pss_cons (ps_let 5 sc_law_due.nd (pe_lst pa_nil) (hx := l_law_due__law_blames))
      (pss_cons (ps_for PassesOwn.never rfl (pi_range1 gl_law_due_range z_range (pa_cons pe_int pa_nil)) (pg_let 6 sc_law_due.nd (hx := l_law_due__law_r)) (pss_one (ps_if (pt_cmpR op_ltA (pv 6 (hv := v_law_due__law_r)) (pe_blt (call_lenK K) z_len bt_len (pa_cons (pv 3 (hv := v_law_due__law_lists)) pa_nil) (hg := gl_law_due_len)) (nomark _)) (pss_cons (ps_let 7 sc_law_due.nd (pe_lst pa_nil) (hx := l_law_due__law_room))
      (pss_cons (ps_let 8 sc_law_due.nd (pe_lst pa_nil) (hx := l_law_due__law_blame))
      (pss_cons (ps_for PassesOwn.never rfl (pi_listK K (pv 1 (hv := v_law_due__law_words_here))) (pg_let 9 sc_law_due.nd (hx := l_law_due__law_word)) (pss_cons (ps_setcomp (CompSc.to (fsc := (defScope s_law_due)) (N := ["_law_rules_here", "_law_words_here", "_law_numbers", "_law_lists", "_law_rooms_here", "_law_blames", "_law_r", "_law_room", "_law_blame", "_law_word", "_law_to_here"]) (N0 := ["_law_rules_here", "_law_words_here", "_law_numbers", "_law_lists", "_law_rooms_here", "_law_blames", "_law_r", "_law_room", "_law_blame", "_law_word", "_law_to_here"]) (T := ["_law_k"]) ⟨by decide +kernel, by decide +kernel, by decide +kernel, by decide +kernel, by decide +kernel, by decide +kernel, by decide +kernel⟩ rfl rfl) rfl sc_law_due.nd (i := 10) rfl k_law_due__law_to_here (pi_range1 gl_law_due_range z_range (pa_cons (pe_blt (call_lenK K) z_len bt_len (pa_cons (pv 0 (hv := v_law_due__law_rules_here)) pa_nil) (hg := gl_law_due_len)) pa_nil)) (fun _ _ _ _ => (pg_let 11 (show (["_law_rules_here", "_law_words_here", "_law_numbers", "_law_lists", "_law_rooms_here", "_law_blames", "_law_r", "_law_room", "_law_blame", "_law_word", "_law_to_here", "_law_k"] : List Str).Nodup from by decide +kernel) (hx := (locC (defScope s_law_due) (by decide +kernel))) (hf := fnC (defScope s_law_due) (by decide +kernel)))) (gfr_name (show (["_law_rules_here", "_law_words_here", "_law_numbers", "_law_lists", "_law_rooms_here", "_law_blames", "_law_r", "_law_room", "_law_blame", "_law_word", "_law_to_here"] : List Str).length ≤ 11 from by decide)) (fun _ _ _ _ => pifs_nil) (fun _ _ _ _ => (pe_cal c_law_to hr (pa_cons (pe_ix (ix_K K) (pe_ix (ix_K K) (pv 0 (hv := (visC (defScope s_law_due) (by decide +kernel)))) (pv 11 (hv := (visC (defScope s_law_due) (by decide +kernel)))) (fun _ _ => rfl)) pe_int (fun _ _ => rfl)) (pa_cons (pe_ix (ix_K K) (pe_ix (ix_K K) (pv 3 (hv := (visC (defScope s_law_due) (by decide +kernel)))) (pv 6 (hv := (visC (defScope s_law_due) (by decide +kernel)))) (fun _ _ => rfl)) (pv 11 (hv := (visC (defScope s_law_due) (by decide +kernel)))) (fun _ _ => rfl)) (pa_cons (pv 9 (hv := (visC (defScope s_law_due) (by decide +kernel)))) pa_nil))) (hg := (glC (defScope s_law_due) (by decide +kernel))))))
      (pss_one (ps_if (pt_cmpR (op_inK K) pe_non (pv 10 (hv := v_law_due__law_to_here)) (by with_unfolding_all rfl)) (pss_cons (ps_expr (pe_bmK K PySem.F.plainAttrs_list PySem.F.slot_list_append PySem.F.type_list_append mt_appendA (pv 7 (hv := v_law_due__law_room)) (pa_cons pe_non pa_nil)))
      (pss_one (ps_expr (pe_bmK K PySem.F.plainAttrs_list PySem.F.slot_list_append PySem.F.type_list_append mt_appendA (pv 8 (hv := v_law_due__law_blame)) (pa_cons (pe_bmK K PySem.F.plainAttrs_list PySem.F.slot_list_index PySem.F.type_list_index (mt_indexO K) (pv 10 (hv := v_law_due__law_to_here)) (pa_cons pe_non pa_nil)) pa_nil))))) (pss_cons (ps_if (pt_cmpR (op_notInOW P w hr) (pe_bty (call_tupA K) z_tuple bt_tuple (pa_cons (pv 10 (hv := v_law_due__law_to_here)) pa_nil) (hg := gl_law_due_tuple)) (pv 2 (hv := v_law_due__law_numbers)) (by with_unfolding_all rfl)) (pss_cons (ps_asg (pe_blt (call_lenK K) z_len bt_len (pa_cons (pv 3 (hv := v_law_due__law_lists)) pa_nil) (hg := gl_law_due_len)) (pg_sub (pv 2 (hv := v_law_due__law_numbers)) (pe_bty (call_tupA K) z_tuple bt_tuple (pa_cons (pv 10 (hv := v_law_due__law_to_here)) pa_nil) (hg := gl_law_due_tuple)) (set_OW P w hr)))
      (pss_one (ps_expr (pe_bmK K PySem.F.plainAttrs_list PySem.F.slot_list_append PySem.F.type_list_append mt_appendA (pv 3 (hv := v_law_due__law_lists)) (pa_cons (pv 10 (hv := v_law_due__law_to_here)) pa_nil))))) pss_nil)
      (pss_cons (ps_expr (pe_bmK K PySem.F.plainAttrs_list PySem.F.slot_list_append PySem.F.type_list_append mt_appendA (pv 7 (hv := v_law_due__law_room)) (pa_cons (pe_ix (ix_OW P w hr) (pv 2 (hv := v_law_due__law_numbers)) (pe_bty (call_tupA K) z_tuple bt_tuple (pa_cons (pv 10 (hv := v_law_due__law_to_here)) pa_nil) (hg := gl_law_due_tuple)) (fun _ _ => rfl)) pa_nil)))
      (pss_one (ps_expr (pe_bmK K PySem.F.plainAttrs_list PySem.F.slot_list_append PySem.F.type_list_append mt_appendA (pv 8 (hv := v_law_due__law_blame)) (pa_cons pe_non pa_nil))))))))))
      (pss_cons (ps_expr (pe_bmK K PySem.F.plainAttrs_list PySem.F.slot_list_append PySem.F.type_list_append mt_appendA (pv 4 (hv := v_law_due__law_rooms_here)) (pa_cons (pv 7 (hv := v_law_due__law_room)) pa_nil)))
      (pss_one (ps_expr (pe_bmK K PySem.F.plainAttrs_list PySem.F.slot_list_append PySem.F.type_list_append mt_appendA (pv 5 (hv := v_law_due__law_blames)) (pa_cons (pv 8 (hv := v_law_due__law_blame)) pa_nil)))))))) pss_nil)))
      (pss_one (ps_ret (pe_tup (pa_cons (pv 4 (hv := v_law_due__law_rooms_here)) (pa_cons (pv 5 (hv := v_law_due__law_blames)) pa_nil)))))))))), ?_⟩
  obtain ⟨qs, ps, h1, h2, h3, h4, h5, h6⟩ := id hNm
  walk_at "rd1"
  rw [tDisp1O_at]
  refine fun mp hmp u hu0 => ?_
  have s1 := same_new hmp u
  generalize upd H mp u = H1 at s1 hu0 ⊢
  walk_at "rd1"
  refine ⟨⟨_, SqL.of (s1 _ _ h1)⟩, fun L hL => zeros_list rfl (s1 _ _ h1) (by rw [List.length_map]; omega) hL fun H2 s2 hl2 => ?_⟩
  rw [List.length_map, h2] at hl2
  walk_at "rd1"
  refine ⟨_, .inl ⟨SqL.of hl2, fun ft hft => ?_⟩⟩
  have s3 := same_new hft (.tup ((List.replicate rs.length (some 0)).map wayV))
  have e3 : upd H2 ft (.tup ((List.replicate rs.length (some 0)).map wayV)) ft = some (.tup ((List.replicate rs.length (some 0)).map wayV)) := upd_same
  generalize upd H2 ft (.tup ((List.replicate rs.length (some 0)).map wayV)) = H3 at s3 e3 ⊢
  refine ⟨ft, keyL (List.replicate rs.length 0), rfl, ?_, hu0.mono (s2.trans s3), fun u' hu' => ?_⟩
  · show H3 ft = some (.tup _)
    rw [keyL_opt, ← upO_way, upO_rep]; exact e3
  have s04 : Same H (upd H3 mp u') := ((s1.trans s2).trans s3).upd hmp u'
  generalize upd H3 mp u' = H4 at s04 hu' ⊢
  walk_at "nx"
  refine ⟨⟨_, SqL.of (s04 _ _ h1)⟩, fun L0 hL0 => zeros_list rfl (s04 _ _ h1) (by rw [List.length_map]; omega) hL0 fun H5 s5 hl5 => ?_⟩
  rw [List.length_map, h2, ← upO_rep] at hl5
  walk_at "rd1"
  refine ⟨by decide, fun op hop => ?_⟩
  have s6 := same_new hop (.lst [V.ref L0])
  have e6 : upd H5 op (.lst [V.ref L0]) op = some (.lst ([L0].map V.ref)) := upd_same
  generalize upd H5 op (.lst [V.ref L0]) = H6 at s6 e6 ⊢
  walk_at "nx"
  refine ⟨by decide, fun rp hrp => ?_⟩
  have s7 := same_new hrp (.lst [])
  have e7 : upd H6 rp (.lst []) rp = some (.lst (([] : List Addr).map V.ref)) := upd_same
  generalize upd H6 rp (.lst []) = H7 at s7 e7 ⊢
  walk_at "nx"
  refine ⟨by decide, fun bp hbp => ?_⟩
  have s8 := same_new hbp (.lst [])
  have e8 : upd H7 bp (.lst []) bp = some (.lst (([] : List Addr).map V.ref)) := upd_same
  generalize upd H7 bp (.lst []) = H8 at s8 e8 ⊢
  have s08 := ((s04.trans s5).trans s6).trans (s7.trans s8)
  walk_at "nx"
  refine ⟨by decide, by decide, ?_⟩
  have hO8 : RoomsAs H8 op ((ordO rs us 0).map upO) [L0] := ⟨(s7.trans s8) _ _ e6, rfl, fun i a x z1 z2 => by
    match i, z1, z2 with
    | 0, z1, z2 => cases z1; cases z2; exact ((s6.trans s7).trans s8) _ _ hl5
    | i + 1, z1, z2 => simp at z1⟩
  have nd8 : (op :: rp :: bp :: ([L0] ++ [] ++ [])).Nodup := by
    have a1 : op ≠ rp := ne_of_none e6 hrp
    have a2 : op ≠ bp := ne_of_none (s7 _ _ e6) hbp
    have a3 : rp ≠ bp := ne_of_none e7 hbp
    have a4 : L0 ≠ op := ne_of_none hl5 hop
    have a5 : L0 ≠ rp := ne_of_none (s6 _ _ hl5) hrp
    have a6 : L0 ≠ bp := ne_of_none ((s6.trans s7) _ _ hl5) hbp
    simp [a1, a2, a3, Ne.symm a4, Ne.symm a5, Ne.symm a6]
  have hop0 : H op = none := (s04.trans s5).free hop
  have hmp0 : H mp = none := hmp
  have hrp0 : H rp = none := ((s04.trans s5).trans s6).free hrp
  have hbp0 : H bp = none := (((s04.trans s5).trans s6).trans s7).free hbp
  refine forW_range (fun i σ H' => ∃ (r : Nat) (ts as bs : List Addr) (kvs : List (OKey × V)) (o6 o7 o8 o9 o10 : Option V), σ = [some (.ref l), some (.ref wp), some (.ref mp), some (.ref op), some (.ref rp), some (.ref bp), o6, o7, o8, o9, o10] ∧ Same H H' ∧ RoomsAs H' op ((ordO rs us i).map upO) ts ∧ DO P w H' mp kvs ∧ NumK kvs (ordO rs us i) ∧ RoomsAs H' rp ((List.range r).map (rowO rs us)) as ∧ RoomsAs H' bp ((List.range r).map (blmO rs us)) bs ∧ (op :: rp :: bp :: (ts ++ as ++ bs)).Nodup ∧ (∀ a ∈ ts ++ as ++ bs, H a = none) ∧ ((r = i ∧ i ≤ (ordO rs us i).length) ∨ (r = (ordO rs us i).length ∧ r ≤ i ∧ ordO rs us r = ordO rs us i)))
    ⟨0, [L0], [], [], _, none, none, none, none, none, rfl, s08, hO8, hu'.mono ((s5.trans s6).trans (s7.trans s8)), NumK.zero _, ⟨s8 _ _ e7, rfl, fun i a x z => by simp at z⟩, ⟨e8, rfl, fun i a x z => by simp at z⟩, nd8, fun a ha => by
      have : a = L0 := by simpa using ha
      rw [this]; exact s04.free hL0, .inl ⟨rfl, Nat.zero_le _⟩⟩ ?_ ?_
  · rintro i σ H' hi ⟨r, ts, as, bs, kvs, o6, o7, o8, o9, o10, rfl, sm, hO, hM, hN, hA, hB, nd, hfr, hri⟩
    have hi60 : i < 60 := hi
    obtain ⟨fnd, fin, fl1⟩ := ordO_facts ok us i
    have hlen := in_len fnd fin
    have htl : ts.length = (ordO rs us i).length := by have := hO.2.1; simpa using this
    walk_at "rd1"
    refine ⟨_, .inl (SqL.of hO.1), ?_⟩
    rw [List.length_map, htl]
    by_cases hend : i < (ordO rs us i).length
    rotate_left
    · refine ite2 (fun c => absurd (by omega) hend) (fun _ => ?_)
      have eo : ordO rs us (i + 1) = ordO rs us i := by
        conv => lhs; unfold ordO
        rw [if_neg hend]
      rw [eo]
      refine ⟨r, ts, as, bs, kvs, _, _, _, _, _, rfl, sm, hO, hM, hN, hA, hB, nd, hfr, .inr ?_⟩
      rcases hri with ⟨z1, z2⟩ | ⟨z1, z2, z3⟩
      · exact ⟨by omega, by omega, by rw [z1]⟩
      · exact ⟨z1, by omega, z3⟩
    refine ite2 (fun _ => ?_) (fun c => absurd (by omega) c)
    have hri' : r = i := by
      rcases hri with ⟨z1, z2⟩ | ⟨z1, z2, z3⟩
      · exact z1
      · omega
    subst hri'
    walk_at "rd1"
    refine ⟨by decide, fun rl hrl => ?_⟩
    have s9 := same_new hrl (.lst [])
    have e9 : upd H' rl (.lst []) rl = some (.lst []) := upd_same
    generalize upd H' rl (.lst []) = H9 at s9 e9 ⊢
    walk_at "nx"
    refine ⟨by decide, fun bl hbl => ?_⟩
    have s10 := same_new hbl (.lst [])
    have e10 : upd H9 bl (.lst []) bl = some (.lst []) := upd_same
    generalize upd H9 bl (.lst []) = H10 at s10 e10 ⊢
    have sm10 := sm.trans (s9.trans s10)
    walk_at "nx"
    refine ⟨⟨_, SqL.of (sm10 _ _ hw)⟩, ?_⟩
    have hin := hereO_in ok hend
    have hrl1 : (rowO rs us r).length = us.length := by unfold rowO behO; simp
    have hrl2 : (blmO rs us r).length = us.length := by unfold blmO behO; simp
    have s910 := s9.trans s10
    have all0 := has_all hO hA hB
    have nd10 : (op :: rp :: bp :: rl :: bl :: (ts ++ as ++ bs)).Nodup := by
      have pm : (op :: rp :: bp :: rl :: bl :: (ts ++ as ++ bs)).Perm (bl :: rl :: op :: rp :: bp :: (ts ++ as ++ bs)) := by
        rw [List.perm_iff_count]
        intro a
        simp only [List.count_cons, List.count_append]
        omega
      refine pm.nodup_iff.mpr (List.nodup_cons.mpr ⟨fun z => ?_, List.nodup_cons.mpr ⟨fun z => ?_, nd⟩⟩)
      · rcases List.mem_cons.mp z with z | z
        · rw [z, e9] at hbl; cases hbl
        · obtain ⟨o, e⟩ := all0 _ z
          rw [s9 _ _ e] at hbl; cases hbl
      · obtain ⟨o, e⟩ := all0 _ z
        rw [e] at hrl; cases hrl
    refine forW_list (xs := us.map V.str) (fun k σ H'' => ∃ (ts' : List Addr) (kv2 : List (OKey × V)) (o9 o10 : Option V), σ = [some (.ref l), some (.ref wp), some (.ref mp), some (.ref op), some (.ref rp), some (.ref bp), some (.int (0 + (r : Int))), some (.ref rl), some (.ref bl), o9, o10] ∧ Same H H'' ∧ RoomsAs H'' op ((((behO rs us (hereO rs us r)).take k).foldl stepO (ordO rs us r)).map upO) ts' ∧ DO P w H'' mp kv2 ∧ NumK kv2 (((behO rs us (hereO rs us r)).take k).foldl stepO (ordO rs us r)) ∧ RoomsAs H'' rp ((List.range r).map (rowO rs us)) as ∧ RoomsAs H'' bp ((List.range r).map (blmO rs us)) bs ∧ H'' rl = some (.lst (((rowO rs us r).take k).map wayV)) ∧ H'' bl = some (.lst (((blmO rs us r).take k).map wayV)) ∧ (op :: rp :: bp :: rl :: bl :: (ts' ++ as ++ bs)).Nodup ∧ ∀ a ∈ ts' ++ as ++ bs, H a = none)
      ⟨ts, kvs, o9, o10, rfl, sm10, hO.mono s910, hM.mono s910, hN, hA.mono s910, hB.mono s910, s10 _ _ e9, e10, nd10, hfr⟩ (fun k σ H'' _ h => by obtain ⟨_, _, _, _, _, z, _⟩ := h; exact SqL.of (z _ _ hw)) ?_ ?_
    · rintro k v σ H11 hv ⟨ts', kv2, o9, o10, rfl, sx, hOx, hMx, hNx, hAx, hBx, erl, ebl, ndx, hfx⟩
      have hku : k < us.length := by have := (List.getElem?_eq_some_iff.mp hv).1; simpa using this
      rw [List.getElem?_map, List.getElem?_eq_getElem hku] at hv
      cases hv
      have hst : ((behO rs us (hereO rs us r)).take (k + 1)).foldl stepO (ordO rs us r) = stepO (((behO rs us (hereO rs us r)).take k).foldl stepO (ordO rs us r)) (toAll rs (hereO rs us r) us[k]) := by
        rw [List.take_add_one, List.foldl_append]
        unfold behO
        rw [List.getElem?_map, List.getElem?_eq_getElem hku]
        rfl
      have pnd : (((behO rs us (hereO rs us r)).take k).foldl stepO (ordO rs us r)).Nodup := foldO_nd _ fnd
      have pin : ∀ t ∈ ((behO rs us (hereO rs us r)).take k).foldl stepO (ordO rs us r), InO rs t := by
        unfold behO
        rw [← List.map_take]
        exact foldO_in ok hin (us.take k) fin
      have plen := in_len pnd pin
      have phere : (((behO rs us (hereO rs us r)).take k).foldl stepO (ordO rs us r))[r]? = some (hereO rs us r) := by
        obtain ⟨x, e⟩ := foldO_pre ((behO rs us (hereO rs us r)).take k) (ordO rs us r)
        rw [e, List.getElem?_append_left hend]
        unfold hereO
        rw [List.getD_eq_getElem?_getD, List.getElem?_eq_getElem hend]; rfl
      rw [hst]
      generalize ((behO rs us (hereO rs us r)).take k).foldl stepO (ordO rs us r) = o' at hOx hNx pnd pin plen phere hst ⊢
      walk_at "rd1"
      have ql8 : (qs.map V.ref).length = rs.length := by rw [List.length_map]; exact h2
      refine ⟨_, .inl (SqL.of (sx _ _ h1)), by omega, by omega, fun L' hL' => ?_⟩
      have htl' : ts'.length = o'.length := by have := hOx.2.1; simpa using this
      have hro : r < o'.length := (List.getElem?_eq_some_iff.mp phere).1
      have etr := hOx.2.2 r (ts'[r]'(by omega)) (upO (hereO rs us r)) (List.getElem?_eq_getElem _) (by rw [List.getElem?_map, phere]; rfl)
      have hta : (toAll rs (hereO rs us r) us[k]).length = rs.length := by unfold toAll; rw [List.length_zipWith, hin.1, Nat.min_self]
      refine compW_range (fun j ys H2 => Same H11 H2 ∧ H2 L' = some (.lst ys) ∧ ys = ((toAll rs (hereO rs us r) us[k]).take j).map wayV) ⟨same_new hL' _, upd_same, rfl⟩ ?_ ?_
      · rintro j ys H2 hj ⟨s', hl', rfl⟩
        have hjr : j < rs.length := by omega
        have hjq : j < qs.length := by omega
        have hrt : r < ts'.length := by omega
        have hjh : j < (hereO rs us r).length := by rw [hin.1]; exact hjr
        have sj := sx.trans s'
        have e1 := sj _ _ (h5 j (qs[j]'(by omega)) (nms[j]'(by omega)) (ps[j]'(by omega)) (List.getElem?_eq_getElem _) (List.getElem?_eq_getElem _) (List.getElem?_eq_getElem _))
        have hz : (toAll rs (hereO rs us r) us[k])[j]? = some (toR rs[j] (hereO rs us r)[j] us[k]) := by
          unfold toAll
          rw [List.getElem?_zipWith, List.getElem?_eq_getElem hjr, List.getElem?_eq_getElem hjh]
        walk_at "rd1"
        refine ⟨_, _, .inl (SqL.of (sj _ _ h1)), by rw [Int.zero_add]; exact atI_nat (v := .ref (qs[j]'hjq)) (by rw [List.getElem?_map, List.getElem?_eq_getElem (show j < qs.length by omega)]; rfl), ?_⟩
        walk_at "rd1"
        refine ⟨_, _, .inr (SqT.of e1), atI_nat (j := 1) rfl, ?_⟩
        refine ⟨_, _, .inl (SqL.of (s' _ _ hOx.1)), by rw [Int.zero_add]; exact atI_nat (v := .ref (ts'[r]'hrt)) (by rw [List.getElem?_map, List.getElem?_eq_getElem (show r < ts'.length by omega)]; rfl), ?_⟩
        refine ⟨_, _, .inl (SqL.of (s' _ _ etr)), by rw [Int.zero_add]; exact atI_nat (v := .int ((hereO rs us r)[j] : Nat)) (by rw [List.getElem?_map]; unfold upO; rw [List.getElem?_map, List.getElem?_eq_getElem hjh]; rfl), ?_⟩
        refine ⟨_, rs[j], (hereO rs us r)[j], us[k], rfl, (h6 j _ _ (List.getElem?_eq_getElem _) (List.getElem?_eq_getElem hjr)).mono sj, ok _ (List.getElem_mem _), hin.2 j _ _ (List.getElem?_eq_getElem hjr) (List.getElem?_eq_getElem hjh), ?_⟩
        exact cstep (by omega) (by rw [List.length_map, List.length_take]; omega) (smallL (by omega)) hl' ⟨s'.upd hL' _, upd_same, by rw [List.take_add_one, hz, List.map_append]; rfl⟩
      rintro ys H2 ⟨s2', hl2', rfl⟩
      rw [Int.toNat_natCast, ql8, List.take_of_length_le (by omega)] at hl2'
      have hx := ndx
      simp only [List.nodup_cons, List.mem_cons, List.mem_append, not_or] at hx
      obtain ⟨⟨o1, o2, o3, o4, ⟨o5, o6⟩, o7⟩, ⟨r1, r2, r3, ⟨r4, r5⟩, r6⟩, ⟨b1, b2, ⟨b3, b4⟩, b5⟩, ⟨l1, ⟨l2, l3⟩, l4⟩, ⟨⟨m1, m2⟩, m3⟩, nrest⟩ := hx
      have hrl0 : H rl = none := sm.free hrl
      have hbl0 : H bl = none := (sm.trans s9).free hbl
      have hOr : ordO rs us (r + 1) = ((behO rs us (hereO rs us r)).drop (k + 1)).foldl stepO (stepO o' (toAll rs (hereO rs us r) us[k])) := by
        conv => lhs; unfold ordO
        rw [if_pos hend, ← hst, ← List.foldl_append, List.take_append_drop]; rfl
      have hrow : (rowO rs us r)[k]? = some (numO (stepO o' (toAll rs (hereO rs us r) us[k])) (toAll rs (hereO rs us r) us[k])) := by
        obtain ⟨x, e⟩ := foldO_pre ((behO rs us (hereO rs us r)).drop (k + 1)) (stepO o' (toAll rs (hereO rs us r) us[k]))
        unfold rowO
        rw [List.getElem?_map, hOr, e]
        unfold behO
        rw [List.getElem?_map, List.getElem?_eq_getElem hku]
        show some (numO _ _) = _
        rw [numO_pre fun c => stepO_mem c]
      have hblm : (blmO rs us r)[k]? = some (blaO (toAll rs (hereO rs us r) us[k])) := by
        unfold blmO behO; rw [List.getElem?_map, List.getElem?_map, List.getElem?_eq_getElem hku]; rfl
      have sx2 := sx.trans s2'
      have erl2 := s2' _ _ erl
      have ebl2 := s2' _ _ ebl
      have hO2 := hOx.mono s2'
      have hM2 := hMx.mono s2'
      have hA2 := hAx.mono s2'
      have hB2 := hBx.mono s2'
      have nLr : rl ≠ L' := ne_of_none erl hL'
      have nLb : bl ≠ L' := ne_of_none ebl hL'
      have hL0' : H L' = none := sx.free hL'
      have k60 : ((rowO rs us r).take k).length < 100 := by rw [List.length_take]; omega
      have k60b : ((blmO rs us r).take k).length < 100 := by rw [List.length_take]; omega
      have fin : ∀ (G : Hp) (ts3 : List Addr) (kv3 : List (OKey × V)) (o3' : List (List Nat)) (x y : Option Nat) (v9 v10 : V), Same H G → RoomsAs G op (o3'.map upO) ts3 → DO P w G mp kv3 → NumK kv3 o3' → RoomsAs G rp ((List.range r).map (rowO rs us)) as → RoomsAs G bp ((List.range r).map (blmO rs us)) bs → G rl = some (.lst (((rowO rs us r).take k).map wayV)) → G bl = some (.lst (((blmO rs us r).take k).map wayV)) → (op :: rp :: bp :: rl :: bl :: (ts3 ++ as ++ bs)).Nodup → (∀ a ∈ ts3 ++ as ++ bs, H a = none) → (rowO rs us r)[k]? = some x → (blmO rs us r)[k]? = some y →
          ∃ (ts' : List Addr) (kv2 : List (OKey × V)) (o9 o10 : Option V), [some (.ref l), some (.ref wp), some (.ref mp), some (.ref op), some (.ref rp), some (.ref bp), some (.int (0 + (r : Int))), some (.ref rl), some (.ref bl), some v9, some v10] = [some (.ref l), some (.ref wp), some (.ref mp), some (.ref op), some (.ref rp), some (.ref bp), some (.int (0 + (r : Int))), some (.ref rl), some (.ref bl), o9, o10] ∧
            Same H (upd (upd G rl (.lst (((rowO rs us r).take k).map wayV ++ [wayV x]))) bl (.lst (((blmO rs us r).take k).map wayV ++ [wayV y]))) ∧ RoomsAs (upd (upd G rl (.lst (((rowO rs us r).take k).map wayV ++ [wayV x]))) bl (.lst (((blmO rs us r).take k).map wayV ++ [wayV y]))) op (o3'.map upO) ts' ∧ DO P w (upd (upd G rl (.lst (((rowO rs us r).take k).map wayV ++ [wayV x]))) bl (.lst (((blmO rs us r).take k).map wayV ++ [wayV y]))) mp kv2 ∧ NumK kv2 o3' ∧ RoomsAs (upd (upd G rl (.lst (((rowO rs us r).take k).map wayV ++ [wayV x]))) bl (.lst (((blmO rs us r).take k).map wayV ++ [wayV y]))) rp ((List.range r).map (rowO rs us)) as ∧ RoomsAs (upd (upd G rl (.lst (((rowO rs us r).take k).map wayV ++ [wayV x]))) bl (.lst (((blmO rs us r).take k).map wayV ++ [wayV y]))) bp ((List.range r).map (blmO rs us)) bs ∧ (upd (upd G rl (.lst (((rowO rs us r).take k).map wayV ++ [wayV x]))) bl (.lst (((blmO rs us r).take k).map wayV ++ [wayV y]))) rl = some (.lst (((rowO rs us r).take (k + 1)).map wayV)) ∧ (upd (upd G rl (.lst (((rowO rs us r).take k).map wayV ++ [wayV x]))) bl (.lst (((blmO rs us r).take k).map wayV ++ [wayV y]))) bl = some (.lst (((blmO rs us r).take (k + 1)).map wayV)) ∧ (op :: rp :: bp :: rl :: bl :: (ts' ++ as ++ bs)).Nodup ∧ ∀ a ∈ ts' ++ as ++ bs, H a = none := by
        intro G ts3 kv3 o3' x y v9 v10 g1 g2 g3 g4 g5 g6 g7 g8 g9 g10 g11 g12
        have hx := g9
        simp only [List.nodup_cons, List.mem_cons, List.mem_append, not_or] at hx
        obtain ⟨⟨o1, o2, o3, o4, ⟨o5, o6⟩, o7⟩, ⟨r1, r2, r3, ⟨r4, r5⟩, r6⟩, ⟨b1, b2, ⟨b3, b4⟩, b5⟩, ⟨l1, ⟨l2, l3⟩, l4⟩, ⟨⟨m1, m2⟩, m3⟩, nrest⟩ := hx
        have e3 : upd G rl (.lst (((rowO rs us r).take k).map wayV ++ [wayV x])) bl = some (.lst (((blmO rs us r).take k).map wayV)) := by rw [upd_ne (Ne.symm l1)]; exact g8
        refine ⟨ts3, kv3, _, _, rfl, (g1.upd hrl0 _).upd hbl0 _, (g2.other o3 l2).other o4 m1, do_put75 (do_put75 g3 g7 (do_ne75 g3 g7)) e3 (do_ne75 g3 g8), g4, (g5.other r2 l3).other r3 m2, (g6.other b1 l4).other b2 m3, ?_, ?_, g9, g10⟩
        · rw [upd_ne l1, upd_same, List.take_add_one, g11, List.map_append]; rfl
        · rw [upd_same, List.take_add_one, g12, List.map_append]; rfl
      generalize toAll rs (hereO rs us r) us[k] = t at hl2' hrow hblm hta ⊢
      walk_at "nx"
      refine ⟨_, .inl (SqL.of hl2'), rfl, way_flat t, ?_⟩
      rw [way_in]
      by_cases c : none ∈ t
      · refine ite2 (fun _ => ?_) (fun z => absurd (decide_eq_true c) z)
        have est : stepO o' t = o' := by unfold stepO; rw [if_pos c]
        have enu : numO o' t = none := by unfold numO; rw [if_pos c]
        have ebu : blaO t = some (t.idxOf none) := by unfold blaO; rw [if_pos c]
        rw [est] at hrow ⊢
        rw [enu] at hrow
        rw [ebu] at hblm
        refine ⟨⟨_, SqL.of erl2⟩, _, erl2, by rw [List.length_map]; exact small' (by omega), ?_⟩
        walk_at "nx"
        have ebl3 : upd H2 rl (.lst (((rowO rs us r).take k).map wayV ++ [.non])) bl = some (.lst (((blmO rs us r).take k).map wayV)) := by rw [upd_ne (Ne.symm l1)]; exact ebl2
        have el3 : upd H2 rl (.lst (((rowO rs us r).take k).map wayV ++ [.non])) L' = some (.lst (t.map wayV)) := by rw [upd_ne (Ne.symm nLr)]; exact hl2'
        refine ⟨⟨_, SqL.of ebl3⟩, ⟨_, SqL.of el3⟩, L', keyO t, none, rfl, rfl, by rw [← wayV_keys]; exact SqL.of el3, List.mem_map.mpr ⟨none, c, rfl⟩, ?_⟩
        rw [idx_keys]
        exact ⟨_, ebl3, by rw [List.length_map]; exact small' (by omega), fin H2 ts' kv2 o' none (some (t.idxOf none)) _ _ sx2 hO2 hM2 hNx hA2 hB2 erl2 ebl2 ndx hfx hrow hblm⟩
      · refine ite2 (fun z => absurd (of_decide_eq_true z) c) (fun _ => ?_)
        have ebu : blaO t = none := by unfold blaO; rw [if_neg c]
        rw [ebu] at hblm
        refine ⟨_, .inl ⟨SqL.of hl2', fun tp htp => ?_⟩⟩
        have s3 := same_new htp (.tup (t.map wayV))
        have e3 : upd H2 tp (.tup (t.map wayV)) tp = some (.tup (t.map wayV)) := upd_same
        generalize upd H2 tp (.tup (t.map wayV)) = H3 at s3 e3 ⊢
        have key : ∀ {G : Hp} {x : Addr}, G x = some (.tup (t.map wayV)) → KeyO G (keyL (bareO t)) x := fun {G x} e => by
          show G x = some (.tup _)
          rw [keyL_opt, ← bare_way c]; exact e
        have hM3 := hM2.mono s3
        refine ⟨tp, mp, keyL (bareO t), kv2, rfl, rfl, hM3, key e3, _, rfl, ?_⟩
        by_cases c2 : bareO t ∈ o'
        · rw [hNx.2.1 _ c2]
          refine ite2 (fun z => by cases z) (fun _ => ?_)
          have est : stepO o' t = o' := by unfold stepO; rw [if_neg c, if_pos c2]
          have enu : numO o' t = some (o'.idxOf (bareO t)) := by unfold numO; rw [if_neg c]
          rw [est, enu] at hrow
          rw [est]
          refine due_tail (s3 _ _ hl2') c hM3 (hNx.2.1 _ c2) (s3 _ _ erl2) (s3 _ _ ebl2) (by rw [List.length_map]; omega) (by rw [List.length_map]; omega) l1 (fun tp' htp' => ?_)
          have s4 := s3.trans (same_new htp' (.tup (t.map wayV)))
          generalize upd H3 tp' (.tup (t.map wayV)) = H4 at s4 ⊢
          exact fin H4 ts' kv2 o' (some (o'.idxOf (bareO t))) none _ _ (sx2.trans s4) (hO2.mono s4) (hM2.mono s4) hNx (hA2.mono s4) (hB2.mono s4) (s4 _ _ erl2) (s4 _ _ ebl2) ndx hfx hrow hblm
        · obtain ⟨hvn, hN2⟩ := hNx.snoc c2
          rw [hvn]
          refine ite2 (fun _ => ?_) (fun z => absurd rfl z)
          have est : stepO o' t = o' ++ [bareO t] := by unfold stepO; rw [if_neg c, if_neg c2]
          have enu : numO (o' ++ [bareO t]) t = some o'.length := by unfold numO; rw [if_neg c, List.idxOf_append, if_neg c2]; simp
          rw [est, enu] at hrow
          rw [est]
          refine ⟨_, .inl (SqL.of (s3 _ _ hO2.1)), _, .inl ⟨SqL.of (s3 _ _ hl2'), fun tp2 htp2 => ?_⟩⟩
          have s4 := s3.trans (same_new htp2 (.tup (t.map wayV)))
          have e4 : upd H3 tp2 (.tup (t.map wayV)) tp2 = some (.tup (t.map wayV)) := upd_same
          generalize upd H3 tp2 (.tup (t.map wayV)) = H4 at s4 e4 ⊢
          have hM4 := hM2.mono s4
          refine ⟨mp, tp2, keyL (bareO t), kv2, rfl, rfl, hM4, key e4, hvn, small' (by have := hNx.1; omega), fun uu huu => ?_⟩
          rw [List.length_map, htl'] at huu
          have hmpd : ∀ {b : Addr} {xs : List V}, H4 b = some (.lst xs) → b ≠ mp := fun {b xs} e => Ne.symm (do_ne75 hM4 e)
          have hO4 := hO2.mono s4
          have hA4 := hA2.mono s4
          have hB4 := hB2.mono s4
          have lsts : ∀ {p : Addr} {R : List (List (Option Nat))} {zs : List Addr}, RoomsAs H4 p R zs → mp ∉ zs := fun {p R zs} hz hm => by
            obtain ⟨i, hi, e⟩ := List.mem_iff_getElem.mp hm
            exact hmpd (hz.2.2 i mp _ (by rw [List.getElem?_eq_getElem hi, e]) (List.getElem?_eq_getElem (by rw [← hz.2.1]; exact hi))) rfl
          have hO5 := hO4.other (u := uu) (hmpd hO4.1) (lsts hO4)
          have hA5 := hA4.other (u := uu) (hmpd hA4.1) (lsts hA4)
          have hB5 := hB4.other (u := uu) (hmpd hB4.1) (lsts hB4)
          have erl5 : upd H4 mp uu rl = some (.lst (((rowO rs us r).take k).map wayV)) := by rw [upd_ne (hmpd (s4 _ _ erl2))]; exact s4 _ _ erl2
          have ebl5 : upd H4 mp uu bl = some (.lst (((blmO rs us r).take k).map wayV)) := by rw [upd_ne (hmpd (s4 _ _ ebl2))]; exact s4 _ _ ebl2
          have el5 : upd H4 mp uu L' = some (.lst (t.map wayV)) := by rw [upd_ne (hmpd (s4 _ _ hl2'))]; exact s4 _ _ hl2'
          have sx5 := (sx2.trans s4).upd hmp0 uu
          generalize upd H4 mp uu = H5 at huu hO5 hA5 hB5 erl5 ebl5 el5 sx5 ⊢
          walk_at "nx"
          refine ⟨⟨_, SqL.of hO5.1⟩, _, hO5.1, by rw [List.length_map]; exact small' (by omega), ?_⟩
          have nLo : op ≠ L' := ne_of_none hOx.1 hL'
          have nLr' : rp ≠ L' := ne_of_none hAx.1 hL'
          have nLb' : bp ≠ L' := ne_of_none hBx.1 hL'
          have hO6 := hO5.push (x := upO (bareO t)) o5 nLo (by rw [el5, upO_way, ← bare_way c])
          have hA6 := hA5.other (u := .lst (ts'.map V.ref ++ [.ref L'])) (Ne.symm o1) o6
          have hB6 := hB5.other (u := .lst (ts'.map V.ref ++ [.ref L'])) (Ne.symm o2) o7
          have hM6 := do_put75 huu (o := .lst (ts'.map V.ref ++ [.ref L'])) hO5.1 (do_ne75 huu hO5.1)
          have erl6 : upd H5 op (.lst (ts'.map V.ref ++ [.ref L'])) rl = some (.lst (((rowO rs us r).take k).map wayV)) := by rw [upd_ne (Ne.symm o3)]; exact erl5
          have ebl6 : upd H5 op (.lst (ts'.map V.ref ++ [.ref L'])) bl = some (.lst (((blmO rs us r).take k).map wayV)) := by rw [upd_ne (Ne.symm o4)]; exact ebl5
          have el6 : upd H5 op (.lst (ts'.map V.ref ++ [.ref L'])) L' = some (.lst (t.map wayV)) := by rw [upd_ne (Ne.symm nLo)]; exact el5
          have sx6 := sx5.upd hop0 (.lst (ts'.map V.ref ++ [.ref L']))
          generalize upd H5 op (.lst (ts'.map V.ref ++ [.ref L'])) = H6 at hO6 hA6 hB6 hM6 erl6 ebl6 el6 sx6 ⊢
          have hv6 : valV (kv2 ++ [(keyL (bareO t), V.int (o'.length : Int))]) (keyL (bareO t)) = some (.int (o'.length : Int)) := by rw [valV_snoc _ _ _ _ hvn, if_pos rfl]
          refine due_tail el6 c hM6 hv6 erl6 ebl6 (by rw [List.length_map]; omega) (by rw [List.length_map]; omega) l1 (fun tp' htp' => ?_)
          have s7 := same_new htp' (.tup (t.map wayV))
          generalize upd H6 tp' (.tup (t.map wayV)) = H7 at s7 ⊢
          refine fin H7 (ts' ++ [L']) _ (o' ++ [bareO t]) (some o'.length) none _ _ (sx6.trans s7) ?_ (hM6.mono s7) hN2 (hA6.mono s7) (hB6.mono s7) (s7 _ _ erl6) (s7 _ _ ebl6) ?_ ?_ hrow hblm
          · rw [List.map_append]; exact hO6.mono s7
          · have pm : (op :: rp :: bp :: rl :: bl :: ((ts' ++ [L']) ++ as ++ bs)).Perm (L' :: op :: rp :: bp :: rl :: bl :: (ts' ++ as ++ bs)) := by
              rw [List.perm_iff_count]
              intro a
              simp only [List.count_cons, List.count_append, List.count_nil]
              omega
            refine pm.nodup_iff.mpr (List.nodup_cons.mpr ⟨fun z => ?_, ndx⟩)
            have all1 := has_all hOx hAx hBx
            simp only [List.mem_cons] at z
            rcases z with z | z | z | z | z | z
            · exact nLo z.symm
            · exact nLr' z.symm
            · exact nLb' z.symm
            · exact nLr z.symm
            · exact nLb z.symm
            · obtain ⟨o, e⟩ := all1 L' (List.mem_cons_of_mem _ (List.mem_cons_of_mem _ (List.mem_cons_of_mem _ z)))
              rw [hL'] at e; cases e
          · intro a ha
            simp only [List.mem_append, List.mem_singleton] at ha
            rcases ha with ((z | z) | z) | z
            · exact hfx a (by simp [z])
            · rw [z]; exact hL0'
            · exact hfx a (by simp [z])
            · exact hfx a (by simp [z])
    · rintro σ H11 ⟨ts', kv2, o9, o10, rfl, sx, hOx, hMx, hNx, hAx, hBx, erl, ebl, ndx, hfx⟩
      have ho' : ((behO rs us (hereO rs us r)).take (us.map V.str).length).foldl stepO (ordO rs us r) = ordO rs us (r + 1) := by
        rw [List.length_map, List.take_of_length_le (by unfold behO; rw [List.length_map]; omega)]
        conv => rhs; unfold ordO
        rw [if_pos hend]; rfl
      rw [ho'] at hOx hNx
      rw [List.length_map, List.take_of_length_le (by omega)] at erl ebl
      have hAl : as.length = r := by have := hAx.2.1; simpa using this
      have hBl : bs.length = r := by have := hBx.2.1; simpa using this
      have hx := ndx
      simp only [List.nodup_cons, List.mem_cons, List.mem_append, not_or] at hx
      obtain ⟨⟨o1, o2, o3, o4, ⟨o5, o6⟩, o7⟩, ⟨r1, r2, r3, ⟨r4, r5⟩, r6⟩, ⟨b1, b2, ⟨b3, b4⟩, b5⟩, ⟨l1, ⟨l2, l3⟩, l4⟩, ⟨⟨m1, m2⟩, m3⟩, nrest⟩ := hx
      have hrl0 : H rl = none := sm.free hrl
      have hbl0 : H bl = none := (sm.trans s9).free hbl
      walk_at "nx"
      refine ⟨⟨_, SqL.of hAx.1⟩, _, hAx.1, by rw [List.length_map]; exact small' (by omega), ?_⟩
      have hA2 := hAx.push r5 r2 erl
      have hO2 := hOx.other (u := .lst (as.map V.ref ++ [.ref rl])) o1 r4
      have hB2 := hBx.other (u := .lst (as.map V.ref ++ [.ref rl])) (Ne.symm r1) r6
      have hM2 := do_put75 hMx (o := .lst (as.map V.ref ++ [.ref rl])) hAx.1 (do_ne75 hMx hAx.1)
      have ebl2 : upd H11 rp (.lst (as.map V.ref ++ [.ref rl])) bl = some (.lst ((blmO rs us r).map wayV)) := by rw [upd_ne (Ne.symm r3)]; exact ebl
      have sx2 := sx.upd hrp0 (.lst (as.map V.ref ++ [.ref rl]))
      generalize upd H11 rp (.lst (as.map V.ref ++ [.ref rl])) = H12 at hA2 hO2 hB2 hM2 ebl2 sx2 ⊢
      walk_at "nx"
      refine ⟨⟨_, SqL.of hB2.1⟩, _, hB2.1, by rw [List.length_map]; exact small' (by omega), ?_⟩
      have hB3 := hB2.push b5 b2 ebl2
      have hA3 := hA2.other (u := .lst (bs.map V.ref ++ [.ref bl])) r1 (fun z => by
        rcases List.mem_append.mp z with z | z
        · exact b4 z
        · exact b1 (List.mem_singleton.mp z))
      have hO3 := hO2.other (u := .lst (bs.map V.ref ++ [.ref bl])) o2 b3
      have hM3 := do_put75 hM2 (o := .lst (bs.map V.ref ++ [.ref bl])) hB2.1 (do_ne75 hM2 hB2.1)
      have mapS : ∀ {β : Type} (f : Nat → β), (List.range (r + 1)).map f = (List.range r).map f ++ [f r] := fun f => by rw [List.range_succ, List.map_append]; rfl
      refine ⟨r + 1, ts', as ++ [rl], bs ++ [bl], kv2, _, _, _, _, _, rfl, sx2.upd hbp0 _, hO3, hM3, hNx, by rw [mapS]; exact hA3, by rw [mapS]; exact hB3, ?_, fun a ha => ?_, .inl ⟨rfl, ?_⟩⟩
      · have pm : (op :: rp :: bp :: (ts' ++ (as ++ [rl]) ++ (bs ++ [bl]))).Perm (op :: rp :: bp :: rl :: bl :: (ts' ++ as ++ bs)) := by
          rw [List.perm_iff_count]
          intro a
          simp only [List.count_cons, List.count_append, List.count_nil]
          omega
        exact pm.nodup_iff.mpr ndx
      · simp only [List.mem_append, List.mem_singleton] at ha
        rcases ha with (z | z | z) | (z | z)
        · exact hfx a (by simp [z])
        · exact hfx a (by simp [z])
        · rw [z]; exact hrl0
        · exact hfx a (by simp [z])
        · rw [z]; exact hbl0
      · obtain ⟨x, e'⟩ := foldO_pre (behO rs us (hereO rs us r)) (ordO rs us r)
        have e : ordO rs us (r + 1) = (behO rs us (hereO rs us r)).foldl stepO (ordO rs us r) := by
          conv => lhs; unfold ordO
          rw [if_pos hend]; rfl
        rw [e, e', List.length_append]; omega
  · rintro σ H' ⟨r, ts, as, bs, kvs, o6, o7, o8, o9, o10, rfl, sm, hO, hM, hN, hA, hB, nd, hfr, hri⟩
    obtain ⟨fnd, fin, fl1⟩ := ordO_facts ok us (Int.toNat 60)
    have hlen := in_len fnd fin
    have h60 : Int.toNat 60 = 60 := rfl
    walk_at "nx"
    refine ⟨by decide, fun p hp => ?_⟩
    have s' := same_new hp (.tup [V.ref rp, V.ref bp])
    rcases hri with ⟨z1, z2⟩ | ⟨z1, z2, z3⟩
    · exact q p rp bp _ r as bs (sm.trans s') (sm.free hp) upd_same (by omega) (by rw [z1]; omega) (hA.mono s') (hB.mono s')
    · exact q p rp bp _ r as bs (sm.trans s') (sm.free hp) upd_same (by omega) (by rw [z3]; exact z1) (hA.mono s') (hB.mono s')
end
/-! ### two rising lists of the same words are one -/
theorem str_same {x y : Str} (h : x.cps.toList = y.cps.toList) : x = y := by
  cases x; cases y
  have := Array.ext' h
  simp_all
theorem sort_pw : ∀ (xs : List Str), sortedS xs = true → xs.Pairwise (fun a b => a.cps.toList ≤ b.cps.toList)
  | [], _ => .nil
  | [x], _ => by simp
  | x :: y :: r, h => by
    have h' : (!ltCps y.cps.toList x.cps.toList && sortedS (y :: r)) = true := h
    rw [Bool.and_eq_true, ltCps_eq] at h'
    have h1 : x.cps.toList ≤ y.cps.toList := List.not_lt.mp (by simpa using h'.1)
    have ih := sort_pw (y :: r) h'.2
    refine List.pairwise_cons.mpr ⟨fun z hz => ?_, ih⟩
    rcases List.mem_cons.mp hz with rfl | hz
    · exact h1
    · exact List.le_trans h1 ((List.pairwise_cons.mp ih).1 z hz)
theorem sort_uniq {xs ys : List Str} (n1 : xs.Nodup) (n2 : ys.Nodup) (s1 : sortedS xs = true) (s2 : sortedS ys = true) (h : ∀ x, x ∈ xs ↔ x ∈ ys) : xs = ys :=
  ((List.perm_ext_iff_of_nodup n1 n2).mpr h).eq_of_pairwise (fun a b _ _ z1 z2 => str_same (List.le_antisymm z1 z2)) (sort_pw xs s1) (sort_pw ys s2)
/-! ### lists of rules with their names -/
def NamedAt (H : Hp) (t : Addr) (n : Str × Rl) : Prop := ∃ b, H t = some (.tup [.str n.1, .ref b]) ∧ RuleAt H b n.2
def ListAs (H : Hp) (p : Addr) (ns : List (Str × Rl)) (ps : List Addr) : Prop := H p = some (.lst (ps.map V.ref)) ∧ ps.length = ns.length ∧ ∀ (i : Nat) t n, ps[i]? = some t → ns[i]? = some n → NamedAt H t n
theorem NamedAt.mono {H H' : Hp} {t : Addr} {n : Str × Rl} (h : NamedAt H t n) (sm : Same H H') : NamedAt H' t n := let ⟨b, e, r⟩ := h; ⟨b, sm _ _ e, r.mono sm⟩
theorem ListAs.mono {H H' : Hp} {p : Addr} {ns : List (Str × Rl)} {ps : List Addr} (h : ListAs H p ns ps) (sm : Same H H') : ListAs H' p ns ps := ⟨sm _ _ h.1, h.2.1, fun i t n e1 e2 => (h.2.2 i t n e1 e2).mono sm⟩
structure RsOk (ns : List (Str × Rl)) : Prop where
  n8 : ns.length ≤ 8
  ok : ∀ n ∈ ns, RlOk n.2 ∧ n.2.ws.Nodup
/-- a named rule, all its parts -/
structure Rc where
  t : Addr
  b : Addr
  pw : Addr
  pr : Addr
  as : List Addr
def Rc.own (c : Rc) : List Addr := c.pw :: c.pr :: c.as
def RcAt (H : Hp) (c : Rc) (n : Str × Rl) : Prop := H c.t = some (.tup [.str n.1, .ref c.b]) ∧ H c.b = some (.tup [.int n.2.s, .ref c.pw, .ref c.pr]) ∧ H c.pw = some (.lst (n.2.ws.map V.str)) ∧ RoomsAs H c.pr n.2.rs c.as
theorem RcAt.mono {H H' : Hp} {c : Rc} {n : Str × Rl} (h : RcAt H c n) (sm : Same H H') : RcAt H' c n := ⟨sm _ _ h.1, sm _ _ h.2.1, sm _ _ h.2.2.1, h.2.2.2.mono sm⟩
theorem RcAt.named {H : Hp} {c : Rc} {n : Str × Rl} (h : RcAt H c n) : NamedAt H c.t n := ⟨c.b, h.1, c.pw, c.pr, c.as, h.2.1, h.2.2.1, h.2.2.2⟩
theorem RcAt.upd {H : Hp} {c : Rc} {n : Str × Rl} {a : Addr} {o : HO} (h : RcAt H c n) (ha : a ∉ c.own) (hl : ∀ xs, H a ≠ some (.tup xs)) : RcAt (L2.upd H a o) c n := by
  obtain ⟨h1, h2, h3, h4, h5, h6⟩ := h
  have nt : ∀ {b : Addr} {xs : List V}, H b = some (.tup xs) → b ≠ a := fun {b xs} e z => by subst z; exact hl _ e
  have no : ∀ {b : Addr}, b ∈ c.own → b ≠ a := fun {b} hb z => ha (z ▸ hb)
  refine ⟨by rw [upd_ne (nt h1)]; exact h1, by rw [upd_ne (nt h2)]; exact h2, by rw [upd_ne (no (List.mem_cons_self ..))]; exact h3, by rw [upd_ne (no (List.mem_cons_of_mem _ (List.mem_cons_self ..)))]; exact h4, h5, fun i b x e1 e2 => ?_⟩
  rw [upd_ne (no (List.mem_cons_of_mem _ (List.mem_cons_of_mem _ (List.mem_of_getElem? e1))))]
  exact h6 i b x e1 e2
theorem RcAt.owned {H : Hp} {c : Rc} {n : Str × Rl} (h : RcAt H c n) : ∀ a ∈ c.own, ∃ xs, H a = some (.lst xs) := by
  obtain ⟨h1, h2, h3, h4, h5, h6⟩ := h
  intro a ha
  rcases List.mem_cons.mp ha with rfl | ha
  · exact ⟨_, h3⟩
  · rcases List.mem_cons.mp ha with rfl | ha
    · exact ⟨_, h4⟩
    · obtain ⟨i, hi, rfl⟩ := List.mem_iff_getElem.mp ha
      exact ⟨_, h6 i _ _ (List.getElem?_eq_getElem hi) (List.getElem?_eq_getElem (by omega))⟩
/-- a list of named rules, all of whose lists are new and no two of them one -/
structure FamAt (H0 H : Hp) (l : Addr) (cs : List Rc) (ns : List (Str × Rl)) : Prop where
  at' : H l = some (.lst (cs.map fun c => V.ref c.t))
  len : cs.length = ns.length
  rc : ∀ (i : Nat) c n, cs[i]? = some c → ns[i]? = some n → RcAt H c n
  nd : (l :: cs.flatMap Rc.own).Nodup
  new : ∀ a ∈ l :: cs.flatMap Rc.own, H0 a = none
theorem FamAt.mono {H0 H H' : Hp} {l : Addr} {cs : List Rc} {ns : List (Str × Rl)} (h : FamAt H0 H l cs ns) (sm : Same H H') : FamAt H0 H' l cs ns := ⟨sm _ _ h.at', h.len, fun i c n e1 e2 => (h.rc i c n e1 e2).mono sm, h.nd, h.new⟩
theorem FamAt.list {H0 H : Hp} {l : Addr} {cs : List Rc} {ns : List (Str × Rl)} (h : FamAt H0 H l cs ns) : ListAs H l ns (cs.map (·.t)) := by
  refine ⟨by rw [h.at', List.map_map]; rfl, by rw [List.length_map]; exact h.len, fun i t n e1 e2 => ?_⟩
  rw [List.getElem?_map] at e1
  cases q : cs[i]? with
  | none => rw [q] at e1; cases e1
  | some c => rw [q] at e1; cases e1; exact (h.rc i c n q e2).named
theorem FamAt.owned {H0 H : Hp} {l : Addr} {cs : List Rc} {ns : List (Str × Rl)} (h : FamAt H0 H l cs ns) : ∀ a ∈ l :: cs.flatMap Rc.own, ∃ xs, H a = some (.lst xs) := by
  intro a ha
  rcases List.mem_cons.mp ha with rfl | ha
  · exact ⟨_, h.at'⟩
  · obtain ⟨c, hc, hac⟩ := List.mem_flatMap.mp ha
    obtain ⟨i, hi, rfl⟩ := List.mem_iff_getElem.mp hc
    exact (h.rc i _ _ (List.getElem?_eq_getElem hi) (List.getElem?_eq_getElem (by rw [← h.len]; exact hi))).owned a hac
theorem FamAt.push {H0 H H2 : Hp} {l : Addr} {cs : List Rc} {ns : List (Str × Rl)} {c : Rc} {n : Str × Rl} (h : FamAt H0 H l cs ns) (s0 : Same H0 H) (sm : Same H H2) (hc : RcAt H2 c n) (hn : c.own.Nodup) (hf : ∀ a ∈ c.own, H a = none) : FamAt H0 (upd H2 l (.lst (cs.map (fun c => V.ref c.t) ++ [.ref c.t]))) l (cs ++ [c]) (ns ++ [n]) := by
  have h2 := h.mono sm
  have hlt : ∀ xs, H2 l ≠ some (.tup xs) := fun xs z => by rw [h2.at'] at z; cases z
  have hold := h.owned
  have hdis : ∀ a ∈ l :: cs.flatMap Rc.own, a ∉ c.own := fun a ha z => by
    obtain ⟨xs, e⟩ := hold a ha
    rw [hf a z] at e; cases e
  have e : (l :: (cs ++ [c]).flatMap Rc.own) = (l :: cs.flatMap Rc.own) ++ c.own := by simp
  refine ⟨by rw [upd_same, List.map_append]; rfl, by simp [h.len], fun i d m e1 e2 => ?_, ?_, fun a ha => ?_⟩
  · rcases Nat.lt_or_ge i cs.length with z | z
    · rw [List.getElem?_append_left z] at e1
      rw [List.getElem?_append_left (by rw [← h.len]; exact z)] at e2
      refine (h2.rc i d m e1 e2).upd (fun hm => ?_) hlt
      have := (List.nodup_cons.mp h.nd).1
      exact this (List.mem_flatMap.mpr ⟨d, List.mem_of_getElem? e1, hm⟩)
    · rw [List.getElem?_append_right z] at e1
      rw [List.getElem?_append_right (by rw [← h.len]; exact z)] at e2
      have k0 : i - cs.length = 0 := by have := (List.getElem?_eq_some_iff.mp e1).1; simp at this; omega
      have k1 : i - ns.length = 0 := by rw [← h.len]; exact k0
      rw [k0] at e1
      rw [k1] at e2
      cases e1; cases e2
      exact hc.upd (fun hm => hdis l (List.mem_cons_self ..) hm) hlt
  · rw [e]
    exact List.nodup_append.mpr ⟨h.nd, hn, fun a ha b hb z => hdis a ha (z ▸ hb)⟩
  · rw [e] at ha
    rcases List.mem_append.mp ha with z | z
    · exact h.new a z
    · exact s0.free (hf a z)
theorem named_eq {K : PySem.W.Frag} {H : Hp} {p q : Addr} {n : Str × Rl} (h1 : NamedAt H p n) (h2 : NamedAt H q n) : EqN K H 4 (.ref p) (.ref q) true := by
  obtain ⟨a, a1, a2⟩ := h1
  obtain ⟨b, b1, b2⟩ := h2
  refine EqN.seq (.inr ⟨SqT.of a1, SqT.of b1⟩) rfl fun i x y e1 e2 => ?_
  match i, e1, e2 with
  | 0, e1, e2 => cases e1; cases e2; exact EqN.refl rfl
  | 1, e1, e2 => cases e1; cases e2; exact rule_eq a2 b2
  | i + 2, e1, e2 => simp at e1
theorem list_eq {K : PySem.W.Frag} {H : Hp} {p q : Addr} {ns : List (Str × Rl)} {as bs : List Addr} (h1 : ListAs H p ns as) (h2 : ListAs H q ns bs) : EqN K H 5 (.ref p) (.ref q) true := by
  obtain ⟨a1, a2, a3⟩ := h1
  obtain ⟨b1, b2, b3⟩ := h2
  refine EqN.seq (.inl ⟨SqL.of a1, SqL.of b1⟩) (by simp; omega) fun i x y e1 e2 => ?_
  rw [List.getElem?_map] at e1 e2
  cases qa : as[i]? with
  | none => rw [qa] at e1; cases e1
  | some a =>
    cases qb : bs[i]? with
    | none => rw [qb] at e2; cases e2
    | some b =>
      rw [qa] at e1; rw [qb] at e2
      cases e1; cases e2
      have hi : i < ns.length := by have := (List.getElem?_eq_some_iff.mp qa).1; omega
      exact named_eq (a3 i a _ qa (List.getElem?_eq_getElem hi)) (b3 i b _ qb (List.getElem?_eq_getElem hi))
def spCopies : Sp := fun vs H Q _ => ∃ (p : Addr) (ns : List (Str × Rl)) (ps : List Addr), vs = [.ref p] ∧ ListAs H p ns ps ∧ RsOk ns ∧ ∀ (l : Addr) (H' : Hp) (cs : List Rc), Same H H' → FamAt H H' l cs ns → Q (.ref l) H'
section
variable {P : Program} {w : World} {K : PySem.W.Frag} {mg : Str → Option Value} {base : Heap}
theorem ok_copies (D : DefAt K mg "_law_copy" s_law_copy) (z_list : mg "list" = none) : Cal P w K mg base 1 "_law_copy" ["_law_rules_here"] spCopies := by
  refine D.cal (k := 0) sc_law_copy (fun _ _ _ _ _ _ us hl => match us, hl with | [_], _ => rfl) (fun vs H Q E h => by obtain ⟨_, _, _, rfl, _⟩ := h; rfl) (fun f cdv A outer s H vs Q E hr h => ?_)
  obtain ⟨p, ns, ps, rfl, hL, ok, q⟩ := h
  have n8 := ok.n8
  have hpl := hL.2.1
  refine ⟨_, (pss_one (ps_ret (pe_comp (CompSc.to (fsc := (defScope s_law_copy)) (N := ["_law_rules_here"]) (N0 := ["_law_rules_here"]) (T := ["_law_name", "_law_rule"]) ⟨by decide +kernel, by decide +kernel, by decide +kernel, by decide +kernel, by decide +kernel, by decide +kernel, by decide +kernel⟩ rfl rfl) rfl (pi_listK K (pv 0 (hv := v_law_copy__law_rules_here))) (fun _ _ _ _ => (pg_tupK K (n := 2) (pgs_cons (pg_let 1 (show (["_law_rules_here", "_law_name", "_law_rule"] : List Str).Nodup from by decide +kernel) (hx := (locC (defScope s_law_copy) (by decide +kernel))) (hf := fnC (defScope s_law_copy) (by decide +kernel))) (pgs_cons (pg_let 2 (show (["_law_rules_here", "_law_name", "_law_rule"] : List Str).Nodup from by decide +kernel) (hx := (locC (defScope s_law_copy) (by decide +kernel))) (hf := fnC (defScope s_law_copy) (by decide +kernel))) pgs_nil)))) (gfr_tup (gsfr_cons (gfr_name (show (["_law_rules_here"] : List Str).length ≤ 1 from by decide)) gm_name (gsfr_cons (gfr_name (show (["_law_rules_here"] : List Str).length ≤ 2 from by decide)) gm_name gsfr_nil gsm_nil) (gsm_cons gm_name gsm_nil))) (fun _ _ _ _ => pifs_nil) (fun _ _ _ _ => (pe_tup (pa_cons (pv 1 (hv := (visC (defScope s_law_copy) (by decide +kernel)))) (pa_cons (pe_tup (pa_cons (pe_ix (ix_K K) (pv 2 (hv := (visC (defScope s_law_copy) (by decide +kernel)))) pe_int (fun _ _ => rfl)) (pa_cons (pe_bty (call_listA K) z_list bt_list (pa_cons (pe_ix (ix_K K) (pv 2 (hv := (visC (defScope s_law_copy) (by decide +kernel)))) pe_int (fun _ _ => rfl)) pa_nil) (hg := (glC (defScope s_law_copy) (by decide +kernel)))) (pa_cons (pe_comp (CompSc.to (fsc := (relabelS _ (defScope s_law_copy))) (N := ["_law_rules_here", "_law_name", "_law_rule"]) (N0 := ["_law_rules_here", "_law_name", "_law_rule"]) (T := ["_law_room"]) ⟨by decide +kernel, by decide +kernel, by decide +kernel, by decide +kernel, by decide +kernel, by decide +kernel, by decide +kernel⟩ rfl rfl) rfl (pi_listK K (pe_ix (ix_K K) (pv 2 (hv := (visC (defScope s_law_copy) (by decide +kernel)))) pe_int (fun _ _ => rfl))) (fun _ _ _ _ => (pg_let 3 (show (["_law_rules_here", "_law_name", "_law_rule", "_law_room"] : List Str).Nodup from by decide +kernel) (hx := (locC (relabelS _ (defScope s_law_copy)) (e := rfl) (by decide +kernel))) (hf := fnC (relabelS _ (defScope s_law_copy)) (e := rfl) (by decide +kernel)))) (gfr_name (show (["_law_rules_here", "_law_name", "_law_rule"] : List Str).length ≤ 3 from by decide)) (fun _ _ _ _ => pifs_nil) (fun _ _ _ _ => (pe_bty (call_listA K) z_list bt_list (pa_cons (pv 3 (hv := (visC (relabelS _ (defScope s_law_copy)) (e := rfl) (by decide +kernel)))) pa_nil) (hg := (glC (relabelS _ (defScope s_law_copy)) (e := rfl) (by decide +kernel)))))) pa_nil)))) pa_nil))))))), ?_⟩
  walk_at "rd1"
  refine ⟨⟨_, SqL.of hL.1⟩, fun l hl => ?_⟩
  refine compW_list (xs := ps.map V.ref) (fun i ys H' => ∃ cs : List Rc, Same H H' ∧ ys = cs.map (fun c => V.ref c.t) ∧ cs.length = i ∧ FamAt H H' l cs (ns.take i)) ⟨[], same_new hl _, rfl, rfl, upd_same, rfl, fun i c n e => by simp at e, by simp, fun a ha => by simp at ha; rw [ha]; exact hl⟩ (fun i ys H' _ h => by obtain ⟨_, sm, _⟩ := h; exact SqL.of (hL.mono sm).1) ?_ ?_
  · rintro i ys H' v hv hi ⟨cs, sm, rfl, hcl, hF⟩
    rw [List.length_map] at hi
    have hin : i < ns.length := by omega
    rw [List.getElem?_map, List.getElem?_eq_getElem hi] at hv
    cases hv
    obtain ⟨b, hb1, pw, pr, as, h1, h2, h3⟩ := (hL.2.2 i ps[i] ns[i] (List.getElem?_eq_getElem hi) (List.getElem?_eq_getElem hin)).mono sm
    obtain ⟨okn, ndn⟩ := ok.ok _ (List.getElem_mem hin)
    walk_at "rd1"
    refine ⟨ps[i], _, rfl, SqT.of hb1, rfl, ?_⟩
    walk_at "rd1"
    refine ⟨_, _, .inr (SqT.of h1), at0, ?_⟩
    refine ⟨_, _, .inr (SqT.of h1), atI_nat (j := 1) rfl, ?_⟩
    walk_at "rd1"
    refine ⟨_, .inl (SqL.of h2), fun wl hwl => ?_⟩
    generalize hH1 : upd H' wl _ = H1
    have sm1 := al_same hH1 hwl
    have e1 := al_at hH1
    refine ⟨_, _, .inr (SqT.of (sm1 _ _ h1)), atI_nat (j := 2) rfl, ?_⟩
    have h31 := h3.mono sm1
    walk_at "rd1"
    refine ⟨⟨_, SqL.of h31.1⟩, fun L hL' => ?_⟩
    refine copy_rooms h31 okn.n1 hL' (fun a xs H' C z1 z2 => ?_) (fun H2 bs sm2 hB hbn hnd => ?_)
    · walk_at "rd1"
      exact ⟨_, .inl (SqL.of z1), z2⟩
    walk_at "rd1"
    refine ⟨by decide, fun t ht => ?_⟩
    have sm3 := same_new ht (.tup [.int ns[i].2.s, .ref wl, .ref L])
    have e3 : upd H2 t (.tup [.int ns[i].2.s, .ref wl, .ref L]) t = some (.tup [.int ns[i].2.s, .ref wl, .ref L]) := upd_same
    generalize upd H2 t (.tup [.int ns[i].2.s, .ref wl, .ref L]) = H3 at sm3 e3 ⊢
    refine ⟨by decide, fun nt hnt => ?_⟩
    have sm4 := same_new hnt (.tup [.str ns[i].1, .ref t])
    have e4 : upd H3 nt (.tup [.str ns[i].1, .ref t]) nt = some (.tup [.str ns[i].1, .ref t]) := upd_same
    generalize upd H3 nt (.tup [.str ns[i].1, .ref t]) = H4 at sm4 e4 ⊢
    have s12 := sm1.trans sm2
    have s34 := sm3.trans sm4
    have s14 := s12.trans s34
    refine cstep (by rw [List.length_map]; exact hi) (by rw [List.length_map]; exact hcl) (by rw [List.length_map]; exact smallL (by omega)) ((hF.mono s14).at') ⟨cs ++ [⟨nt, t, wl, L, bs⟩], ((sm.trans s14).upd hl _), by rw [List.map_append]; rfl, len_push hcl, ?_⟩
    rw [List.take_add_one, List.getElem?_eq_getElem hin]
    refine hF.push (c := ⟨nt, t, wl, L, bs⟩) (n := ns[i]) sm s14 ⟨e4, sm4 _ _ e3, (sm2.trans s34) _ _ e1, hB.mono s34⟩ ?_ ?_
    · show (wl :: L :: bs).Nodup
      have nwb : wl ∉ bs := fun hm => by have := (hbn wl hm).1; rw [e1] at this; cases this
      have nLb : L ∉ bs := fun hm => (hbn L hm).2 rfl
      rw [List.nodup_cons, List.nodup_cons]
      exact ⟨by simp [ne_of_none e1 hL', nwb], nLb, hnd⟩
    · intro a ha
      rcases List.mem_cons.mp ha with rfl | ha
      · exact hwl
      · rcases List.mem_cons.mp ha with rfl | ha
        · exact same_none sm1 hL'
        · exact same_none sm1 (hbn a ha).1
  · rintro ys H' ⟨cs, sm, rfl, hcl, hF⟩
    rw [List.length_map, hpl, List.take_length] at hF
    exact q l H' cs sm hF
end
theorem own_apart {l : Addr} {cs : List Rc} (nd : (l :: cs.flatMap Rc.own).Nodup) {i j : Nat} {c d : Rc} (hi : cs[i]? = some c) (hj : cs[j]? = some d) (hij : i ≠ j) : ∀ a ∈ c.own, a ∉ d.own := by
  have h2 := (List.nodup_cons.mp nd).2
  have hp := (List.pairwise_flatMap.mp h2).2
  obtain ⟨l1, e1⟩ := List.getElem?_eq_some_iff.mp hi
  obtain ⟨l2, e2⟩ := List.getElem?_eq_some_iff.mp hj
  intro a ha hd
  rcases Nat.lt_or_ge i j with z | z
  · have := List.pairwise_iff_getElem.mp hp i j l1 l2 z
    rw [e1, e2] at this
    exact this a ha a hd rfl
  · have := List.pairwise_iff_getElem.mp hp j i l2 l1 (by omega)
    rw [e1, e2] at this
    exact this a hd a ha rfl
theorem own_not {l : Addr} {cs : List Rc} (nd : (l :: cs.flatMap Rc.own).Nodup) {i : Nat} {c : Rc} (hi : cs[i]? = some c) : ∀ a ∈ c.own, l ≠ a := fun a ha e => by
  subst e
  exact (List.nodup_cons.mp nd).1 (List.mem_flatMap.mpr ⟨c, List.mem_of_getElem? hi, ha⟩)
theorem FamAt.upd {H0 H : Hp} {l a : Addr} {cs : List Rc} {ns : List (Str × Rl)} {o : HO} (h : FamAt H0 H l cs ns) (ha : H0 a ≠ none) (hl : ∀ xs, H a ≠ some (.tup xs)) : FamAt H0 (L2.upd H a o) l cs ns := by
  have hn : a ∉ l :: cs.flatMap Rc.own := fun hm => ha (h.new a hm)
  rw [List.mem_cons, not_or] at hn
  exact ⟨by rw [upd_ne (Ne.symm hn.1)]; exact h.at', h.len, fun i c n e1 e2 => (h.rc i c n e1 e2).upd (fun hm => hn.2 (List.mem_flatMap.mpr ⟨c, List.mem_of_getElem? e1, hm⟩)) hl, h.nd, h.new⟩
/-- what of a family is still whole from i on -/
def LeftAt (H0 H : Hp) (l : Addr) (cs : List Rc) (ns : List (Str × Rl)) (i : Nat) : Prop := Same H0 H ∧ H l = some (.lst (cs.map fun c => V.ref c.t)) ∧ ∀ (j : Nat) c n, i ≤ j → cs[j]? = some c → ns[j]? = some n → RcAt H c n
theorem LeftAt.mono {H0 H H' : Hp} {l : Addr} {cs : List Rc} {ns : List (Str × Rl)} {i : Nat} (h : LeftAt H0 H l cs ns i) (sm : Same H H') : LeftAt H0 H' l cs ns i := ⟨h.1.trans sm, sm _ _ h.2.1, fun j c n hj e1 e2 => (h.2.2 j c n hj e1 e2).mono sm⟩
theorem LeftAt.put {H0 H : Hp} {l a : Addr} {cs : List Rc} {ns : List (Str × Rl)} {i : Nat} {c : Rc} {xs : List V} {o : HO} (nd : (l :: cs.flatMap Rc.own).Nodup) (new : ∀ a ∈ l :: cs.flatMap Rc.own, H0 a = none) (h : Same H0 H ∧ H l = some (.lst (cs.map fun c => V.ref c.t)) ∧ ∀ (j : Nat) c n, i + 1 ≤ j → cs[j]? = some c → ns[j]? = some n → RcAt H c n) (hc : cs[i]? = some c) (ha : a ∈ c.own) (hx : H a = some (.lst xs)) : LeftAt H0 (upd H a o) l cs ns (i + 1) := by
  refine ⟨h.1.upd (new a (List.mem_cons_of_mem _ (List.mem_flatMap.mpr ⟨c, List.mem_of_getElem? hc, ha⟩))) _, by rw [upd_ne (own_not nd hc a ha)]; exact h.2.1, fun j d n hj e1 e2 => ?_⟩
  exact (h.2.2 j d n hj e1 e2).upd (own_apart nd hc e1 (by omega) a ha) (fun ys z => by rw [hx] at z; cases z)
section
variable {P : Program} {w : World} {K : PySem.W.Frag} {mg : Str → Option Value} {base : Heap}
theorem eq_nilR {K : PySem.W.Frag} {H : Hp} {a b : Addr} {xs : List V} (h1 : H a = some (.lst xs)) (h2 : H b = some (.lst [])) (hx : xs ≠ []) : EqN K H (0 + 1) (.ref a) (.ref b) false := by
  exact .inr ⟨a, b, xs, [], rfl, rfl, .inl ⟨SqL.of h1, SqL.of h2⟩, .inr ⟨SqL.of h1, SqL.of h2, by simpa using hx, rfl⟩⟩
structure TbOk (R : List (List (Option Nat))) (m : Nat) : Prop where
  n0 : 1 ≤ R.length
  n1 : R.length ≤ 60
  m1 : m ≤ 60
  row : ∀ x ∈ R, x.length = m
def spTable : Sp := fun vs H Q _ => ∃ (p : Addr) (R : List (List (Option Nat))) (as : List Addr) (m : Nat), vs = [.ref p, .int (m : Int)] ∧ RoomsAs H p R as ∧ TbOk R m ∧ ∀ H', Same H H' → Q (.bl true) H'
theorem ok_table (D : DefAt K mg "_law_is_table" s_law_is_table) (z_isinstance : mg "isinstance" = none) (z_list : mg "list" = none) (z_len : mg "len" = none) (z_int : mg "int" = none) (z_bool : mg "bool" = none) : Cal P w K mg base 1 "_law_is_table" ["_law_found", "_law_words_here"] spTable := by
  refine D.cal (k := 0) sc_law_is_table (fun _ _ _ _ _ _ us hl => match us, hl with | [_, _], _ => rfl) (fun vs H Q E h => by obtain ⟨_, _, _, _, rfl, _⟩ := h; rfl) (fun f cdv A outer s H vs Q E hr h => ?_)
  obtain ⟨p, R, as, m, rfl, hR, ok, q⟩ := h
  have n0 := ok.n0
  have n1 := ok.n1
  have m1 := ok.m1
  have hal := hR.2.1
  refine ⟨_, (pss_cons (ps_if (PW.pt' (pw_or (pt_not (pt_val (pe_blt call_isT z_isinstance bt_isinstance (pa_cons (pv 0 (hv := v_law_is_table__law_found)) (pa_cons (pe_gty z_list bt_list (hg := gl_law_is_table_list)) pa_nil)) (hg := gl_law_is_table_isinstance)))) (pw_or1 (pt_cmpR (op_eqKD K hr) (pv 0 (hv := v_law_is_table__law_found)) (pe_lst pa_nil) (nomark _))))) (pss_one (ps_ret pe_bl)) pss_nil)
      (pss_cons (ps_for PassesOwn.never rfl (pi_listK K (pv 0 (hv := v_law_is_table__law_found))) (pg_let 2 sc_law_is_table.nd (hx := l_law_is_table__law_room)) (pss_cons (ps_if (PW.pt' (pw_or (pt_not (pt_val (pe_blt call_isT z_isinstance bt_isinstance (pa_cons (pv 2 (hv := v_law_is_table__law_room)) (pa_cons (pe_gty z_list bt_list (hg := gl_law_is_table_list)) pa_nil)) (hg := gl_law_is_table_isinstance)))) (pw_or1 (pt_cmpR op_neA (pe_blt (call_lenK K) z_len bt_len (pa_cons (pv 2 (hv := v_law_is_table__law_room)) pa_nil) (hg := gl_law_is_table_len)) (pv 1 (hv := v_law_is_table__law_words_here)) (nomark _))))) (pss_one (ps_ret pe_bl)) pss_nil)
      (pss_one (ps_for PassesOwn.never rfl (pi_listK K (pv 2 (hv := v_law_is_table__law_room))) (pg_let 3 sc_law_is_table.nd (hx := l_law_is_table__law_to_here)) (pss_one (ps_if (PW.pt' (pw_and (pt_cmpR op_notNA (pv 3 (hv := v_law_is_table__law_to_here)) pe_non (nomark _)) (pw_and1 (PW.pt' (pw_or (pt_not (pt_val (pe_blt call_isT z_isinstance bt_isinstance (pa_cons (pv 3 (hv := v_law_is_table__law_to_here)) (pa_cons (pe_gty z_int bt_int (hg := gl_law_is_table_int)) pa_nil)) (hg := gl_law_is_table_isinstance)))) (pw_or1 (pt_val (pe_blt call_isT z_isinstance bt_isinstance (pa_cons (pv 3 (hv := v_law_is_table__law_to_here)) (pa_cons (pe_gty z_bool bt_bool (hg := gl_law_is_table_bool)) pa_nil)) (hg := gl_law_is_table_isinstance))))))))) (pss_one (ps_ret pe_bl)) pss_nil))))))
      (pss_one (ps_ret pe_bl)))), ?_⟩
  walk_at "rd1"
  refine ⟨"list", by simp [tyName, hR.1], by decide, ite2 (fun c => absurd c (by decide)) (fun _ => ?_)⟩
  refine ⟨by decide, fun ep hep => ?_⟩
  have s1 := same_new hep (.lst [])
  have e1 : upd H ep (.lst []) ep = some (.lst []) := upd_same
  have hR1 := hR.mono s1
  generalize upd H ep (.lst []) = H1 at s1 e1 hR1 ⊢
  refine ⟨0, _, by decide, eq_nilR hR1.1 e1 (by
    intro z
    have := congrArg List.length z
    simp at this; rw [this] at hal; simp at hal; omega), ?_⟩
  refine ite2 (fun c => absurd c (by decide)) (fun _ => ?_)
  walk_at "nx"
  refine ⟨⟨_, SqL.of hR1.1⟩, ?_⟩
  refine forW_list (xs := as.map V.ref) (fun i σ H' => ∃ o2 o3 : Option V, σ = [some (.ref p), some (.int (m : Int)), o2, o3] ∧ H1 = H') ⟨none, none, rfl, rfl⟩ (fun i σ H' _ h => by obtain ⟨_, _, _, rfl⟩ := h; exact SqL.of hR1.1) ?_ ?_
  · rintro i v σ H' hv ⟨o2, o3, rfl, rfl⟩
    have hi : i < as.length := by have := (List.getElem?_eq_some_iff.mp hv).1; simpa using this
    have hir : i < R.length := by omega
    rw [List.getElem?_map, List.getElem?_eq_getElem hi] at hv
    cases hv
    have hbi := hR1.2.2 i as[i] _ (List.getElem?_eq_getElem hi) (List.getElem?_eq_getElem hir)
    have hxl := ok.row _ (List.getElem_mem hir)
    generalize R[i] = x at hbi hxl
    generalize as[i] = bb at hbi
    walk_at "rd1"
    refine ⟨"list", by simp [tyName, hbi], by decide, ite2 (fun c => absurd c (by decide)) (fun _ => ?_)⟩
    refine ⟨_, .inl (SqL.of hbi), ?_⟩
    rw [List.length_map, hxl]
    refine ite2 (fun c => absurd c (by simp)) (fun _ => ?_)
    walk_at "nx"
    refine ⟨⟨_, SqL.of hbi⟩, ?_⟩
    refine forW_list (xs := x.map wayV) (fun j σ H' => ∃ o3 : Option V, σ = [some (.ref p), some (.int (m : Int)), some (.ref bb), o3] ∧ H1 = H') ⟨_, rfl, rfl⟩ (fun j σ H' _ h => by obtain ⟨_, _, rfl⟩ := h; exact SqL.of hbi) ?_ ?_
    · rintro j v σ H' hv ⟨o3, rfl, rfl⟩
      obtain ⟨o, _, rfl⟩ := List.mem_map.mp (List.mem_of_getElem? hv)
      cases o with
      | none =>
        walk_at "rd1"
        refine ite2 (fun c => absurd c (by decide)) (fun _ => ?_)
        exact ⟨_, rfl⟩
      | some k =>
        rw [show wayV (some k) = V.int (k : Int) from rfl]
        walk_at "rd1"
        refine ite2 (fun _ => ?_) (fun c => absurd rfl c)
        refine ⟨"int", rfl, by decide, ite2 (fun c => absurd c (by decide)) (fun _ => ?_)⟩
        refine ⟨"int", rfl, by decide, ite2 (fun c => absurd c (by decide)) (fun _ => ?_)⟩
        exact ⟨_, rfl⟩
    · rintro σ H' ⟨o3, rfl, rfl⟩
      exact ⟨_, _, rfl, rfl⟩
  · rintro σ H' ⟨o2, o3, rfl, rfl⟩
    walk_at "nx"
    exact q _ s1
/-- what laid_rules tells, as the law looks at it -/
structure Tld (H : Hp) (p : Addr) (sd : Int) (ts : List Str) (R B : List (List (Option Nat))) (q wt pr pb : Addr) (as bs : List Addr) : Prop where
  hp : H p = some (.tup [.ref q, .ref pb])
  hq : H q = some (.tup [.int sd, .ref wt, .ref pr])
  hw : H wt = some (.lst (ts.map V.str))
  hr : RoomsAs H pr R as
  hb : RoomsAs H pb B bs
theorem Tld.mono {H H' : Hp} {p : Addr} {sd : Int} {ts : List Str} {R B : List (List (Option Nat))} {q wt pr pb : Addr} {as bs : List Addr} (h : Tld H p sd ts R B q wt pr pb as bs) (sm : Same H H') : Tld H' p sd ts R B q wt pr pb as bs := ⟨sm _ _ h.hp, sm _ _ h.hq, sm _ _ h.hw, h.hr.mono sm, h.hb.mono sm⟩
def spTold : Sp := fun vs H Q _ => ∃ (p wp dp dr db q wt pr pb : Addr) (sd : Int) (ts : List Str) (R B : List (List (Option Nat))) (as bs cs ds : List Addr), vs = [.ref p, .int sd, .ref wp, .ref dp] ∧ Tld H p sd ts R B q wt pr pb as bs ∧ H wp = some (.lst (ts.map V.str)) ∧ H dp = some (.tup [.ref dr, .ref db]) ∧ RoomsAs H dr R cs ∧ RoomsAs H db B ds ∧ TbOk R ts.length ∧ TbOk B ts.length ∧ ∀ H', Same H H' → Q (.bl true) H'
theorem ok_told (D : DefAt K mg "_law_told" s_law_told) (z_isinstance : mg "isinstance" = none) (z_tuple : mg "tuple" = none) (z_len : mg "len" = none) (z_list : mg "list" = none) (z_int : mg "int" = none) (c_law_is_table : Cal P w K mg base 1 "_law_is_table" ["_law_found", "_law_words_here"] spTable) : Cal P w K mg base 2 "_law_told" ["_law_found", "_law_sides", "_law_words_here", "_law_due_here"] spTold := by
  refine D.cal sc_law_told (fun _ _ _ _ _ _ us hl => match us, hl with | [_, _, _, _], _ => rfl) (fun vs H Q E h => by obtain ⟨_, _, _, _, _, _, _, _, _, _, _, _, _, _, _, _, _, rfl, _⟩ := h; rfl) (fun f cdv A outer s H vs Q E hr h => ?_)
  obtain ⟨p, wp, dp, dr, db, q, wt, pr, pb, sd, ts, R, B, as, bs, cs, ds, rfl, hT, hwp, hdp, hdr, hdb, okR, okB, fin⟩ := h
  obtain ⟨hp, hq, hw, hR, hB⟩ := id hT
  refine ⟨_, (pss_cons (ps_if (PW.pt' (pw_or (pt_not (pt_val (pe_blt call_isT z_isinstance bt_isinstance (pa_cons (pv 0 (hv := v_law_told__law_found)) (pa_cons (pe_gty z_tuple bt_tuple (hg := gl_law_told_tuple)) pa_nil)) (hg := gl_law_told_isinstance)))) (pw_or (pt_cmpR op_neA (pe_blt (call_lenK K) z_len bt_len (pa_cons (pv 0 (hv := v_law_told__law_found)) pa_nil) (hg := gl_law_told_len)) pe_int (nomark _)) (pw_or (pt_not (pt_val (pe_blt call_isT z_isinstance bt_isinstance (pa_cons (pe_ix (ix_K K) (pv 0 (hv := v_law_told__law_found)) pe_int (fun _ _ => rfl)) (pa_cons (pe_gty z_tuple bt_tuple (hg := gl_law_told_tuple)) pa_nil)) (hg := gl_law_told_isinstance)))) (pw_or1 (pt_cmpR op_neA (pe_blt (call_lenK K) z_len bt_len (pa_cons (pe_ix (ix_K K) (pv 0 (hv := v_law_told__law_found)) pe_int (fun _ _ => rfl)) pa_nil) (hg := gl_law_told_len)) pe_int (nomark _))))))) (pss_one (ps_ret pe_bl)) pss_nil)
      (pss_cons (ps_asg (pv 0 (hv := v_law_told__law_found)) (pg_tupK K (n := 2) (pgs_cons (pg_let 4 sc_law_told.nd (hx := l_law_told__law_rule)) (pgs_cons (pg_let 5 sc_law_told.nd (hx := l_law_told__law_blames)) pgs_nil))))
      (pss_cons (ps_if (PW.pt' (pw_or (pt_not (pt_val (pe_blt call_isT z_isinstance bt_isinstance (pa_cons (pe_ix (ix_K K) (pv 4 (hv := v_law_told__law_rule)) pe_int (fun _ _ => rfl)) (pa_cons (pe_gty z_int bt_int (hg := gl_law_told_int)) pa_nil)) (hg := gl_law_told_isinstance)))) (pw_or (pt_cmpR op_isB (pe_ix (ix_K K) (pv 4 (hv := v_law_told__law_rule)) pe_int (fun _ _ => rfl)) pe_bl (nomark _)) (pw_or1 (pt_cmpR op_neA (pe_ix (ix_K K) (pv 4 (hv := v_law_told__law_rule)) pe_int (fun _ _ => rfl)) (pv 1 (hv := v_law_told__law_sides)) (nomark _)))))) (pss_one (ps_ret pe_bl)) pss_nil)
      (pss_cons (ps_if (PW.pt' (pw_or (pt_not (pt_val (pe_blt call_isT z_isinstance bt_isinstance (pa_cons (pe_ix (ix_K K) (pv 4 (hv := v_law_told__law_rule)) pe_int (fun _ _ => rfl)) (pa_cons (pe_gty z_list bt_list (hg := gl_law_told_list)) pa_nil)) (hg := gl_law_told_isinstance)))) (pw_or1 (pt_cmpR (op_neKD K hr) (pe_ix (ix_K K) (pv 4 (hv := v_law_told__law_rule)) pe_int (fun _ _ => rfl)) (pv 2 (hv := v_law_told__law_words_here)) (nomark _))))) (pss_one (ps_ret pe_bl)) pss_nil)
      (pss_cons (ps_if (PW.pt' (pw_or (pt_not (pt_val (pe_cal c_law_is_table hr (pa_cons (pe_ix (ix_K K) (pv 4 (hv := v_law_told__law_rule)) pe_int (fun _ _ => rfl)) (pa_cons (pe_blt (call_lenK K) z_len bt_len (pa_cons (pv 2 (hv := v_law_told__law_words_here)) pa_nil) (hg := gl_law_told_len)) pa_nil)) (hg := gl_law_told__law_is_table)))) (pw_or1 (pt_not (pt_val (pe_cal c_law_is_table hr (pa_cons (pv 5 (hv := v_law_told__law_blames)) (pa_cons (pe_blt (call_lenK K) z_len bt_len (pa_cons (pv 2 (hv := v_law_told__law_words_here)) pa_nil) (hg := gl_law_told_len)) pa_nil)) (hg := gl_law_told__law_is_table))))))) (pss_one (ps_ret pe_bl)) pss_nil)
      (pss_one (ps_ret (pe_and (pe_cmpR (op_eqKD K hr) (pe_ix (ix_K K) (pv 4 (hv := v_law_told__law_rule)) pe_int (fun _ _ => rfl)) (pe_ix (ix_K K) (pv 3 (hv := v_law_told__law_due_here)) pe_int (fun _ _ => rfl)) (nomark _)) (pe_one (pe_cmpR (op_eqKD K hr) (pv 5 (hv := v_law_told__law_blames)) (pe_ix (ix_K K) (pv 3 (hv := v_law_told__law_due_here)) pe_int (fun _ _ => rfl)) (nomark _))))))))))), ?_⟩
  walk_at "rd1"
  refine ⟨"tuple", by simp [tyName, hp], by decide, ite2 (fun c => absurd c (by decide)) (fun _ => ?_)⟩
  refine ⟨_, .inr (SqT.of hp), ite2 (fun c => absurd c (by simp)) (fun _ => ?_)⟩
  refine ⟨_, _, .inr (SqT.of hp), at0, ?_⟩
  walk_at "rd1"
  refine ⟨"tuple", by simp [tyName, hq], by decide, ite2 (fun c => absurd c (by decide)) (fun _ => ?_)⟩
  refine ⟨_, _, .inr (SqT.of hp), at0, ?_⟩
  walk_at "rd1"
  refine ⟨_, .inr (SqT.of hq), ite2 (fun c => absurd c (by simp)) (fun _ => ?_)⟩
  walk_at "nx"
  refine ⟨p, _, rfl, SqT.of hp, rfl, ?_⟩
  walk_at "rd1"
  walk_at "nx"
  refine ⟨_, _, .inr (SqT.of hq), at0, ?_⟩
  refine ⟨"int", rfl, by decide, ite2 (fun c => absurd c (by decide)) (fun _ => ?_)⟩
  refine ⟨_, _, .inr (SqT.of hq), at0, ?_⟩
  walk_at "rd1"
  refine ⟨rfl, ite2 (fun c => absurd c (by simp)) (fun _ => ?_)⟩
  refine ⟨_, _, .inr (SqT.of hq), at0, ?_⟩
  walk_at "rd1"
  refine ite2 (fun c => absurd c (by simp)) (fun _ => ?_)
  walk_at "nx"
  refine ⟨_, _, .inr (SqT.of hq), atI_nat (j := 1) rfl, ?_⟩
  refine ⟨"list", by simp [tyName, hw], by decide, ite2 (fun c => absurd c (by decide)) (fun _ => ?_)⟩
  refine ⟨_, _, .inr (SqT.of hq), atI_nat (j := 1) rfl, ?_⟩
  walk_at "rd1"
  refine ⟨0, _, by decide, EqN.strs (SqL.of hw) (SqL.of hwp), ?_⟩
  refine ite2 (fun c => absurd c (by simp)) (fun _ => ?_)
  walk_at "nx"
  refine ⟨_, _, .inr (SqT.of hq), atI_nat (j := 2) rfl, ?_⟩
  walk_at "rd1"
  refine ⟨_, .inl (SqL.of hwp), ?_⟩
  rw [List.length_map]
  refine ⟨pr, R, as, ts.length, rfl, hR, okR, fun H1 s1 => ⟨_, rfl, ite2 (fun c => absurd c (by decide)) (fun _ => ?_)⟩⟩
  refine ⟨_, .inl (SqL.of (s1 _ _ hwp)), ?_⟩
  rw [List.length_map]
  refine ⟨pb, B, bs, ts.length, rfl, hB.mono s1, okB, fun H2 s2 => ⟨_, rfl, ite2 (fun c => absurd c (by decide)) (fun _ => ?_)⟩⟩
  have s12 := s1.trans s2
  walk_at "nx"
  refine ⟨_, _, .inr (SqT.of (s12 _ _ hq)), atI_nat (j := 2) rfl, ?_⟩
  refine ⟨_, _, .inr (SqT.of (s12 _ _ hdp)), at0, ?_⟩
  walk_at "rd1"
  refine ⟨1, _, by decide, rooms_eq (hR.mono s12) (hdr.mono s12), ?_⟩
  refine ite2 (fun _ => ?_) (fun c => absurd rfl c)
  refine ⟨_, _, .inr (SqT.of (s12 _ _ hdp)), atI_nat (j := 1) rfl, ?_⟩
  walk_at "rd1"
  exact ⟨1, _, by decide, rooms_eq (hB.mono s12) (hdb.mono s12), fin _ s12⟩
end
section
variable {P : Program} {w : World} {K : PySem.W.Frag} {mg : Str → Option Value} {base : Heap}
theorem NmdAt.list {H : Hp} {l : Addr} {nms : List Str} {rs : List Rl} (h : NmdAt H l nms rs) : ∃ qs, ListAs H l (nms.zip rs) qs := by
  obtain ⟨qs, ps, h1, h2, h3, h4, h5, h6⟩ := h
  refine ⟨qs, h1, by rw [List.length_zip]; omega, fun i t n e1 e2 => ?_⟩
  have hi : i < qs.length := (List.getElem?_eq_some_iff.mp e1).1
  have hn : (nms.zip rs)[i]? = some (nms[i]'(by omega), rs[i]'(by omega)) := by
    rw [List.getElem?_eq_getElem (by rw [List.length_zip]; omega), List.getElem_zip]
  rw [hn] at e2
  cases e2
  exact ⟨ps[i]'(by omega), h5 i t _ _ e1 (List.getElem?_eq_getElem _) (List.getElem?_eq_getElem _), h6 i _ _ (List.getElem?_eq_getElem _) (List.getElem?_eq_getElem _)⟩
theorem FamAt.nmd {H0 H : Hp} {l : Addr} {cs : List Rc} {ns : List (Str × Rl)} (h : FamAt H0 H l cs ns) : NmdAt H l (ns.map (·.1)) (ns.map (·.2)) := by
  refine ⟨cs.map (·.t), cs.map (·.b), by rw [h.at', List.map_map]; rfl, by simp [h.len], by simp [h.len], by simp, fun i q n p e1 e2 e3 => ?_, fun i p r e1 e2 => ?_⟩
  · rw [List.getElem?_map] at e1 e2 e3
    cases hc : cs[i]? with
    | none => rw [hc] at e1; cases e1
    | some c =>
      cases hn : ns[i]? with
      | none => rw [hn] at e2; cases e2
      | some m =>
        rw [hc] at e1 e3; rw [hn] at e2
        cases e1; cases e2; cases e3
        exact (h.rc i c m hc hn).1
  · rw [List.getElem?_map] at e1 e2
    cases hc : cs[i]? with
    | none => rw [hc] at e1; cases e1
    | some c =>
      cases hn : ns[i]? with
      | none => rw [hn] at e2; cases e2
      | some m =>
        rw [hc] at e1; rw [hn] at e2
        cases e1; cases e2
        have z := h.rc i c m hc hn
        exact ⟨c.pw, c.pr, c.as, z.2.1, z.2.2.1, z.2.2.2⟩
theorem ord_fix {rs : List Rl} {us : List Str} {M : Nat} (h : M = (ordO rs us M).length) : ∀ k, ordO rs us (M + k) = ordO rs us M
  | 0 => rfl
  | k + 1 => by
    have ih := ord_fix h k
    show (if M + k < (ordO rs us (M + k)).length then _ else ordO rs us (M + k)) = _
    rw [if_neg (by rw [ih]; omega), ih]
theorem ord_stop {rs : List Rl} {us : List Str} {M N : Nat} (h : M = (ordO rs us M).length) (h' : N = (ordO rs us N).length) : M = N := by
  rcases Nat.le_total M N with z | z
  · have := ord_fix h (N - M)
    rw [Nat.add_sub_cancel' z] at this
    rw [h', this]; exact h
  · have := ord_fix h' (M - N)
    rw [Nat.add_sub_cancel' z] at this
    rw [h, this]; exact h'.symm
theorem tb_row {rs : List Rl} {us : List Str} {M : Nat} (ok : ∀ r ∈ rs, RlOk r) (h : M = (ordO rs us M).length) (h60 : M ≤ 60) (hu : us.length ≤ 60) : TbOk ((List.range M).map (rowO rs us)) us.length := by
  have := (ordO_facts ok us M).2.2
  refine ⟨by simp; omega, by simp; omega, hu, fun x hx => ?_⟩
  obtain ⟨r, _, rfl⟩ := List.mem_map.mp hx
  unfold rowO behO; simp
theorem tb_blm {rs : List Rl} {us : List Str} {M : Nat} (ok : ∀ r ∈ rs, RlOk r) (h : M = (ordO rs us M).length) (h60 : M ≤ 60) (hu : us.length ≤ 60) : TbOk ((List.range M).map (blmO rs us)) us.length := by
  have := (ordO_facts ok us M).2.2
  refine ⟨by simp; omega, by simp; omega, hu, fun x hx => ?_⟩
  obtain ⟨r, _, rfl⟩ := List.mem_map.mp hx
  unfold blmO behO; simp
/-- what laid_rules told, its lists longer by one from the left -/
structure Grow (H6 G : Hp) (fp q1 wt pr pb : Addr) (sd : Int) (as bs : List Addr) (m i k : Nat) : Prop where
  sm : Same H6 G
  hf : G fp = some (.tup [.ref q1, .ref pb])
  hq : G q1 = some (.tup [.int sd, .ref wt, .ref pr])
  hr : G pr = some (.lst (as.map V.ref))
  hb : G pb = some (.lst (bs.map V.ref))
  ha : ∀ (j : Nat) a, as[j]? = some a → ∃ xs, G a = some (.lst xs) ∧ xs.length = if j < i then m + 1 else m
  hc : ∀ (j : Nat) b, bs[j]? = some b → ∃ xs, G b = some (.lst xs) ∧ xs.length = if j < k then m + 1 else m
theorem nin {a b : Addr} {l : List Addr} (h : ¬ b ∈ l) (m : a ∈ l) : b ≠ a := fun z => h (z ▸ m)
theorem nd_get {l : List Addr} (nd : l.Nodup) {i j : Nat} {a : Addr} (h1 : l[i]? = some a) (h2 : l[j]? = some a) : i = j := by
  obtain ⟨x1, e1⟩ := List.getElem?_eq_some_iff.mp h1
  obtain ⟨x2, e2⟩ := List.getElem?_eq_some_iff.mp h2
  exact (List.getElem_inj nd).mp (e1.trans e2.symm)
theorem Grow.putA {H6 G : Hp} {fp q1 wt pr pb a : Addr} {sd : Int} {as bs : List Addr} {m i k : Nat} {xs : List V} {v : V} (h : Grow H6 G fp q1 wt pr pb sd as bs m i k) (nd : (wt :: pr :: pb :: (as ++ bs)).Nodup) (new : ∀ a ∈ wt :: pr :: pb :: (as ++ bs), H6 a = none) (ha : as[i]? = some a) (hx : G a = some (.lst xs)) (hl : xs.length = m) : Grow H6 (upd G a (.lst (xs ++ [v]))) fp q1 wt pr pb sd as bs m (i + 1) k := by
  have hm : a ∈ as := List.mem_of_getElem? ha
  have hx' := nd
  simp only [List.nodup_cons, List.mem_cons, List.mem_append, not_or] at hx'
  obtain ⟨⟨_, _, w1, w2⟩, ⟨_, r1, r2⟩, ⟨b1, b2⟩, nab⟩ := hx'
  obtain ⟨na, nb, nab'⟩ := List.nodup_append.mp nab
  have tp : ∀ {b : Addr} {ys : List V}, G b = some (.tup ys) → b ≠ a := fun {b ys} e z => by rw [z, hx] at e; cases e
  refine ⟨h.sm.upd (new a (by simp [hm])) _, by rw [upd_ne (tp h.hf)]; exact h.hf, by rw [upd_ne (tp h.hq)]; exact h.hq, by rw [upd_ne (nin r1 hm)]; exact h.hr, by rw [upd_ne (nin b1 hm)]; exact h.hb, fun j a' e => ?_, fun j b e => ?_⟩
  · by_cases c : a' = a
    · subst c
      have := nd_get na ha e
      subst this
      exact ⟨_, upd_same, by rw [if_pos (Nat.lt_succ_self _)]; simp [hl]⟩
    · obtain ⟨ys, e1, e2⟩ := h.ha j a' e
      refine ⟨ys, by rw [upd_ne c]; exact e1, e2.trans ?_⟩
      have : j ≠ i := fun z => by subst z; rw [ha] at e; cases e; exact c rfl
      by_cases d : j < i
      · rw [if_pos d, if_pos (by omega)]
      · rw [if_neg d, if_neg (by omega)]
  · obtain ⟨ys, e1, e2⟩ := h.hc j b e
    exact ⟨ys, by rw [upd_ne (Ne.symm (nab' a hm b (List.mem_of_getElem? e)))]; exact e1, e2⟩
theorem Grow.putB {H6 G : Hp} {fp q1 wt pr pb a : Addr} {sd : Int} {as bs : List Addr} {m i k : Nat} {xs : List V} {v : V} (h : Grow H6 G fp q1 wt pr pb sd as bs m i k) (nd : (wt :: pr :: pb :: (as ++ bs)).Nodup) (new : ∀ a ∈ wt :: pr :: pb :: (as ++ bs), H6 a = none) (ha : bs[k]? = some a) (hx : G a = some (.lst xs)) (hl : xs.length = m) : Grow H6 (upd G a (.lst (xs ++ [v]))) fp q1 wt pr pb sd as bs m i (k + 1) := by
  have hm : a ∈ bs := List.mem_of_getElem? ha
  have hx' := nd
  simp only [List.nodup_cons, List.mem_cons, List.mem_append, not_or] at hx'
  obtain ⟨⟨_, _, w1, w2⟩, ⟨_, r1, r2⟩, ⟨b1, b2⟩, nab⟩ := hx'
  obtain ⟨na, nb, nab'⟩ := List.nodup_append.mp nab
  have tp : ∀ {b : Addr} {ys : List V}, G b = some (.tup ys) → b ≠ a := fun {b ys} e z => by rw [z, hx] at e; cases e
  refine ⟨h.sm.upd (new a (by simp [hm])) _, by rw [upd_ne (tp h.hf)]; exact h.hf, by rw [upd_ne (tp h.hq)]; exact h.hq, by rw [upd_ne (nin r2 hm)]; exact h.hr, by rw [upd_ne (nin b2 hm)]; exact h.hb, fun j b e => ?_, fun j a' e => ?_⟩
  · obtain ⟨ys, e1, e2⟩ := h.ha j b e
    exact ⟨ys, by rw [upd_ne (nab' b (List.mem_of_getElem? e) a hm)]; exact e1, e2⟩
  · by_cases c : a' = a
    · subst c
      have := nd_get nb ha e
      subst this
      exact ⟨_, upd_same, by rw [if_pos (Nat.lt_succ_self _)]; simp [hl]⟩
    · obtain ⟨ys, e1, e2⟩ := h.hc j a' e
      refine ⟨ys, by rw [upd_ne c]; exact e1, e2.trans ?_⟩
      have : j ≠ k := fun z => by subst z; rw [ha] at e; cases e; exact c rfl
      by_cases d : j < k
      · rw [if_pos d, if_pos (by omega)]
      · rw [if_neg d, if_neg (by omega)]
theorem Tld.upd {H : Hp} {p : Addr} {sd : Int} {ts : List Str} {R B : List (List (Option Nat))} {q wt pr pb : Addr} {as bs : List Addr} (h : Tld H p sd ts R B q wt pr pb as bs) {H0 : Hp} (new : ∀ a ∈ wt :: pr :: pb :: (as ++ bs), H0 a = none) {a : Addr} {o : HO} {xs : List V} (ha : H0 a ≠ none) (hx : H a = some (.lst xs)) : Tld (L2.upd H a o) p sd ts R B q wt pr pb as bs := by
  have tp : ∀ {b : Addr} {ys : List V}, H b = some (.tup ys) → b ≠ a := fun {b ys} e z => by rw [z, hx] at e; cases e
  have nm : ∀ {b : Addr}, b ∈ wt :: pr :: pb :: (as ++ bs) → b ≠ a := fun {b} hb z => ha (z ▸ new b hb)
  exact ⟨by rw [upd_ne (tp h.hp)]; exact h.hp, by rw [upd_ne (tp h.hq)]; exact h.hq, by rw [upd_ne (nm (by simp))]; exact h.hw, h.hr.other (nm (by simp)) (fun z => nm (b := a) (by simp [z]) rfl), h.hb.other (nm (by simp)) (fun z => nm (b := a) (by simp [z]) rfl)⟩
theorem rep_one {α : Type} (x : α) : ∀ n : Nat, (List.replicate n [x]).flatten = List.replicate n x
  | 0 => rfl
  | n + 1 => by rw [List.replicate_succ, List.flatten_cons, rep_one x n, List.replicate_succ]; rfl
theorem ok_law {f : Addr} {fd : FuncData} (F : Fun K "law" "law" s_law f fd) (z_sorted : mg "sorted" = none) (z_set : mg "set" = none) (z_len : mg "len" = none) (c_law_rules : Cal P w K mg base 3 "_law_rules" ["_law_script"] (spRulesL K)) (c_law_due : Cal P w K mg base 2 "_law_due" ["_law_rules_here", "_law_words_here"] (spDue P w)) (c_law_copy : Cal P w K mg base 1 "_law_copy" ["_law_rules_here"] spCopies) (c_laid_rules : Cal P w K mg base 3 "laid_rules" ["rules"] (spLaid P w)) (c_law_told : Cal P w K mg base 2 "_law_told" ["_law_found", "_law_sides", "_law_words_here", "_law_due_here"] spTold) : FnOk P w K mg base CX0 4 f fd ["_law_script"] (spLaw K) := by
  refine F.ok sc_law (fun vs H Q E h => by obtain ⟨a, ns, rfl, _⟩ := h; rfl) (fun cdv A outer s H vs Q E hr h => ?_)
  obtain ⟨a, ns, rfl, hS, h63, q⟩ := h
  refine ⟨_, (pss_cons (ps_let 1 sc_law.nd (pe_cal c_law_rules hr (pa_cons (pv 0 (hv := v_law__law_script)) pa_nil) (hg := gl_law__law_rules)) (hx := l_law__law_rules_here))
      (pss_cons (ps_let 2 sc_law.nd (pe_lst pa_nil) (hx := l_law__law_every))
      (pss_cons (ps_for PassesOwn.never rfl (pi_listK K (pv 1 (hv := v_law__law_rules_here))) (pg_tupK K (n := 2) (pgs_cons (pg_let 3 sc_law.nd (hx := l_law__law_name)) (pgs_cons (pg_let 4 sc_law.nd (hx := l_law__law_rule)) pgs_nil))) (pss_one (ps_let 2 sc_law.nd (pe_op op_addA (pv 2 (hv := v_law__law_every)) (pe_ix (ix_K K) (pv 4 (hv := v_law__law_rule)) pe_int (fun _ _ => rfl))) (hx := l_law__law_every))))
      (pss_cons (ps_let 5 sc_law.nd (pe_blt (call_sortSetTW w hr) z_sorted bt_sorted (pa_cons (pe_bty (call_setTTW K w hr) z_set bt_set (pa_cons (pv 2 (hv := v_law__law_every)) pa_nil) (hg := gl_law_set)) pa_nil) (hg := gl_law_sorted)) (hx := l_law__law_words_here))
      (pss_cons (ps_let 6 sc_law.nd (pe_cal c_law_due hr (pa_cons (pv 1 (hv := v_law__law_rules_here)) (pa_cons (pv 5 (hv := v_law__law_words_here)) pa_nil)) (hg := gl_law__law_due)) (hx := l_law__law_due_here))
      (pss_cons (ps_let 7 sc_law.nd (pe_cal c_law_copy hr (pa_cons (pv 1 (hv := v_law__law_rules_here)) pa_nil) (hg := gl_law__law_copy)) (hx := l_law__law_handed))
      (pss_cons (ps_let 8 sc_law.nd (pe_cal c_laid_rules hr (pa_cons (pv 7 (hv := v_law__law_handed)) pa_nil) (hg := gl_law_laid_rules)) (hx := l_law__law_found))
      (pss_cons (ps_if (PW.pt' (pw_or (pt_not (pt_val (pe_cal c_law_told hr (pa_cons (pv 8 (hv := v_law__law_found)) (pa_cons (pe_ix (ix_K K) (pe_ix (ix_K K) (pe_ix (ix_K K) (pv 1 (hv := v_law__law_rules_here)) pe_int (fun _ _ => rfl)) pe_int (fun _ _ => rfl)) pe_int (fun _ _ => rfl)) (pa_cons (pv 5 (hv := v_law__law_words_here)) (pa_cons (pv 6 (hv := v_law__law_due_here)) pa_nil)))) (hg := gl_law__law_told)))) (pw_or1 (pt_cmpR (op_neKD K hr) (pv 7 (hv := v_law__law_handed)) (pv 1 (hv := v_law__law_rules_here)) (nomark _))))) (pss_one (ps_ret pe_bl)) pss_nil)
      (pss_cons (ps_expr (pe_bmK K PySem.F.plainAttrs_list PySem.F.slot_list_append PySem.F.type_list_append mt_appendA (pe_ix (ix_K K) (pe_ix (ix_K K) (pv 8 (hv := v_law__law_found)) pe_int (fun _ _ => rfl)) pe_int (fun _ _ => rfl)) (pa_cons pe_str pa_nil)))
      (pss_cons (ps_for PassesOwn.never rfl (pi_listK K (pe_ix (ix_K K) (pe_ix (ix_K K) (pv 8 (hv := v_law__law_found)) pe_int (fun _ _ => rfl)) pe_int (fun _ _ => rfl))) (pg_let 9 sc_law.nd (hx := l_law__law_room)) (pss_one (ps_expr (pe_bmK K PySem.F.plainAttrs_list PySem.F.slot_list_append PySem.F.type_list_append mt_appendA (pv 9 (hv := v_law__law_room)) (pa_cons pe_int pa_nil)))))
      (pss_cons (ps_for PassesOwn.never rfl (pi_listK K (pe_ix (ix_K K) (pv 8 (hv := v_law__law_found)) pe_int (fun _ _ => rfl))) (pg_let 10 sc_law.nd (hx := l_law__law_blame)) (pss_one (ps_expr (pe_bmK K PySem.F.plainAttrs_list PySem.F.slot_list_append PySem.F.type_list_append mt_appendA (pv 10 (hv := v_law__law_blame)) (pa_cons pe_int pa_nil)))))
      (pss_cons (ps_setcomp (CompSc.to (fsc := (defScope s_law)) (N := ["_law_script", "_law_rules_here", "_law_every", "_law_name", "_law_rule", "_law_words_here", "_law_due_here", "_law_handed", "_law_found", "_law_room", "_law_blame", "_law_sizes", "_law_again"]) (N0 := ["_law_script", "_law_rules_here", "_law_every", "_law_name", "_law_rule", "_law_words_here", "_law_due_here", "_law_handed", "_law_found", "_law_room", "_law_blame", "_law_sizes", "_law_again"]) (T := ["_law_row"]) ⟨by decide +kernel, by decide +kernel, by decide +kernel, by decide +kernel, by decide +kernel, by decide +kernel, by decide +kernel⟩ rfl rfl) rfl sc_law.nd (i := 11) rfl k_law__law_sizes (pi_listK K (pe_op op_addA (pe_ix (ix_K K) (pe_ix (ix_K K) (pv 8 (hv := v_law__law_found)) pe_int (fun _ _ => rfl)) pe_int (fun _ _ => rfl)) (pe_ix (ix_K K) (pv 8 (hv := v_law__law_found)) pe_int (fun _ _ => rfl)))) (fun _ _ _ _ => (pg_let 13 (show (["_law_script", "_law_rules_here", "_law_every", "_law_name", "_law_rule", "_law_words_here", "_law_due_here", "_law_handed", "_law_found", "_law_room", "_law_blame", "_law_sizes", "_law_again", "_law_row"] : List Str).Nodup from by decide +kernel) (hx := (locC (defScope s_law) (by decide +kernel))) (hf := fnC (defScope s_law) (by decide +kernel)))) (gfr_name (show (["_law_script", "_law_rules_here", "_law_every", "_law_name", "_law_rule", "_law_words_here", "_law_due_here", "_law_handed", "_law_found", "_law_room", "_law_blame", "_law_sizes", "_law_again"] : List Str).length ≤ 13 from by decide)) (fun _ _ _ _ => pifs_nil) (fun _ _ _ _ => (pe_blt (call_lenK K) z_len bt_len (pa_cons (pv 13 (hv := (visC (defScope s_law) (by decide +kernel)))) pa_nil) (hg := (glC (defScope s_law) (by decide +kernel))))))
      (pss_cons (ps_if (PW.pt' (pw_or (pt_cmpR (op_neKD K hr) (pv 11 (hv := v_law__law_sizes)) (pe_op op_rep (pe_lst (pa_cons (pe_op op_addA (pe_blt (call_lenK K) z_len bt_len (pa_cons (pv 5 (hv := v_law__law_words_here)) pa_nil) (hg := gl_law_len)) pe_int) pa_nil)) (pe_blt (call_lenK K) z_len bt_len (pa_cons (pv 11 (hv := v_law__law_sizes)) pa_nil) (hg := gl_law_len))) (nomark _)) (pw_or1 (pt_cmpR (op_neKD K hr) (pv 7 (hv := v_law__law_handed)) (pv 1 (hv := v_law__law_rules_here)) (nomark _))))) (pss_one (ps_ret pe_bl)) pss_nil)
      (pss_cons (ps_let 12 sc_law.nd (pe_cal c_laid_rules hr (pa_cons (pv 7 (hv := v_law__law_handed)) pa_nil) (hg := gl_law_laid_rules)) (hx := l_law__law_again))
      (pss_cons (ps_for PassesOwn.never rfl (pi_listK K (pv 7 (hv := v_law__law_handed))) (pg_tupK K (n := 2) (pgs_cons (pg_let 3 sc_law.nd (hx := l_law__law_name)) (pgs_cons (pg_let 4 sc_law.nd (hx := l_law__law_rule)) pgs_nil))) (pss_cons (ps_expr (pe_bmK K PySem.F.plainAttrs_list PySem.F.slot_list_append PySem.F.type_list_append mt_appendA (pe_ix (ix_K K) (pv 4 (hv := v_law__law_rule)) pe_int (fun _ _ => rfl)) (pa_cons pe_str pa_nil)))
      (pss_one (ps_expr (pe_bmK K PySem.F.plainAttrs_list PySem.F.slot_list_append PySem.F.type_list_append mt_appendA (pe_ix (ix_K K) (pe_ix (ix_K K) (pv 4 (hv := v_law__law_rule)) pe_int (fun _ _ => rfl)) pe_int (fun _ _ => rfl)) (pa_cons pe_int pa_nil))))))
      (pss_cons (ps_expr (pe_bm0K K PySem.F.plainAttrs_list PySem.F.slot_list_clear PySem.F.type_list_clear mt_clearA (pv 7 (hv := v_law__law_handed))))
      (pss_one (ps_ret (pe_cal c_law_told hr (pa_cons (pv 12 (hv := v_law__law_again)) (pa_cons (pe_ix (ix_K K) (pe_ix (ix_K K) (pe_ix (ix_K K) (pv 1 (hv := v_law__law_rules_here)) pe_int (fun _ _ => rfl)) pe_int (fun _ _ => rfl)) pe_int (fun _ _ => rfl)) (pa_cons (pv 5 (hv := v_law__law_words_here)) (pa_cons (pv 6 (hv := v_law__law_due_here)) pa_nil)))) (hg := gl_law__law_told)))))))))))))))))))), ?_⟩
  walk_at "rd1"
  refine ⟨a, ns, rfl, hS, h63, fun l H1 nms rs sd s1 hN ok => ?_⟩
  have n1 := ok.n1
  have n8 := ok.n8
  have h60 := ok.fl
  obtain ⟨qs, ps, h1, h2, h3, h4, h5, h6⟩ := id hN
  walk_at "nx"
  refine ⟨by decide, fun ep hep => ?_⟩
  have s2 := same_new hep (.lst [])
  have e2 : upd H1 ep (.lst []) ep = some (.lst ((([] : List Rl).flatMap (·.ws)).map V.str)) := upd_same
  generalize upd H1 ep (.lst []) = H2 at s2 e2 ⊢
  walk_at "nx"
  refine ⟨⟨_, SqL.of (s2 _ _ h1)⟩, ?_⟩
  refine forW_list (xs := qs.map V.ref) (fun i σ H' => ∃ (o3 o4 : Option V) (ep : Addr), σ = [some (.ref a), some (.ref l), some (.ref ep), o3, o4, none, none, none, none, none, none, none, none] ∧ Same H1 H' ∧ H' ep = some (.lst (((rs.take i).flatMap (·.ws)).map V.str))) ⟨none, none, ep, rfl, s2, e2⟩ (fun i σ H' _ h => by obtain ⟨_, _, _, _, sm, _⟩ := h; exact SqL.of (sm _ _ h1)) ?_ ?_
  · rintro i v σ H' hv ⟨o3, o4, ep, rfl, sm, hw⟩
    have hi : i < qs.length := by have := (List.getElem?_eq_some_iff.mp hv).1; simpa using this
    have hi' : i < rs.length := by omega
    rw [List.getElem?_map, List.getElem?_eq_getElem hi] at hv
    cases hv
    have hq := sm _ _ (h5 i qs[i] (nms[i]'(by omega)) (ps[i]'(by omega)) (List.getElem?_eq_getElem hi) (List.getElem?_eq_getElem _) (List.getElem?_eq_getElem _))
    obtain ⟨pw, pr, as, r1, r2, r3⟩ := (h6 i (ps[i]'(by omega)) rs[i] (List.getElem?_eq_getElem _) (List.getElem?_eq_getElem hi')).mono sm
    have hle : ((rs.take i).flatMap (·.ws)).length ≤ 60 := by
      refine Nat.le_trans ?_ h60
      conv => rhs; rw [← List.take_append_drop i rs, List.flatMap_append, List.length_append]
      omega
    have hle1 : (rs[i].ws).length ≤ 60 := by
      refine Nat.le_trans ?_ h60
      have : rs = rs.take i ++ rs[i] :: rs.drop (i + 1) := by rw [← List.drop_eq_getElem_cons hi', List.take_append_drop]
      conv => rhs; rw [this, List.flatMap_append, List.flatMap_cons, List.length_append, List.length_append]
      omega
    walk_at "rd1"
    refine ⟨qs[i], _, rfl, SqT.of hq, rfl, ?_⟩
    walk_at "rd1"
    refine ⟨_, _, .inr (SqT.of r1), atI_nat (j := 1) rfl, ?_⟩
    walk_at "rd1"
    refine ⟨_, _, hw, r2, by rw [List.length_map, List.length_map]; exact smallL (by omega), fun p hp => ?_⟩
    refine ⟨_, _, p, rfl, sm.trans (same_new hp _), ?_⟩
    rw [upd_same, List.take_add_one, List.getElem?_eq_getElem hi', List.flatMap_append, List.map_append]
    simp
  rintro σ H3 ⟨o3, o4, ep, rfl, s3, hw⟩
  walk_at "nx"
  rw [List.length_map, h2, List.take_length] at hw
  refine ⟨ep, _, rfl, SqL.of hw, h60, fun sp ds hsp hnd hmem hdl => ?_⟩
  refine ⟨sp, ds, rfl, upd_same, by omega, fun t ts ht hprm hso => ?_⟩
  have s4 := (s3.trans (same_new hsp _)).trans (same_new ht (.lst (ts.map V.str)))
  have hWo : WordsOf ts rs := ⟨hprm.nodup_iff.mpr hnd, hso, fun x => by rw [hprm.mem_iff, hmem]⟩
  have ht16 := ok.w16 ts hWo
  have et := upd_same (H := upd H3 sp (setOT w sp ds)) (a := t) (o := HO.lst (ts.map V.str))
  generalize upd (upd H3 sp (setOT w sp ds)) t (.lst (ts.map V.str)) = H4 at s4 et ⊢
  walk_at "nx"
  refine ⟨l, t, nms, rs, ts, rfl, hN.mono s4, n1, n8, fun r hr => (ok.ok r hr).1, ok.pr, et, by omega, fun dp dr db H5 M cs1 cs2 s5 hdp0 hdp hM60 hM hdr hdb => ?_⟩
  have s45 := s4.trans s5
  obtain ⟨qs', hL⟩ := (hN.mono s45).list
  have hzl : (nms.zip rs).length = rs.length := by rw [List.length_zip]; omega
  have hz2 : (nms.zip rs).map (·.2) = rs := List.map_snd_zip (by omega)
  have hok : RsOk (nms.zip rs) := ⟨by omega, fun n hn => ⟨(ok.ok _ (List.of_mem_zip hn).2).1, (ok.ok _ (List.of_mem_zip hn).2).2.1⟩⟩
  walk_at "nx"
  refine ⟨l, nms.zip rs, qs', rfl, hL, hok, fun hp H6 cs s6 hC => ?_⟩
  have hCn := hC.nmd
  rw [hz2] at hCn
  have hlast := fun {G : Hp} (sm : Same H6 G) => (hCn.mono sm)
  walk_at "nx"
  refine ⟨hp, _, rs, sd, rfl, hCn, n1, n8, ok.ok, ok.pr, ok.fl, ok.w16, fun fp H7 s7 hfp0 hTo => ?_⟩
  obtain ⟨q1, wt, pr, pb, ts', t1, t2, t3, t4, t5, t6, M', as, bs, t7, t8, t9, t10, t11, t12⟩ := hTo
  obtain rfl : ts' = ts := sort_uniq t4.1 hWo.1 t4.2.1 hWo.2.1 fun x => by rw [t4.2.2, hWo.2.2]
  obtain rfl : M' = M := ord_stop t8 hM
  have okR : TbOk ((List.range M').map (rowO rs ts')) ts'.length := tb_row (fun r hr => (ok.ok r hr).1) hM hM60 (by omega)
  have okB : TbOk ((List.range M').map (blmO rs ts')) ts'.length := tb_blm (fun r hr => (ok.ok r hr).1) hM hM60 (by omega)
  have hT7 : Tld H7 fp sd ts' ((List.range M').map (rowO rs ts')) ((List.range M').map (blmO rs ts')) q1 wt pr pb as bs := ⟨t1, t2, t3, t9, t10⟩
  have hq0 : qs[0]? = some qs[0] := List.getElem?_eq_getElem (by omega)
  have hp0 : ps[0]? = some ps[0] := List.getElem?_eq_getElem (by omega)
  have hr0 : rs[0]? = some rs[0] := List.getElem?_eq_getElem (by omega)
  have hn0 : nms[0]? = some nms[0] := List.getElem?_eq_getElem (by omega)
  have f1 := h5 0 _ _ _ hq0 hn0 hp0
  obtain ⟨fw, fr, fa, f2, _, _⟩ := h6 0 _ _ hp0 hr0
  have hsd : rs[0].s = sd := (ok.ok _ (List.getElem_mem _)).2.2
  rw [hsd] at f2
  have s17 := (s45.trans s6).trans s7
  walk_at "nx"
  refine ⟨_, _, .inl (SqL.of (s17 _ _ h1)), atI_nat (j := 0) (v := .ref qs[0]) (by rw [List.getElem?_map, hq0]; rfl), ?_⟩
  walk_at "rd1"
  refine ⟨_, _, .inr (SqT.of (s17 _ _ f1)), atI_nat (j := 1) rfl, ?_⟩
  walk_at "rd1"
  refine ⟨_, _, .inr (SqT.of (s17 _ _ f2)), at0, ?_⟩
  have s57 := s6.trans s7
  refine ⟨fp, t, dp, dr, db, q1, wt, pr, pb, sd, ts', _, _, as, bs, cs1, cs2, rfl, hT7, (s5.trans s57) _ _ et, s57 _ _ hdp, hdr.mono s57, hdb.mono s57, okR, okB, fun H8 s8 => ?_⟩
  refine ⟨_, rfl, ite2 (fun c => absurd c (by decide)) (fun _ => ?_)⟩
  have s68 := s7.trans s8
  refine ⟨4, true, by decide, list_eq (hC.mono s68).list (hL.mono (s6.trans s68)), ?_⟩
  refine ite2 (fun c => absurd c (by decide)) (fun _ => ?_)
  have hT8 := hT7.mono s8
  walk_at "nx"
  refine ⟨_, _, .inr (SqT.of hT8.hp), at0, ?_⟩
  walk_at "rd1"
  refine ⟨_, _, .inr (SqT.of hT8.hq), atI_nat (j := 1) rfl, ?_⟩
  walk_at "rd1"
  refine ⟨⟨_, SqL.of hT8.hw⟩, _, hT8.hw, by rw [List.length_map]; exact small' (by omega), ?_⟩
  have hal : as.length = M' := by have := t9.2.1; simpa using this
  have hbl : bs.length = M' := by have := t10.2.1; simpa using this
  have g9 : Grow H6 (upd H8 wt (.lst (ts'.map V.str ++ [.str ""]))) fp q1 wt pr pb sd as bs ts'.length 0 0 := by
    have tp : ∀ {b : Addr} {ys : List V}, H8 b = some (.tup ys) → b ≠ wt := fun {b ys} e z => by rw [z, hT8.hw] at e; cases e
    have hx' := t11
    simp only [List.nodup_cons, List.mem_cons, List.mem_append, not_or] at hx'
    obtain ⟨⟨w0, w0', w1, w2⟩, _⟩ := hx'
    refine ⟨s68.upd t6 _, by rw [upd_ne (tp hT8.hp)]; exact hT8.hp, by rw [upd_ne (tp hT8.hq)]; exact hT8.hq, by rw [upd_ne (Ne.symm w0)]; exact hT8.hr.1, by rw [upd_ne (Ne.symm w0')]; exact hT8.hb.1, fun j a' e => ?_, fun j b e => ?_⟩
    · have hj : j < M' := by have := (List.getElem?_eq_some_iff.mp e).1; omega
      refine ⟨_, by rw [upd_ne (Ne.symm (nin w1 (List.mem_of_getElem? e)))]; exact hT8.hr.2.2 j a' _ e (by rw [List.getElem?_map, List.getElem?_range hj]; rfl), ?_⟩
      rw [if_neg (Nat.not_lt_zero _), List.length_map]
      exact okR.row _ (List.mem_map.mpr ⟨j, List.mem_range.mpr hj, rfl⟩)
    · have hj : j < M' := by have := (List.getElem?_eq_some_iff.mp e).1; omega
      refine ⟨_, by rw [upd_ne (Ne.symm (nin w2 (List.mem_of_getElem? e)))]; exact hT8.hb.2.2 j b _ e (by rw [List.getElem?_map, List.getElem?_range hj]; rfl), ?_⟩
      rw [if_neg (Nat.not_lt_zero _), List.length_map]
      exact okB.row _ (List.mem_map.mpr ⟨j, List.mem_range.mpr hj, rfl⟩)
  generalize upd H8 wt (.lst (ts'.map V.str ++ [.str ""])) = H9 at g9 ⊢
  have m60 : ts'.length ≤ 60 := by omega
  walk_at "nx"
  refine ⟨_, _, .inr (SqT.of g9.hf), at0, ?_⟩
  walk_at "rd1"
  refine ⟨_, _, .inr (SqT.of g9.hq), atI_nat (j := 2) rfl, ?_⟩
  walk_at "rd1"
  refine ⟨⟨_, SqL.of g9.hr⟩, ?_⟩
  refine forW_list (xs := as.map V.ref) (fun i σ H' => ∃ (o9 : Option V), σ = [some (.ref a), some (.ref l), some (.ref ep), o3, o4, some (.ref t), some (.ref dp), some (.ref hp), some (.ref fp), o9, none, none, none] ∧ Grow H6 H' fp q1 wt pr pb sd as bs ts'.length i 0) ⟨_, rfl, g9⟩ (fun i σ H' _ h => by obtain ⟨_, _, z⟩ := h; exact SqL.of z.hr) ?_ ?_
  · rintro i v σ H' hv ⟨o9, rfl, g⟩
    have hi : i < as.length := by have := (List.getElem?_eq_some_iff.mp hv).1; simpa using this
    rw [List.getElem?_map, List.getElem?_eq_getElem hi] at hv
    cases hv
    obtain ⟨xs, x1, x2⟩ := g.ha i as[i] (List.getElem?_eq_getElem hi)
    rw [if_neg (Nat.lt_irrefl _)] at x2
    walk_at "rd1"
    exact ⟨⟨_, SqL.of x1⟩, _, x1, small' (by omega), _, rfl, g.putA t11 t12 (List.getElem?_eq_getElem hi) x1 x2⟩
  rintro σ H10 ⟨o9, rfl, g10⟩
  rw [List.length_map] at g10
  walk_at "nx"
  refine ⟨_, _, .inr (SqT.of g10.hf), atI_nat (j := 1) rfl, ?_⟩
  walk_at "rd1"
  refine ⟨⟨_, SqL.of g10.hb⟩, ?_⟩
  refine forW_list (xs := bs.map V.ref) (fun i σ H' => ∃ (o10 : Option V), σ = [some (.ref a), some (.ref l), some (.ref ep), o3, o4, some (.ref t), some (.ref dp), some (.ref hp), some (.ref fp), o9, o10, none, none] ∧ Grow H6 H' fp q1 wt pr pb sd as bs ts'.length as.length i) ⟨_, rfl, g10⟩ (fun i σ H' _ h => by obtain ⟨_, _, z⟩ := h; exact SqL.of z.hb) ?_ ?_
  · rintro i v σ H' hv ⟨o10, rfl, g⟩
    have hi : i < bs.length := by have := (List.getElem?_eq_some_iff.mp hv).1; simpa using this
    rw [List.getElem?_map, List.getElem?_eq_getElem hi] at hv
    cases hv
    obtain ⟨xs, x1, x2⟩ := g.hc i bs[i] (List.getElem?_eq_getElem hi)
    rw [if_neg (Nat.lt_irrefl _)] at x2
    walk_at "rd1"
    exact ⟨⟨_, SqL.of x1⟩, _, x1, small' (by omega), _, rfl, g.putB t11 t12 (List.getElem?_eq_getElem hi) x1 x2⟩
  rintro σ H11 ⟨o10, rfl, g11⟩
  rw [List.length_map] at g11
  walk_at "nx"
  refine ⟨_, _, .inr (SqT.of g11.hf), at0, ?_⟩
  walk_at "rd1"
  refine ⟨_, _, .inr (SqT.of g11.hq), atI_nat (j := 2) rfl, ?_⟩
  refine ⟨_, _, .inr (SqT.of g11.hf), atI_nat (j := 1) rfl, ?_⟩
  walk_at "rd1"
  refine ⟨_, _, g11.hr, g11.hb, by rw [List.length_map, List.length_map]; exact smallL (by omega), fun cl hcl => ?_⟩
  have s12 := same_new hcl (.lst (as.map V.ref ++ bs.map V.ref))
  have e12 : upd H11 cl (.lst (as.map V.ref ++ bs.map V.ref)) cl = some (.lst ((as ++ bs).map V.ref)) := by rw [upd_same, List.map_append]
  generalize upd H11 cl (.lst (as.map V.ref ++ bs.map V.ref)) = H12 at s12 e12 ⊢
  have hrow : ∀ (j : Nat) a, (as ++ bs)[j]? = some a → ∃ xs, H12 a = some (.lst xs) ∧ xs.length = ts'.length + 1 := fun j a' e => by
    by_cases hj : j < as.length
    · rw [List.getElem?_append_left hj] at e
      obtain ⟨xs, x1, x2⟩ := g11.ha j a' e
      rw [if_pos hj] at x2
      exact ⟨xs, s12 _ _ x1, x2⟩
    · rw [List.getElem?_append_right (by omega)] at e
      have hj2 := (List.getElem?_eq_some_iff.mp e).1
      obtain ⟨xs, x1, x2⟩ := g11.hc _ a' e
      rw [if_pos hj2] at x2
      exact ⟨xs, s12 _ _ x1, x2⟩
  refine ⟨⟨_, SqL.of e12⟩, fun L hL' => ?_⟩
  refine compW_list (xs := (as ++ bs).map V.ref) (fun i ys H' => Same H12 H' ∧ H' L = some (.lst ys) ∧ ys = (List.replicate i ((ts'.length + 1 : Nat) : Int)).map V.int) ⟨same_new hL' _, upd_same, rfl⟩ (fun i ys H' _ h => SqL.of (h.1 _ _ e12)) ?_ ?_
  · rintro i ys H' v hv hi ⟨sm, hl', rfl⟩
    rw [List.length_map] at hi
    rw [List.getElem?_map, List.getElem?_eq_getElem hi] at hv
    cases hv
    obtain ⟨xs, x1, x2⟩ := hrow i _ (List.getElem?_eq_getElem hi)
    have hlen : (as ++ bs).length ≤ 120 := by rw [List.length_append]; omega
    walk_at "rd1"
    refine ⟨_, .inl (SqL.of (sm _ _ x1)), ?_⟩
    rw [x2]
    exact cstep (by rw [List.length_map]; exact hi) (by simp) (by rw [List.length_map]; exact smallL (by omega)) hl' ⟨sm.upd hL' _, upd_same, by rw [List.replicate_succ', List.map_append]; rfl⟩
  rintro ys H13 ⟨s13, hl13, rfl⟩
  rw [List.length_map] at hl13
  have s613 := (g11.sm.trans s12).trans s13
  have s413 : Same H4 H13 := (s5.trans s6).trans s613
  have hlen : (as ++ bs).length ≤ 120 := by rw [List.length_append]; omega
  walk_at "nx"
  refine ⟨_, .inl (SqL.of (s413 _ _ et)), ?_⟩
  rw [List.length_map]
  refine ⟨by decide, fun ol hol => ?_⟩
  have s14 := same_new hol (.lst [V.int ((ts'.length : Int) + 1)])
  have e14 : upd H13 ol (.lst [V.int ((ts'.length : Int) + 1)]) ol = some (.lst [V.int ((ts'.length : Int) + 1)]) := upd_same
  generalize upd H13 ol (.lst [V.int ((ts'.length : Int) + 1)]) = H14 at s14 e14 ⊢
  refine ⟨_, .inl (SqL.of (s14 _ _ hl13)), ?_⟩
  rw [List.length_map, List.length_replicate]
  refine ⟨ol, _, _, rfl, rfl, e14, by omega, by omega, by rw [Int.toNat_natCast]; exact smallL (by simp; omega), fun rp hrp => ?_⟩
  have s15 := same_new hrp (.lst (List.replicate ((as ++ bs).length : Int).toNat [V.int ((ts'.length : Int) + 1)]).flatten)
  have e15 : upd H14 rp (.lst (List.replicate ((as ++ bs).length : Int).toNat [V.int ((ts'.length : Int) + 1)]).flatten) rp = some (.lst ((List.replicate (as ++ bs).length ((ts'.length + 1 : Nat) : Int)).map V.int)) := by
    rw [upd_same, Int.toNat_natCast, rep_one, List.map_replicate]; rfl
  generalize upd H14 rp (.lst (List.replicate ((as ++ bs).length : Int).toNat [V.int ((ts'.length : Int) + 1)]).flatten) = H15 at s15 e15 ⊢
  refine ⟨L, rp, 0, _, rfl, rfl, by decide, EqN.ints (SqL.of (s15 _ _ (s14 _ _ hl13))) (SqL.of e15), ?_⟩
  refine ⟨_, rfl, ite2 (fun c => absurd c (by simp)) (fun _ => ?_)⟩
  have s615 := s613.trans (s14.trans s15)
  refine ⟨4, true, by decide, list_eq (hC.mono s615).list (hL.mono (s6.trans s615)), ?_⟩
  refine ite2 (fun c => absurd c (by decide)) (fun _ => ?_)
  walk_at "nx"
  refine ⟨hp, _, rs, sd, rfl, hCn.mono s615, n1, n8, ok.ok, ok.pr, ok.fl, ok.w16, fun ap H16 s16 hap0 hTo => ?_⟩
  obtain ⟨q2, wt2, pr2, pb2, ts2, u1, u2, u3, u4, u5, u6, M2, as2, bs2, u7, u8, u9, u10, u11, u12⟩ := hTo
  obtain rfl : ts2 = ts' := sort_uniq u4.1 hWo.1 u4.2.1 hWo.2.1 fun x => by rw [u4.2.2, hWo.2.2]
  obtain rfl : M2 = M' := ord_stop u8 hM
  have hT16 : Tld H16 ap sd ts2 ((List.range M2).map (rowO rs ts2)) ((List.range M2).map (blmO rs ts2)) q2 wt2 pr2 pb2 as2 bs2 := ⟨u1, u2, u3, u9, u10⟩
  have hC15 := hC.mono s615
  have hC16 := hC15.mono s16
  have hcl := hC16.len
  walk_at "nx"
  refine ⟨⟨_, SqL.of hC16.at'⟩, ?_⟩
  have old : ∀ a ∈ hp :: cs.flatMap Rc.own, H15 a ≠ none := fun a ha z => by
    obtain ⟨xs, e⟩ := hC15.owned a ha
    rw [z] at e; cases e
  have memO : ∀ {i : Nat} {c : Rc} {a : Addr}, cs[i]? = some c → a ∈ c.own → a ∈ hp :: cs.flatMap Rc.own := fun hc ha => List.mem_cons_of_mem _ (List.mem_flatMap.mpr ⟨_, List.mem_of_getElem? hc, ha⟩)
  refine forW_list (xs := cs.map fun c => V.ref c.t) (fun i σ H' => ∃ (o3 o4 : Option V), σ = [some (.ref a), some (.ref l), some (.ref ep), o3, o4, some (.ref t), some (.ref dp), some (.ref hp), some (.ref fp), o9, o10, some (.ref L), some (.ref ap)] ∧ LeftAt H5 H' hp cs (nms.zip rs) i ∧ Tld H' ap sd ts2 ((List.range M2).map (rowO rs ts2)) ((List.range M2).map (blmO rs ts2)) q2 wt2 pr2 pb2 as2 bs2)
    ⟨_, _, rfl, ⟨s6.trans (s615.trans s16), hC16.at', fun j c n _ e1 e2 => hC16.rc j c n e1 e2⟩, hT16⟩ (fun i σ H' _ h => by obtain ⟨_, _, _, ⟨_, z, _⟩, _⟩ := h; exact SqL.of z) ?_ ?_
  · rintro i v σ H' hv ⟨o3, o4, rfl, hLe, hT'⟩
    have hi : i < cs.length := by have := (List.getElem?_eq_some_iff.mp hv).1; simpa using this
    have hin : i < (nms.zip rs).length := by omega
    rw [List.getElem?_map, List.getElem?_eq_getElem hi] at hv
    cases hv
    have hci := List.getElem?_eq_getElem hi
    have hni := List.getElem?_eq_getElem hin
    obtain ⟨oki, ndi⟩ := hok.ok _ (List.getElem_mem hin)
    obtain ⟨r1, r2, r3, r4⟩ := hLe.2.2 i _ _ (Nat.le_refl _) hci hni
    generalize (nms.zip rs)[i] = nr at hni oki ndi r1 r2 r3 r4
    have nwi := oki.nw
    have n0i := oki.n0
    have n1i := oki.n1
    have hal := r4.2.1
    obtain ⟨a0, ha0⟩ : ∃ a0, (cs[i]).as[0]? = some a0 := ⟨(cs[i]).as[0], List.getElem?_eq_getElem (by omega)⟩
    have hLe1 : Same H5 H' ∧ H' hp = some (.lst (cs.map fun c => V.ref c.t)) ∧ ∀ (j : Nat) c n, i + 1 ≤ j → cs[j]? = some c → (nms.zip rs)[j]? = some n → RcAt H' c n := ⟨hLe.1, hLe.2.1, fun j c n hj => hLe.2.2 j c n (by omega)⟩
    have mpw : (cs[i]).pw ∈ (cs[i]).own := List.mem_cons_self ..
    have ma0 : a0 ∈ (cs[i]).own := List.mem_cons_of_mem _ (List.mem_cons_of_mem _ (List.mem_of_getElem? ha0))
    have hown' : ((cs[i]).pw :: (cs[i]).pr :: (cs[i]).as).Nodup := (List.pairwise_flatMap.mp (List.nodup_cons.mp hC.nd).2).1 _ (List.getElem_mem hi)
    rw [List.nodup_cons, List.nodup_cons, List.mem_cons, not_or] at hown'
    obtain ⟨⟨k1, k2⟩, k3, _⟩ := hown'
    have k4 : a0 ≠ (cs[i]).pw := fun z => k2 (by rw [← z]; exact List.mem_of_getElem? ha0)
    obtain ⟨x0, hx0⟩ : ∃ x0, nr.2.rs[0]? = some x0 := ⟨nr.2.rs[0]'(by omega), List.getElem?_eq_getElem _⟩
    have hx0l := (oki.row _ (List.mem_of_getElem? hx0)).1
    have hra0 := r4.2.2 0 a0 x0 ha0 hx0
    walk_at "rd1"
    refine ⟨(cs[i]).t, _, rfl, SqT.of r1, rfl, ?_⟩
    walk_at "rd1"
    refine ⟨_, _, .inr (SqT.of r2), atI_nat (j := 1) rfl, ?_⟩
    walk_at "rd1"
    refine ⟨⟨_, SqL.of r3⟩, _, r3, by rw [List.length_map]; exact small' (by omega), ?_⟩
    have g1 := LeftAt.put (o := .lst (nr.2.ws.map V.str ++ [.str ""])) hC.nd hC.new hLe1 hci mpw r3
    have hA1 := hT'.upd (o := .lst (nr.2.ws.map V.str ++ [.str ""])) u12 (old _ (memO hci mpw)) r3
    have t2' : upd H' (cs[i]).pw (.lst (nr.2.ws.map V.str ++ [.str ""])) (cs[i]).b = some (.tup [.int nr.2.s, .ref (cs[i]).pw, .ref (cs[i]).pr]) := by rw [upd_ne (fun z => by rw [z, r3] at r2; cases r2)]; exact r2
    have t4' : upd H' (cs[i]).pw (.lst (nr.2.ws.map V.str ++ [.str ""])) (cs[i]).pr = some (.lst ((cs[i]).as.map V.ref)) := by rw [upd_ne (Ne.symm k1)]; exact r4.1
    have t0' : upd H' (cs[i]).pw (.lst (nr.2.ws.map V.str ++ [.str ""])) a0 = some (.lst (x0.map wayV)) := by rw [upd_ne k4]; exact hra0
    generalize upd H' (cs[i]).pw (.lst (nr.2.ws.map V.str ++ [.str ""])) = G1 at g1 hA1 t2' t4' t0' ⊢
    walk_at "nx"
    refine ⟨_, _, .inr (SqT.of t2'), atI_nat (j := 2) rfl, ?_⟩
    walk_at "rd1"
    refine ⟨_, _, .inl (SqL.of t4'), atI_nat (j := 0) (v := .ref a0) (by rw [List.getElem?_map, ha0]; rfl), ?_⟩
    walk_at "rd1"
    refine ⟨⟨_, SqL.of t0'⟩, _, t0', by rw [List.length_map]; exact small' (by omega), ?_⟩
    exact ⟨_, _, rfl, LeftAt.put hC.nd hC.new g1 hci ma0 t0', hA1.upd u12 (old _ (memO hci ma0)) t0'⟩
  rintro σ H17 ⟨o3, o4, rfl, hLe2, hT17⟩
  walk_at "nx"
  refine ⟨⟨_, SqL.of hLe2.2.1⟩, hp, _, rfl, rfl, hLe2.2.1, ?_⟩
  have hT18 := hT17.upd (o := .lst []) u12 (old hp (List.mem_cons_self ..)) hLe2.2.1
  have s518 := hLe2.1.upd (hC.new hp (List.mem_cons_self ..)) (.lst [])
  generalize upd H17 hp (.lst []) = H18 at hT18 s518 ⊢
  have s118 := s45.trans s518
  walk_at "nx"
  refine ⟨_, _, .inl (SqL.of (s118 _ _ h1)), atI_nat (j := 0) (v := .ref qs[0]) (by rw [List.getElem?_map, hq0]; rfl), ?_⟩
  walk_at "rd1"
  refine ⟨_, _, .inr (SqT.of (s118 _ _ f1)), atI_nat (j := 1) rfl, ?_⟩
  walk_at "rd1"
  refine ⟨_, _, .inr (SqT.of (s118 _ _ f2)), at0, ?_⟩
  exact ⟨ap, t, dp, dr, db, q2, wt2, pr2, pb2, sd, ts2, _, _, as2, bs2, cs1, cs2, rfl, hT18, (s5.trans s518) _ _ et, s518 _ _ hdp, hdr.mono s518, hdb.mono s518, okR, okB, fun H' _ => q H'⟩
end
theorem all_mk {l : PySem.W.OpenLaw} {w : World} {K : PySem.W.Frag} {h : Heap} {mg : Str → Option Value} {fa : Addr} (X : K.In h) (G : h.Ns mainGlobals mg) (hfa : mg "law" = some (.ref fa))
    {f0 : Addr} {od0 an0 : Option Addr} {sl0 : Array (Option Value)} {oc0 kV0 dc0 pm0 cd0 ct0 : Value} {f1 : Addr} {od1 an1 : Option Addr} {sl1 : Array (Option Value)} {oc1 kV1 dc1 pm1 cd1 ct1 : Value} {f2 : Addr} {od2 an2 : Option Addr} {sl2 : Array (Option Value)} {oc2 kV2 dc2 pm2 cd2 ct2 : Value} {f3 : Addr} {od3 an3 : Option Addr} {sl3 : Array (Option Value)} {oc3 kV3 dc3 pm3 cd3 ct3 : Value} {f4 : Addr} {od4 an4 : Option Addr} {sl4 : Array (Option Value)} {oc4 kV4 dc4 pm4 cd4 ct4 : Value} {f5 : Addr} {od5 an5 : Option Addr} {sl5 : Array (Option Value)} {oc5 kV5 dc5 pm5 cd5 ct5 : Value} {f6 : Addr} {od6 an6 : Option Addr} {sl6 : Array (Option Value)} {oc6 kV6 dc6 pm6 cd6 ct6 : Value} {f7 : Addr} {od7 an7 : Option Addr} {sl7 : Array (Option Value)} {oc7 kV7 dc7 pm7 cd7 ct7 : Value} {f8 : Addr} {od8 an8 : Option Addr} {sl8 : Array (Option Value)} {oc8 kV8 dc8 pm8 cd8 ct8 : Value} {f9 : Addr} {od9 an9 : Option Addr} {sl9 : Array (Option Value)} {oc9 kV9 dc9 pm9 cd9 ct9 : Value} {f10 : Addr} {od10 an10 : Option Addr} {sl10 : Array (Option Value)} {oc10 kV10 dc10 pm10 cd10 ct10 : Value} {f11 : Addr} {od11 an11 : Option Addr} {sl11 : Array (Option Value)} {oc11 kV11 dc11 pm11 cd11 ct11 : Value} {f12 : Addr} {od12 an12 : Option Addr} {sl12 : Array (Option Value)} {oc12 kV12 dc12 pm12 cd12 ct12 : Value} {f13 : Addr} {od13 an13 : Option Addr} {sl13 : Array (Option Value)} {oc13 kV13 dc13 pm13 cd13 ct13 : Value} {f14 : Addr} {od14 an14 : Option Addr} {sl14 : Array (Option Value)} {oc14 kV14 dc14 pm14 cd14 ct14 : Value} {f15 : Addr} {od15 an15 : Option Addr} {sl15 : Array (Option Value)} {oc15 kV15 dc15 pm15 cd15 ct15 : Value} {f16 : Addr} {od16 an16 : Option Addr} {sl16 : Array (Option Value)} {oc16 kV16 dc16 pm16 cd16 ct16 : Value} {f17 : Addr} {od17 an17 : Option Addr} {sl17 : Array (Option Value)} {oc17 kV17 dc17 pm17 cd17 ct17 : Value} {f18 : Addr} {od18 an18 : Option Addr} {sl18 : Array (Option Value)} {oc18 kV18 dc18 pm18 cd18 ct18 : Value} {f19 : Addr} {od19 an19 : Option Addr} {sl19 : Array (Option Value)} {oc19 kV19 dc19 pm19 cd19 ct19 : Value} {t_MOST_ROOMS : Tok} {t_MOST_WORDS : Tok}
    (a0 : PySem.W.nsIn K mainGlobals "refuse_unlike" = some (some (.ref f0))) (l0 : K.lookup f0 = some ⟨oc0, od0, .func (PySem.W.fnOf "refuse_unlike" "refuse_unlike" (defArgs s_refuse_unlike) (defBody s_refuse_unlike) (defScope s_refuse_unlike) .none kV0 dc0 pm0 an0 cd0 ct0), sl0⟩) (c0 : PySem.W.codeIn K cd0 "refuse_unlike" = true) (k0 : PySem.W.keepIn K (.ref f0) = true)
    (a1 : PySem.W.nsIn K mainGlobals "ways_for" = some (some (.ref f1))) (l1 : K.lookup f1 = some ⟨oc1, od1, .func (PySem.W.fnOf "ways_for" "ways_for" (defArgs s_ways_for) (defBody s_ways_for) (defScope s_ways_for) .none kV1 dc1 pm1 an1 cd1 ct1), sl1⟩) (c1 : PySem.W.codeIn K cd1 "ways_for" = true) (k1 : PySem.W.keepIn K (.ref f1) = true)
    (a2 : PySem.W.nsIn K mainGlobals "ways_by_room" = some (some (.ref f2))) (l2 : K.lookup f2 = some ⟨oc2, od2, .func (PySem.W.fnOf "ways_by_room" "ways_by_room" (defArgs s_ways_by_room) (defBody s_ways_by_room) (defScope s_ways_by_room) .none kV2 dc2 pm2 an2 cd2 ct2), sl2⟩) (c2 : PySem.W.codeIn K cd2 "ways_by_room" = true) (k2 : PySem.W.keepIn K (.ref f2) = true)
    (a3 : PySem.W.nsIn K mainGlobals "words_of_all" = some (some (.ref f3))) (l3 : K.lookup f3 = some ⟨oc3, od3, .func (PySem.W.fnOf "words_of_all" "words_of_all" (defArgs s_words_of_all) (defBody s_words_of_all) (defScope s_words_of_all) .none kV3 dc3 pm3 an3 cd3 ct3), sl3⟩) (c3 : PySem.W.codeIn K cd3 "words_of_all" = true) (k3 : PySem.W.keepIn K (.ref f3) = true)
    (a4 : PySem.W.nsIn K mainGlobals "rooms_behind" = some (some (.ref f4))) (l4 : K.lookup f4 = some ⟨oc4, od4, .func (PySem.W.fnOf "rooms_behind" "rooms_behind" (defArgs s_rooms_behind) (defBody s_rooms_behind) (defScope s_rooms_behind) .none kV4 dc4 pm4 an4 cd4 ct4), sl4⟩) (c4 : PySem.W.codeIn K cd4 "rooms_behind" = true) (k4 : PySem.W.keepIn K (.ref f4) = true)
    (a5 : PySem.W.nsIn K mainGlobals "blame_of" = some (some (.ref f5))) (l5 : K.lookup f5 = some ⟨oc5, od5, .func (PySem.W.fnOf "blame_of" "blame_of" (defArgs s_blame_of) (defBody s_blame_of) (defScope s_blame_of) .none kV5 dc5 pm5 an5 cd5 ct5), sl5⟩) (c5 : PySem.W.codeIn K cd5 "blame_of" = true) (k5 : PySem.W.keepIn K (.ref f5) = true)
    (a6 : PySem.W.nsIn K mainGlobals "laid_by" = some (some (.ref f6))) (l6 : K.lookup f6 = some ⟨oc6, od6, .func (PySem.W.fnOf "laid_by" "laid_by" (defArgs s_laid_by) (defBody s_laid_by) (defScope s_laid_by) .none kV6 dc6 pm6 an6 cd6 ct6), sl6⟩) (c6 : PySem.W.codeIn K cd6 "laid_by" = true) (k6 : PySem.W.keepIn K (.ref f6) = true)
    (a7 : PySem.W.nsIn K mainGlobals "laid_rules" = some (some (.ref f7))) (l7 : K.lookup f7 = some ⟨oc7, od7, .func (PySem.W.fnOf "laid_rules" "laid_rules" (defArgs s_laid_rules) (defBody s_laid_rules) (defScope s_laid_rules) .none kV7 dc7 pm7 an7 cd7 ct7), sl7⟩) (c7 : PySem.W.codeIn K cd7 "laid_rules" = true) (k7 : PySem.W.keepIn K (.ref f7) = true)
    (a8 : PySem.W.nsIn K mainGlobals "_law_cell_at" = some (some (.ref f8))) (l8 : K.lookup f8 = some ⟨oc8, od8, .func (PySem.W.fnOf "_law_cell_at" "_law_cell_at" (defArgs s_law_cell_at) (defBody s_law_cell_at) (defScope s_law_cell_at) .none kV8 dc8 pm8 an8 cd8 ct8), sl8⟩) (c8 : PySem.W.codeIn K cd8 "_law_cell_at" = true) (k8 : PySem.W.keepIn K (.ref f8) = true)
    (a9 : PySem.W.nsIn K mainGlobals "_law_mixed" = some (some (.ref f9))) (l9 : K.lookup f9 = some ⟨oc9, od9, .func (PySem.W.fnOf "_law_mixed" "_law_mixed" (defArgs s_law_mixed) (defBody s_law_mixed) (defScope s_law_mixed) .none kV9 dc9 pm9 an9 cd9 ct9), sl9⟩) (c9 : PySem.W.codeIn K cd9 "_law_mixed" = true) (k9 : PySem.W.keepIn K (.ref f9) = true)
    (a10 : PySem.W.nsIn K mainGlobals "_law_words" = some (some (.ref f10))) (l10 : K.lookup f10 = some ⟨oc10, od10, .func (PySem.W.fnOf "_law_words" "_law_words" (defArgs s_law_words) (defBody s_law_words) (defScope s_law_words) .none kV10 dc10 pm10 an10 cd10 ct10), sl10⟩) (c10 : PySem.W.codeIn K cd10 "_law_words" = true) (k10 : PySem.W.keepIn K (.ref f10) = true)
    (a11 : PySem.W.nsIn K mainGlobals "_law_way" = some (some (.ref f11))) (l11 : K.lookup f11 = some ⟨oc11, od11, .func (PySem.W.fnOf "_law_way" "_law_way" (defArgs s_law_way) (defBody s_law_way) (defScope s_law_way) .none kV11 dc11 pm11 an11 cd11 ct11), sl11⟩) (c11 : PySem.W.codeIn K cd11 "_law_way" = true) (k11 : PySem.W.keepIn K (.ref f11) = true)
    (a12 : PySem.W.nsIn K mainGlobals "_law_rooms" = some (some (.ref f12))) (l12 : K.lookup f12 = some ⟨oc12, od12, .func (PySem.W.fnOf "_law_rooms" "_law_rooms" (defArgs s_law_rooms) (defBody s_law_rooms) (defScope s_law_rooms) .none kV12 dc12 pm12 an12 cd12 ct12), sl12⟩) (c12 : PySem.W.codeIn K cd12 "_law_rooms" = true) (k12 : PySem.W.keepIn K (.ref f12) = true)
    (a13 : PySem.W.nsIn K mainGlobals "_law_rules" = some (some (.ref f13))) (l13 : K.lookup f13 = some ⟨oc13, od13, .func (PySem.W.fnOf "_law_rules" "_law_rules" (defArgs s_law_rules) (defBody s_law_rules) (defScope s_law_rules) .none kV13 dc13 pm13 an13 cd13 ct13), sl13⟩) (c13 : PySem.W.codeIn K cd13 "_law_rules" = true) (k13 : PySem.W.keepIn K (.ref f13) = true)
    (a14 : PySem.W.nsIn K mainGlobals "_law_to" = some (some (.ref f14))) (l14 : K.lookup f14 = some ⟨oc14, od14, .func (PySem.W.fnOf "_law_to" "_law_to" (defArgs s_law_to) (defBody s_law_to) (defScope s_law_to) .none kV14 dc14 pm14 an14 cd14 ct14), sl14⟩) (c14 : PySem.W.codeIn K cd14 "_law_to" = true) (k14 : PySem.W.keepIn K (.ref f14) = true)
    (a15 : PySem.W.nsIn K mainGlobals "_law_is_table" = some (some (.ref f15))) (l15 : K.lookup f15 = some ⟨oc15, od15, .func (PySem.W.fnOf "_law_is_table" "_law_is_table" (defArgs s_law_is_table) (defBody s_law_is_table) (defScope s_law_is_table) .none kV15 dc15 pm15 an15 cd15 ct15), sl15⟩) (c15 : PySem.W.codeIn K cd15 "_law_is_table" = true) (k15 : PySem.W.keepIn K (.ref f15) = true)
    (a16 : PySem.W.nsIn K mainGlobals "_law_due" = some (some (.ref f16))) (l16 : K.lookup f16 = some ⟨oc16, od16, .func (PySem.W.fnOf "_law_due" "_law_due" (defArgs s_law_due) (defBody s_law_due) (defScope s_law_due) .none kV16 dc16 pm16 an16 cd16 ct16), sl16⟩) (c16 : PySem.W.codeIn K cd16 "_law_due" = true) (k16 : PySem.W.keepIn K (.ref f16) = true)
    (a17 : PySem.W.nsIn K mainGlobals "_law_told" = some (some (.ref f17))) (l17 : K.lookup f17 = some ⟨oc17, od17, .func (PySem.W.fnOf "_law_told" "_law_told" (defArgs s_law_told) (defBody s_law_told) (defScope s_law_told) .none kV17 dc17 pm17 an17 cd17 ct17), sl17⟩) (c17 : PySem.W.codeIn K cd17 "_law_told" = true) (k17 : PySem.W.keepIn K (.ref f17) = true)
    (a18 : PySem.W.nsIn K mainGlobals "_law_copy" = some (some (.ref f18))) (l18 : K.lookup f18 = some ⟨oc18, od18, .func (PySem.W.fnOf "_law_copy" "_law_copy" (defArgs s_law_copy) (defBody s_law_copy) (defScope s_law_copy) .none kV18 dc18 pm18 an18 cd18 ct18), sl18⟩) (c18 : PySem.W.codeIn K cd18 "_law_copy" = true) (k18 : PySem.W.keepIn K (.ref f18) = true)
    (a19 : PySem.W.nsIn K mainGlobals "law" = some (some (.ref f19))) (l19 : K.lookup f19 = some ⟨oc19, od19, .func (PySem.W.fnOf "law" "law" (defArgs s_law) (defBody s_law) (defScope s_law) .none kV19 dc19 pm19 an19 cd19 ct19), sl19⟩) (c19 : PySem.W.codeIn K cd19 "law" = true) (k19 : PySem.W.keepIn K (.ref f19) = true)
    (y_sorted : PySem.W.nsIn K mainGlobals "sorted" = some none)
    (y_set : PySem.W.nsIn K mainGlobals "set" = some none)
    (y_enumerate : PySem.W.nsIn K mainGlobals "enumerate" = some none)
    (y_list : PySem.W.nsIn K mainGlobals "list" = some none)
    (y_zip : PySem.W.nsIn K mainGlobals "zip" = some none)
    (y_len : PySem.W.nsIn K mainGlobals "len" = some none)
    (y_range : PySem.W.nsIn K mainGlobals "range" = some none)
    (y_int : PySem.W.nsIn K mainGlobals "int" = some none)
    (y_str : PySem.W.nsIn K mainGlobals "str" = some none)
    (y_min : PySem.W.nsIn K mainGlobals "min" = some none)
    (y_isinstance : PySem.W.nsIn K mainGlobals "isinstance" = some none)
    (y_tuple : PySem.W.nsIn K mainGlobals "tuple" = some none)
    (y_bool : PySem.W.nsIn K mainGlobals "bool" = some none)
    (h_MOST_ROOMS : PySem.W.nsIn K mainGlobals "MOST_ROOMS" = some (some (.int 60 t_MOST_ROOMS)))
    (h_MOST_WORDS : PySem.W.nsIn K mainGlobals "MOST_WORDS" = some (some (.int 16 t_MOST_WORDS))) :
    ∃ fd : FuncData, (∀ (s : Shared) (v : Value), BindsTo s fd ⟨[v], []⟩ [("_law_script", v)]) ∧ ∀ base : Heap, K.In base → base.Ns mainGlobals mg → FnOk l.prog w K mg base CX0 4 fa fd ["_law_script"] (spLaw K) := by
  have e := hfa.symm.trans (PySem.W.mg_of X G a19)
  cases e
  have D_refuse_unlike : DefAt K mg "refuse_unlike" s_refuse_unlike := ⟨f0, _, fun_mk (st := s_refuse_unlike) l0 c0 k0, PySem.W.mg_of X G a0⟩
  have D_ways_for : DefAt K mg "ways_for" s_ways_for := ⟨f1, _, fun_mk (st := s_ways_for) l1 c1 k1, PySem.W.mg_of X G a1⟩
  have D_ways_by_room : DefAt K mg "ways_by_room" s_ways_by_room := ⟨f2, _, fun_mk (st := s_ways_by_room) l2 c2 k2, PySem.W.mg_of X G a2⟩
  have D_words_of_all : DefAt K mg "words_of_all" s_words_of_all := ⟨f3, _, fun_mk (st := s_words_of_all) l3 c3 k3, PySem.W.mg_of X G a3⟩
  have D_rooms_behind : DefAt K mg "rooms_behind" s_rooms_behind := ⟨f4, _, fun_mk (st := s_rooms_behind) l4 c4 k4, PySem.W.mg_of X G a4⟩
  have D_blame_of : DefAt K mg "blame_of" s_blame_of := ⟨f5, _, fun_mk (st := s_blame_of) l5 c5 k5, PySem.W.mg_of X G a5⟩
  have D_laid_by : DefAt K mg "laid_by" s_laid_by := ⟨f6, _, fun_mk (st := s_laid_by) l6 c6 k6, PySem.W.mg_of X G a6⟩
  have D_laid_rules : DefAt K mg "laid_rules" s_laid_rules := ⟨f7, _, fun_mk (st := s_laid_rules) l7 c7 k7, PySem.W.mg_of X G a7⟩
  have D_law_cell_at : DefAt K mg "_law_cell_at" s_law_cell_at := ⟨f8, _, fun_mk (st := s_law_cell_at) l8 c8 k8, PySem.W.mg_of X G a8⟩
  have D_law_mixed : DefAt K mg "_law_mixed" s_law_mixed := ⟨f9, _, fun_mk (st := s_law_mixed) l9 c9 k9, PySem.W.mg_of X G a9⟩
  have D_law_words : DefAt K mg "_law_words" s_law_words := ⟨f10, _, fun_mk (st := s_law_words) l10 c10 k10, PySem.W.mg_of X G a10⟩
  have D_law_way : DefAt K mg "_law_way" s_law_way := ⟨f11, _, fun_mk (st := s_law_way) l11 c11 k11, PySem.W.mg_of X G a11⟩
  have D_law_rooms : DefAt K mg "_law_rooms" s_law_rooms := ⟨f12, _, fun_mk (st := s_law_rooms) l12 c12 k12, PySem.W.mg_of X G a12⟩
  have D_law_rules : DefAt K mg "_law_rules" s_law_rules := ⟨f13, _, fun_mk (st := s_law_rules) l13 c13 k13, PySem.W.mg_of X G a13⟩
  have D_law_to : DefAt K mg "_law_to" s_law_to := ⟨f14, _, fun_mk (st := s_law_to) l14 c14 k14, PySem.W.mg_of X G a14⟩
  have D_law_is_table : DefAt K mg "_law_is_table" s_law_is_table := ⟨f15, _, fun_mk (st := s_law_is_table) l15 c15 k15, PySem.W.mg_of X G a15⟩
  have D_law_due : DefAt K mg "_law_due" s_law_due := ⟨f16, _, fun_mk (st := s_law_due) l16 c16 k16, PySem.W.mg_of X G a16⟩
  have D_law_told : DefAt K mg "_law_told" s_law_told := ⟨f17, _, fun_mk (st := s_law_told) l17 c17 k17, PySem.W.mg_of X G a17⟩
  have D_law_copy : DefAt K mg "_law_copy" s_law_copy := ⟨f18, _, fun_mk (st := s_law_copy) l18 c18 k18, PySem.W.mg_of X G a18⟩
  have z_sorted : mg "sorted" = none := PySem.W.mg_none_of X G y_sorted
  have z_set : mg "set" = none := PySem.W.mg_none_of X G y_set
  have z_enumerate : mg "enumerate" = none := PySem.W.mg_none_of X G y_enumerate
  have z_list : mg "list" = none := PySem.W.mg_none_of X G y_list
  have z_zip : mg "zip" = none := PySem.W.mg_none_of X G y_zip
  have z_len : mg "len" = none := PySem.W.mg_none_of X G y_len
  have z_range : mg "range" = none := PySem.W.mg_none_of X G y_range
  have z_int : mg "int" = none := PySem.W.mg_none_of X G y_int
  have z_str : mg "str" = none := PySem.W.mg_none_of X G y_str
  have z_min : mg "min" = none := PySem.W.mg_none_of X G y_min
  have z_isinstance : mg "isinstance" = none := PySem.W.mg_none_of X G y_isinstance
  have z_tuple : mg "tuple" = none := PySem.W.mg_none_of X G y_tuple
  have z_bool : mg "bool" = none := PySem.W.mg_none_of X G y_bool
  have g_MOST_ROOMS : ∃ t, mg "MOST_ROOMS" = some (.int 60 t) := ⟨t_MOST_ROOMS, PySem.W.mg_of X G h_MOST_ROOMS⟩
  have g_MOST_WORDS : ∃ t, mg "MOST_WORDS" = some (.int 16 t) := ⟨t_MOST_WORDS, PySem.W.mg_of X G h_MOST_WORDS⟩
  have F := fun_mk (st := s_law) l19 c19 k19
  refine ⟨PySem.W.fnOf "law" "law" (defArgs s_law) (defBody s_law) (defScope s_law) .none kV19 dc19 pm19 an19 cd19 ct19, fun s v => .of_eq rfl, fun base _ _ => ?_⟩
  have p1 := ok_ways_by (P := l.prog) (w := w) (base := base) D_ways_by_room z_enumerate (ok_ways_for D_ways_for)
  have p2 := ok_laidby (P := l.prog) (w := w) (base := base) D_laid_by z_len z_tuple g_MOST_ROOMS (ok_behind D_rooms_behind z_range z_tuple z_zip) (ok_blame D_blame_of)
  have p3 := ok_laid (P := l.prog) (w := w) (base := base) D_laid_rules z_len g_MOST_WORDS (ok_unlike D_refuse_unlike) (ok_wordsall D_words_of_all z_sorted z_set) p1 p2
  have c1 := ok_cell (P := l.prog) (w := w) (base := base) D_law_cell_at z_len
  have c2 := ok_mixed (P := l.prog) (w := w) (base := base) D_law_mixed z_range
  have c3 := ok_rules D_law_rules z_range z_len z_str z_sorted c1 (ok_words75 D_law_words z_range z_int c2) (ok_rooms D_law_rooms z_range z_len z_min c2 (ok_way D_law_way))
  have c4 := ok_due (P := l.prog) (w := w) (base := base) D_law_due z_range z_len z_tuple (ok_to D_law_to)
  have c5 := ok_told (P := l.prog) (w := w) (base := base) D_law_told z_isinstance z_tuple z_len z_list z_int (ok_table D_law_is_table z_isinstance z_list z_len z_int z_bool)
  exact ok_law F z_sorted z_set z_len c3 c4 (ok_copies D_law_copy z_list) p3 c5
theorem walk {l : PySem.W.OpenLaw} {q : Program} {loose : List Str} {XP : (Str → Option Value) → Heap → Prop} {YP : World → Heap → Prop} {d : DefRec} {K : Params → PySem.W.Frag} (hn : l.most = some 63) (hdf : d.params.defaults = [])
    (hY : ∀ (w : World) (h : Heap), YP w h → (K w.params).In h)
    (F : ∀ (w : World) (mg : Str → Option Value) (fa : Addr) (h : Heap), (K w.params).In h → h.Ns mainGlobals mg → mg d.name = some (.ref fa) →
      ∃ fd : FuncData, (∀ (s : Shared) (u : Value), BindsTo s fd ⟨[u], []⟩ [("_law_script", u)]) ∧ ∀ base : Heap, (K w.params).In base → base.Ns mainGlobals mg → FnOk l.prog w (K w.params) mg base CX0 4 fa fd ["_law_script"] (spLaw (K w.params))) :
    PySem.W.WalkO q loose XP YP l.row.toRowW d [] (fun f vs => PySem.call f vs) :=
  L2.walk_of (n := 63) (k := 4) (x := "_law_script") (CX := fun _ => CX0) (sp := fun w => spLaw (K w.params)) hn (by decide) hdf ⟨rfl, by decide, by decide⟩ hY F (fun _ _ a ns hl _ hS => ⟨a, ns, rfl, hS, hl, fun _ => rfl⟩) fun _ _ _ _ _ z => z
end K75
end
open PySem PySem.W PyProof.Rows
set_option maxRecDepth 100000 in
set_option maxHeartbeats 0 in
theorem PySem.Challenge.cw_usewarden_k75_rules_laid_together_holds : PySem.Challenge.rw_usewarden_k75_rules_laid_together.Holds := by
  w_on; o_law; k_head; (case hw => w_witness2)
  k_fill
  refine K75.walk (l := PySem.Challenge.rw_usewarden_k75_rules_laid_together) rfl rfl (fun w h Y => PySem.W.kIn_of Y) ?F
  case F =>
    intro w mg fa h KX G hmg
    refine' K75.all_mk KX G hmg ?a0 ?l0 ?c0 ?k0 ?a1 ?l1 ?c1 ?k1 ?a2 ?l2 ?c2 ?k2 ?a3 ?l3 ?c3 ?k3 ?a4 ?l4 ?c4 ?k4 ?a5 ?l5 ?c5 ?k5 ?a6 ?l6 ?c6 ?k6 ?a7 ?l7 ?c7 ?k7 ?a8 ?l8 ?c8 ?k8 ?a9 ?l9 ?c9 ?k9 ?a10 ?l10 ?c10 ?k10 ?a11 ?l11 ?c11 ?k11 ?a12 ?l12 ?c12 ?k12 ?a13 ?l13 ?c13 ?k13 ?a14 ?l14 ?c14 ?k14 ?a15 ?l15 ?c15 ?k15 ?a16 ?l16 ?c16 ?k16 ?a17 ?l17 ?c17 ?k17 ?a18 ?l18 ?c18 ?k18 ?a19 ?l19 ?c19 ?k19 ?y_sorted ?y_set ?y_enumerate ?y_list ?y_zip ?y_len ?y_range ?y_int ?y_str ?y_min ?y_isinstance ?y_tuple ?y_bool ?h_MOST_ROOMS ?h_MOST_WORDS
    (case a0 => k_is)
    (case l0 => k_is)
    (case c0 => k_is)
    (case k0 => k_is)
    (case a1 => k_is)
    (case l1 => k_is)
    (case c1 => k_is)
    (case k1 => k_is)
    (case a2 => k_is)
    (case l2 => k_is)
    (case c2 => k_is)
    (case k2 => k_is)
    (case a3 => k_is)
    (case l3 => k_is)
    (case c3 => k_is)
    (case k3 => k_is)
    (case a4 => k_is)
    (case l4 => k_is)
    (case c4 => k_is)
    (case k4 => k_is)
    (case a5 => k_is)
    (case l5 => k_is)
    (case c5 => k_is)
    (case k5 => k_is)
    (case a6 => k_is)
    (case l6 => k_is)
    (case c6 => k_is)
    (case k6 => k_is)
    (case a7 => k_is)
    (case l7 => k_is)
    (case c7 => k_is)
    (case k7 => k_is)
    (case a8 => k_is)
    (case l8 => k_is)
    (case c8 => k_is)
    (case k8 => k_is)
    (case a9 => k_is)
    (case l9 => k_is)
    (case c9 => k_is)
    (case k9 => k_is)
    (case a10 => k_is)
    (case l10 => k_is)
    (case c10 => k_is)
    (case k10 => k_is)
    (case a11 => k_is)
    (case l11 => k_is)
    (case c11 => k_is)
    (case k11 => k_is)
    (case a12 => k_is)
    (case l12 => k_is)
    (case c12 => k_is)
    (case k12 => k_is)
    (case a13 => k_is)
    (case l13 => k_is)
    (case c13 => k_is)
    (case k13 => k_is)
    (case a14 => k_is)
    (case l14 => k_is)
    (case c14 => k_is)
    (case k14 => k_is)
    (case a15 => k_is)
    (case l15 => k_is)
    (case c15 => k_is)
    (case k15 => k_is)
    (case a16 => k_is)
    (case l16 => k_is)
    (case c16 => k_is)
    (case k16 => k_is)
    (case a17 => k_is)
    (case l17 => k_is)
    (case c17 => k_is)
    (case k17 => k_is)
    (case a18 => k_is)
    (case l18 => k_is)
    (case c18 => k_is)
    (case k18 => k_is)
    (case a19 => k_is)
    (case l19 => k_is)
    (case c19 => k_is)
    (case k19 => k_is)
    (case y_sorted => k_is)
    (case y_set => k_is)
    (case y_enumerate => k_is)
    (case y_list => k_is)
    (case y_zip => k_is)
    (case y_len => k_is)
    (case y_range => k_is)
    (case y_int => k_is)
    (case y_str => k_is)
    (case y_min => k_is)
    (case y_isinstance => k_is)
    (case y_tuple => k_is)
    (case y_bool => k_is)
    (case h_MOST_ROOMS => k_is)
    (case h_MOST_WORDS => k_is)
#print axioms PySem.Challenge.cw_usewarden_k75_rules_laid_together_holds
