import PyProof.Rows.All
import Wide.All
import OpenK.AllK
import Wide.FinOn
import Lean
import PyProof.EqAt
import PyProof.EqKinds
import PyProof.TupleCall
import PyProof.SetScanFacts
import PyProof.SetKind
import PyProof.SetRoads
import PyProof.Rows.SetFrom
import PyProof.FactsBase
import PyProof.TableTree
import PyProof.FactsTree
import PyProof.PlainAttrs
import PyProof.FactsAll.set_1
import PyProof.CollectIter
import PyProof.FactsAll.set
import PySem.Challenge.RW_usewarden_k11_no_two_rooms_alike
-- CHANGE: your row's module here, as the last of these rows
set_option Elab.async false
set_option linter.all false
set_option maxRecDepth 100000
/-! THE HAND LAYER, for ints, bools, texts, own classes, LISTS and tuples (index, slices, in, append, pop ..), calls, loops. Paste it whole ahead of your own text; what your proof does not reach may be deleted. -/
namespace L2
open PySem PySem.Spec PyProof.Rows

/-- a key: an int or a str -/
abbrev Key := Sum Int Str
def keyIs : Key → Value → Bool
  | .inl k, v => Value.isInt k v
  | .inr x, v => Value.isStrOf x v
def keyH (w : World) : Key → Int
  | .inl k => hashInt k
  | .inr x => hashStr w x
theorem keyIs_shape : ∀ {k : Key} {v : Value}, keyIs k v = true → (∃ i t, k = Sum.inl i ∧ v = Value.int i t) ∨ (∃ x t, k = Sum.inr x ∧ v = Value.str x t)
  | .inl i, v, h => by
    obtain ⟨t, e⟩ := Value.isInt_shape (k := i) (v := v) h
    exact .inl ⟨i, t, rfl, e⟩
  | .inr x, v, h => by
    obtain ⟨t, e⟩ := Value.isStrOf_shape (x := x) (v := v) h
    exact .inr ⟨x, t, rfl, e⟩
theorem keyIs_int (i : Int) (t : Tok) : keyIs (.inl i) (.int i t) = true := by simp [keyIs, Value.isInt]
theorem keyIs_str (x : Str) (t : Tok) : keyIs (.inr x) (.str x t) = true := by simp [keyIs, Value.isStrOf]
theorem key_ll (a b : Int) : decide ((Sum.inl a : Key) = Sum.inl b) = (a == b) := by
  by_cases e : a = b
  · subst e; simp
  · have h : ¬ (Sum.inl a : Key) = Sum.inl b := fun q => e (Sum.inl.inj q)
    rw [decide_eq_false h]
    exact (beq_eq_false_iff_ne.mpr e).symm
theorem key_rr (a b : Str) : decide ((Sum.inr a : Key) = Sum.inr b) = decide (a = b) := by
  by_cases e : a = b
  · subst e; simp
  · have h : ¬ (Sum.inr a : Key) = Sum.inr b := fun q => e (Sum.inr.inj q)
    rw [decide_eq_false h, decide_eq_false e]
theorem key_lr (a : Int) (b : Str) : decide ((Sum.inl a : Key) = Sum.inr b) = false := decide_eq_false (fun q => nomatch q)
theorem key_rl (a : Str) (b : Int) : decide ((Sum.inr a : Key) = Sum.inl b) = false := decide_eq_false (fun q => nomatch q)

def mixKind (prog : Program) (w : World) : PySem.KeyKind prog w Key where
  is := keyIs
  hash := keyH w
  inj := fun v a b ha hb => by
    rcases keyIs_shape ha with ⟨i, t, rfl, rfl⟩ | ⟨x, t, rfl, rfl⟩
    · rcases keyIs_shape hb with ⟨j, u, rfl, e⟩ | ⟨y, u, rfl, e⟩
      · injection e with e1 _; rw [e1]
      · exact nomatch e
    · rcases keyIs_shape hb with ⟨j, u, rfl, e⟩ | ⟨y, u, rfl, e⟩
      · exact nomatch e
      · injection e with e1 _; rw [e1]
  byValue := fun k v h => by
    rcases keyIs_shape h with ⟨i, t, rfl, rfl⟩ | ⟨x, t, rfl, rfl⟩ <;> rfl
  pyHash := fun hv h => by
    rcases keyIs_shape hv with ⟨i, t, rfl, rfl⟩ | ⟨x, t, rfl, rfl⟩
    · exact wpAny_pyHash_int h
    · exact wpAny_pyHash_str h
  eqBool := fun hu hv h => by
    rcases keyIs_shape hu with ⟨i, t, rfl, rfl⟩ | ⟨x, t, rfl, rfl⟩
    · rcases keyIs_shape hv with ⟨j, u, rfl, rfl⟩ | ⟨y, u, rfl, rfl⟩
      · rw [key_ll] at h; exact wpAny_eqBool_int h
      · rw [key_lr] at h; exact SeqAt.EqAt.int_str i t y u _ _ _ _ h
    · rcases keyIs_shape hv with ⟨j, u, rfl, rfl⟩ | ⟨y, u, rfl, rfl⟩
      · rw [key_rl] at h; exact SeqAt.EqAt.str_int x t j u _ _ _ _ h
      · rw [key_rr] at h; exact wpAny_eqBool_str h
  «strs» := fun k x t v h => by
    rcases keyIs_shape h with ⟨i, u, rfl, e⟩ | ⟨y, u, rfl, e⟩
    · exact nomatch e
    · injection e with e1 _
      subst e1
      cases v <;> rfl

theorem mixKind_int (prog : Program) (w : World) (i : Int) (t : Tok) : (mixKind prog w).is (.inl i) (.int i t) = true := keyIs_int i t
theorem mixKind_str (prog : Program) (w : World) (x : Str) (t : Tok) : (mixKind prog w).is (.inr x) (.str x t) = true := keyIs_str x t
end L2

namespace L2
open PySem PySem.Spec PyProof.Rows

/-- a value, without the heap -/
inductive V where
  | non | bl (b : Bool) | int (i : Int) | str (x : Str) | byt (b : Array UInt8) | flt (b : UInt64) | ref (a : Addr) | ty (n : String)
  deriving DecidableEq

def RelV : V → Value → Prop
  | .non, u => u = Value.none
  | .bl b, u => u = Value.bool b
  | .int i, u => ∃ t, u = Value.int i t
  | .str x, u => ∃ t, u = Value.str x t
  | .byt b, u => ∃ t, u = Value.bytes b t
  | .flt b, u => ∃ t, u = Value.float b t
  | .ref a, u => u = Value.ref a
  | .ty n, u => u = Value.type n

abbrev Vals : List V → List Value → Prop := Paired RelV
theorem Vals.length {xs : List V} {us : List Value} (r : Vals xs us) : xs.length = us.length := Paired.length r
theorem Vals.get : ∀ {xs : List V} {us : List Value} {i : Nat} {x : V}, Vals xs us → xs[i]? = some x → ∃ u, us[i]? = some u ∧ RelV x u
  | _, _, _, _, .nil, e => by simp at e
  | _, _, 0, _, .cons r _, e => by simp at e; subst e; exact ⟨_, rfl, r⟩
  | _, _, i + 1, x, .cons _ t, e => by
    obtain ⟨u, h1, h2⟩ := Vals.get (i := i) (x := x) t (by simpa using e)
    exact ⟨u, by simpa using h1, h2⟩
theorem Vals.set {x : V} {u : Value} (r : RelV x u) : ∀ {xs : List V} {us : List Value} (i : Nat), Vals xs us → Vals (xs.set i x) (us.set i u)
  | _, _, _, .nil => .nil
  | _, _, 0, .cons _ t => .cons r t
  | _, _, i + 1, .cons q t => .cons q (Vals.set r i t)
theorem Vals.append : ∀ {xs ys : List V} {us ws : List Value}, Vals xs us → Vals ys ws → Vals (xs ++ ys) (us ++ ws)
  | _, _, _, _, .nil, s => s
  | _, _, _, _, .cons r t, s => .cons r (Vals.append t s)
theorem Vals.take : ∀ {xs : List V} {us : List Value} (n : Nat), Vals xs us → Vals (xs.take n) (us.take n)
  | _, _, 0, _ => .nil
  | _, _, _ + 1, .nil => .nil
  | _, _, n + 1, .cons r t => .cons r (Vals.take n t)
theorem Vals.drop : ∀ {xs : List V} {us : List Value} (n : Nat), Vals xs us → Vals (xs.drop n) (us.drop n)
  | _, _, 0, r => r
  | _, _, _ + 1, .nil => .nil
  | _, _, n + 1, .cons _ t => Vals.drop n t
def RelO : Option V → Option Value → Prop
  | some v, some u => RelV v u
  | none, none => True
  | _, _ => False
def KV {κ : Type} : List (κ × V) → List (κ × Value) → Prop := Paired fun (p : κ × V) (q : κ × Value) => p.1 = q.1 ∧ RelV p.2 q.2

/-- a key of a dict (00_mix): an int or a text -/
def kV : Key → V
  | .inl i => .int i
  | .inr x => .str x

/-- what stands at a tracked address -/
inductive HO where
  /-- a list -/
  | lst (xs : List V)
  /-- a tuple (never changes) -/
  | tup (xs : List V)
  /-- a dict whose keys are ints and texts; one whose keys are tuples of ints and texts (the empty one is both) -/
  | dK (kvs : List (Key × V)) | dT (kvs : List (List Key × V))
  /-- a set of ints: its members, its size -/
  | set (S : Int → Bool) (n : Nat)
  /-- an instance of the class at C, its dict at dx, its attributes -/
  | ins (C dx : Addr) (fs : List (Str × V))
  /-- the dict of the instance at x -/
  | own (x : Addr)
  /-- the dict of an exception -/
  | xd (fs : List (Str × V))
  /-- a bound method, f of x -/
  | met (f x : Addr)
  /-- a range object lo, lo + 1, .. below hi -/
  | rng (lo hi : Int)
  /-- a thing that is known to the object (the script; a dict while a loop walks it): read, never written while it is so -/
  | frz (o : Obj) (u : HO)
  /-- a code object's table -/
  | tbl (ps : Array Value)
  /-- any other thing, by what is true of its one object (a def of one's own: SetO a S n := HO.ext fun h => ..) -/
  | ext (φ : Heap → Prop)

abbrev Hp := Addr → Option HO
def upd (H : Hp) (a : Addr) (o : HO) : Hp := fun b => if b = a then some o else H b
theorem upd_same {H : Hp} {a : Addr} {o : HO} : upd H a o a = some o := by unfold upd; rw [if_pos rfl]
theorem upd_ne {H : Hp} {a b : Addr} {o : HO} (h : b ≠ a) : upd H a o b = H b := by unfold upd; rw [if_neg h]
theorem upd_upd {H : Hp} {a : Addr} {o u : HO} : upd (upd H a o) a u = upd H a u := by
  funext b; unfold upd; split <;> rfl
/-- two objects of different content stand apart -/
theorem ne_of {H : Hp} {a b : Addr} {o u : HO} (h : H a = some o) (h' : H b = some u) (d : o ≠ u) : a ≠ b := by
  intro e; subst e; rw [h] at h'; exact d (Option.some.inj h')
theorem ne_of_none {H : Hp} {a b : Addr} {o : HO} (h : H a = some o) (h' : H b = none) : a ≠ b := by
  intro e; subst e; rw [h] at h'; cases h'

section
variable (P : Program) (w : World)
def ObjOk (H : Hp) (h : Heap) (a : Addr) : HO → Prop
  | .lst xs => xs.length ≤ sizeLine ∧ ∃ (its : List Value) (n : Nat), Vals xs its ∧ h.get? a = some { cls := .type "list", data := .seq its.toArray n }
  | .tup xs => xs.length ≤ sizeLine ∧ ∃ its : List Value, Vals xs its ∧ IsTup h a its.toArray
  | .dK kvs => kvs.length ≤ sizeLine ∧ (a == sysModules) = false ∧ ∃ vs, KV kvs vs ∧ h.DictOf (mixKind P w) a vs
  | .dT kvs => kvs.length ≤ sizeLine ∧ (a == sysModules) = false ∧ ∃ xs : List (List Key × Addr × Value),
      Paired (fun (p : List Key × V) (q : List Key × Addr × Value) => p.1 = q.1 ∧ H q.2.1 = some (.tup (p.1.map kV)) ∧ RelV p.2 q.2.2) kvs xs ∧
      ∃ o es ep, h.get? a = some o ∧ o.ExactDict ∧ o.data = .dict es ep ∧ es.toList = xs.map (entryOfKey (tupleKind (mixKind P w))) ∧ (xs.map (·.1)).Nodup
  | .set S n => h.SetOf (intKind P w) a S n
  | .ins C dx fs => H dx = some (.own a) ∧ fs.length ≤ 1000 ∧ dx ≠ a ∧ h.get? a = some (PySem.W.instObj C dx) ∧
      ∃ mA, h.Ns1 dx mA ∧ (∀ f, RelO (fs.lookup f) (mA f)) ∧ PySem.Within mA (fs.map (·.1))
  | .own _ => ∃ o, h.get? a = some o
  | .xd fs => ∃ mA, h.Ns1 a mA ∧ ∀ f, RelO (fs.lookup f) (mA f)
  | .rng lo hi => ∃ t u v, h.get? a = some { cls := .type "range", data := .fields #[.int lo t, .int hi u, .int 1 v] }
  | .frz o u => h.get? a = some o ∧ ObjOk H h a u
  | .tbl ps => h.get? a = some { cls := .none, data := .fields ps }
  | .met f x => h.get? a = some (PySem.W.methodObj (.ref f) (.ref x))
  | .ext φ => φ h ∧ (∃ o, h.get? a = some o) ∧ ∀ h1 h2 : Heap, φ h1 → (∀ o, h1.get? a = some o → h2.get? a = some o) → φ h2
/-- the abstract heap is held -/
def HOk (H : Hp) (h : Heap) : Prop := ∀ a o, H a = some o → ObjOk P w H h a o
end

section
variable {P : Program} {w : World} {H H' : Hp} {h h' : Heap} {a : Addr} {o : HO}
theorem ObjOk.lt (x : ObjOk P w H h a o) : a < h.objs.size := by
  cases o with
  | lst xs => obtain ⟨_, _, _, _, e⟩ := x; exact Heap.lt_size e
  | tup xs => obtain ⟨_, _, _, p⟩ := x; exact p.lt
  | dK kvs => obtain ⟨_, _, _, _, o, _, _, e, _⟩ := x; exact Heap.lt_size e
  | dT kvs => obtain ⟨_, _, _, _, o, _, _, e, _⟩ := x; exact Heap.lt_size e
  | set S n => obtain ⟨o, _, _, _, e, _⟩ := x; exact Heap.lt_size e
  | ins C dx fs => obtain ⟨_, _, _, e, _⟩ := x; exact Heap.lt_size e
  | own y => obtain ⟨_, e⟩ := x; exact Heap.lt_size e
  | xd fs => obtain ⟨_, ⟨_, _, _, e, _⟩, _⟩ := x; exact Heap.lt_size e
  | rng lo hi => obtain ⟨_, _, _, e⟩ := x; exact Heap.lt_size e
  | frz ob u => obtain ⟨e, _⟩ := x; exact Heap.lt_size e
  | tbl ps => exact Heap.lt_size (show h.get? a = some _ from x)
  | met f y => exact Heap.lt_size (show h.get? a = some _ from x)
  | ext φ => obtain ⟨_, ⟨_, e⟩, _⟩ := x; exact Heap.lt_size e
theorem Paired.mapP {α β : Type} {F G : α → β → Prop} : ∀ {l₁ : List α} {l₂ : List β}, Paired F l₁ l₂ → (∀ a b, F a b → G a b) → Paired G l₁ l₂
  | _, _, .nil, _ => .nil
  | _, _, .cons r t, f => .cons (f _ _ r) (Paired.mapP t f)
theorem Paired.imp' {α β : Type} {F G : α → β → Prop} (f : ∀ a b, F a b → G a b) {l₁ : List α} {l₂ : List β} (r : Paired F l₁ l₂) : Paired G l₁ l₂ := Paired.mapP r f
/-- what an object's description leans on: its own object, its own dict, the tuples -/
theorem ObjOk.stay (x : ObjOk P w H h a o) (k : ∀ b u, (b = a ∨ H b = some (.own a)) → h.get? b = some u → h'.get? b = some u)
    (ho : ∀ b, H b = some (.own a) → H' b = some (.own a)) (ht : ∀ b xs, H b = some (.tup xs) → H' b = some (.tup xs)) : ObjOk P w H' h' a o := by
  induction o with
  | lst xs => obtain ⟨z, its, n, r, e⟩ := x; exact ⟨z, its, n, r, k _ _ (.inl rfl) e⟩
  | tup xs => obtain ⟨z, its, r, ob, e, c⟩ := x; exact ⟨z, its, r, ob, k _ _ (.inl rfl) e, c⟩
  | dK kvs => obtain ⟨z, y, vs, r, ob, es, ep, e, c⟩ := x; exact ⟨z, y, vs, r, ob, es, ep, k _ _ (.inl rfl) e, c⟩
  | dT kvs =>
    obtain ⟨z, y, xs, r, ob, es, ep, e, c⟩ := x
    exact ⟨z, y, xs, Paired.mapP r fun p q z => ⟨z.1, ht _ _ z.2.1, z.2.2⟩, ob, es, ep, k _ _ (.inl rfl) e, c⟩
  | set S n => obtain ⟨ob, es, ep, t, e, c⟩ := x; exact ⟨ob, es, ep, t, k _ _ (.inl rfl) e, c⟩
  | ins C dx fs =>
    obtain ⟨d, z, ne, e, mA, ⟨od, es, ep, e2, c⟩, r⟩ := x
    exact ⟨ho _ d, z, ne, k _ _ (.inl rfl) e, mA, ⟨od, es, ep, k _ _ (.inr d) e2, c⟩, r⟩
  | own y => obtain ⟨ob, e⟩ := x; exact ⟨ob, k _ _ (.inl rfl) e⟩
  | xd fs => obtain ⟨mA, ⟨od, es, ep, e, c⟩, r⟩ := x; exact ⟨mA, ⟨od, es, ep, k _ _ (.inl rfl) e, c⟩, r⟩
  | rng lo hi => obtain ⟨t, u, v, e⟩ := x; exact ⟨t, u, v, k _ _ (.inl rfl) e⟩
  | frz ob u ih => obtain ⟨e, q⟩ := x; exact ⟨k _ _ (.inl rfl) e, ih q⟩
  | tbl ps =>
    have e : h.get? a = some { cls := .none, data := .fields ps } := x
    show h'.get? a = some { cls := .none, data := .fields ps }
    exact k a _ (.inl rfl) e
  | met f y =>
    have e : h.get? a = some (PySem.W.methodObj (.ref f) (.ref y)) := x
    show h'.get? a = some (PySem.W.methodObj (.ref f) (.ref y))
    exact k a _ (.inl rfl) e
  | ext φ => obtain ⟨p, ⟨o, e⟩, st⟩ := x; exact ⟨st _ _ p fun o q => k _ _ (.inl rfl) q, ⟨o, k _ _ (.inl rfl) e⟩, st⟩
theorem HOk.lt (x : HOk P w H h) (e : H a = some o) : a < h.objs.size := (x a o e).lt
theorem HOk.fresh (x : HOk P w H h) (e : h.objs.size ≤ a) : H a = none := by
  cases q : H a with
  | none => rfl
  | some u => exact absurd (Nat.lt_of_lt_of_le (x.lt q) e) (Nat.lt_irrefl _)
/-- every object of the heap is kept -/
theorem HOk.kept (x : HOk P w H h) (k : ∀ b u, h.get? b = some u → h'.get? b = some u) : HOk P w H h' := fun a o e =>
  (x a o e).stay (fun b u _ q => k b u q) (fun _ q => q) fun _ _ q => q
/-- a new object is laid and tracked -/
theorem HOk.laid (x : HOk P w H h) (k : ∀ b u, h.get? b = some u → h'.get? b = some u) (hp : h.objs.size ≤ a) (new : ObjOk P w (upd H a o) h' a o) : HOk P w (upd H a o) h' := fun b u e => by
  have hn := x.fresh hp
  by_cases hb : b = a
  · subst hb; rw [upd_same] at e; cases e; exact new
  · rw [upd_ne hb] at e
    exact (x b u e).stay (fun c v _ q => k c v q) (fun c q => by rw [upd_ne (ne_of_none q hn)]; exact q) fun c xs q => by rw [upd_ne (ne_of_none q hn)]; exact q
end

/-- what may be read as u: it is u, or a known u -/
def Rd (H : Hp) (a : Addr) (u : HO) : Prop := H a = some u ∨ ∃ o, H a = some (.frz o u)
theorem Rd.of {H : Hp} {a : Addr} {u : HO} (h : H a = some u) : Rd H a u := .inl h
theorem Rd.ok {P : Program} {w : World} {H : Hp} {h : Heap} {a : Addr} {u : HO} (r : Rd H a u) (x : HOk P w H h) : ObjOk P w H h a u := by
  rcases r with r | ⟨o, r⟩
  · exact x a u r
  · obtain ⟨_, q⟩ := x a _ r
    exact q
/-- what may be written -/
def Mut : Option HO → Prop
  | some (.lst _) => True
  | some (.dK _) => True
  | some (.dT _) => True
  | some (.set _ _) => True
  | some (.ins _ _ _) => True
  | some (.ext _) => True
  | _ => False
section
variable {P : Program} {w : World} {H : Hp} {h h' : Heap} {x e : Addr} {o' : HO}
/-- the object at e is changed: x itself, or the dict of the instance x -/
theorem HOk.write (ok : HOk P w H h) (mu : Mut (H x)) (he : e = x ∨ H e = some (.own x)) (k : ∀ b u, b ≠ e → h.get? b = some u → h'.get? b = some u) (heo : ∃ u, h'.get? e = some u)
    (new : ObjOk P w (upd H x o') h' x o') : HOk P w (upd H x o') h' := fun b u q => by
  have nown : ∀ c y, H c = some (.own y) → c ≠ x := fun c y r z => by subst z; rw [r] at mu; exact mu
  have ntup : ∀ c xs, H c = some (.tup xs) → c ≠ x := fun c xs r z => by subst z; rw [r] at mu; exact mu
  by_cases hb : b = x
  · subst hb; rw [upd_same] at q; cases q; exact new
  · rw [upd_ne hb] at q
    by_cases hbe : b = e
    · have q' : H b = some (.own x) := by
        rcases he with z | z
        · exact absurd (hbe.trans z) hb
        · rw [hbe]; exact z
      rw [q] at q'; cases q'
      obtain ⟨v, hv⟩ := heo
      exact ⟨v, by rw [hbe]; exact hv⟩
    · refine (ok b u q).stay (fun c v hc r => k c v ?_ r) (fun c r => by rw [upd_ne (nown c b r)]; exact r) fun c xs r => by rw [upd_ne (ntup c xs r)]; exact r
      rcases hc with rfl | hc
      · exact hbe
      · rintro rfl
        rcases he with z | z
        · exact nown c b hc z
        · rw [hc] at z; cases z; exact hb rfl
end

/-! ### kept unless tracked; of the frames at fs (the callers') the slots may change (an exception that passes writes there); of the records at ex (iterators) nothing is said -/
structure Un (fs ex : List Addr) (H H' : Hp) (h h' : Heap) : Prop where
  keep : ∀ b o, h.get? b = some o → H b = none → b ∉ fs → b ∉ ex → h'.get? b = some o
  slot : ∀ b o, h.get? b = some o → H b = none → b ∈ fs → b ∉ ex → ∃ sl, h'.get? b = some { o with slots := sl }
  free : ∀ b o, h.get? b = some o → H b = none → b ∉ ex → H' b = none
  there : ∀ b o, h.get? b = some o → b ∉ ex → ∃ o', h'.get? b = some o'
  tups : ∀ b xs, H b = some (.tup xs) → H' b = some (.tup xs)
  frzs : ∀ b o u, H b = some (.frz o u) → H' b = some (.frz o u)
  tbls : ∀ b ps, H b = some (.tbl ps) → ∃ more, H' b = some (.tbl (ps ++ more))
section
variable {fs fs' ex ex' : List Addr} {H H1 H2 : Hp} {h h1 h2 h' : Heap} {a x e : Addr} {o : HO}
theorem Un.any (u : Un fs ex H H1 h h1) {b : Addr} {ob : Obj} (q : h.get? b = some ob) (n : H b = none) (hx : b ∉ ex) : ∃ sl, h1.get? b = some { ob with slots := sl } := by
  by_cases hb : b ∈ fs
  · exact u.slot b ob q n hb hx
  · exact ⟨ob.slots, u.keep b ob q n hb hx⟩
theorem Un.trans (a : Un fs ex H H1 h h1) (b : Un fs ex H1 H2 h1 h2) : Un fs ex H H2 h h2 where
  keep := fun c ob q n hc hx => b.keep c ob (a.keep c ob q n hc hx) (a.free c ob q n hx) hc hx
  slot := fun c ob q n hc hx => by
    obtain ⟨sl, e1⟩ := a.slot c ob q n hc hx
    obtain ⟨sl', e2⟩ := b.slot c _ e1 (a.free c ob q n hx) hc hx
    exact ⟨sl', e2⟩
  free := fun c ob q n hx => by
    obtain ⟨o', e1⟩ := a.there c ob q hx
    exact b.free c o' e1 (a.free c ob q n hx) hx
  there := fun c ob q hx => by
    obtain ⟨o', e1⟩ := a.there c ob q hx
    exact b.there c o' e1 hx
  tups := fun c xs q => b.tups c xs (a.tups c xs q)
  frzs := fun c ob xs q => b.frzs c ob xs (a.frzs c ob xs q)
  tbls := fun c ps q => by
    obtain ⟨m1, e1⟩ := a.tbls c ps q
    obtain ⟨m2, e2⟩ := b.tbls c _ e1
    exact ⟨m1 ++ m2, by rw [e2, Array.append_assoc]⟩
theorem Un.kept (k : ∀ b u, h.get? b = some u → h'.get? b = some u) : Un fs ex H H h h' :=
  ⟨fun b ob q _ _ _ => k b ob q, fun b ob q _ _ _ => ⟨ob.slots, k b ob q⟩, fun _ _ _ n _ => n, fun b ob q _ => ⟨ob, k b ob q⟩, fun _ _ q => q, fun _ _ _ q => q, fun _ ps q => ⟨#[], by rw [q]; simp⟩⟩
theorem Un.refl : Un fs ex H H h h := Un.kept fun _ _ q => q
theorem Un.laid (k : ∀ b u, h.get? b = some u → h'.get? b = some u) (hp : h.objs.size ≤ a) (hn : H a = none) : Un fs ex H (upd H a o) h h' where
  keep := fun b u q _ _ _ => k b u q
  slot := fun b u q _ _ _ => ⟨u.slots, k b u q⟩
  free := fun b u q n _ => by rw [upd_ne (Nat.ne_of_lt (Nat.lt_of_lt_of_le (Heap.lt_size q) hp))]; exact n
  there := fun b u q _ => ⟨u, k b u q⟩
  tups := fun b xs q => by rw [upd_ne (ne_of_none q hn)]; exact q
  frzs := fun b u xs q => by rw [upd_ne (ne_of_none q hn)]; exact q
  tbls := fun b ps q => ⟨#[], by rw [upd_ne (ne_of_none q hn), q]; simp⟩
theorem Un.write (mu : Mut (H x)) (he : e = x ∨ H e = some (.own x)) (k : ∀ b u, b ≠ e → h.get? b = some u → h'.get? b = some u) (heo : ∃ u, h'.get? e = some u) : Un fs ex H (upd H x o) h h' := by
  have hx : ∀ b, H b = none → b ≠ x := fun b n z => by subst z; rw [n] at mu; exact mu
  have hb : ∀ b, H b = none → b ≠ e := fun b n z => by
    subst z
    rcases he with r | r
    · exact hx b n r
    · rw [n] at r; cases r
  have hm : ∀ b u, H b = some u → ¬ Mut (some u) → b ≠ x := fun b u q nm z => by subst z; rw [q] at mu; exact nm mu
  refine ⟨fun b u q n _ _ => k b u (hb b n) q, fun b u q n _ _ => ⟨u.slots, k b u (hb b n) q⟩, fun b u q n _ => by rw [upd_ne (hx b n)]; exact n, fun b u q _ => ?_,
    fun b xs q => by rw [upd_ne (hm b _ q fun z => z)]; exact q, fun b u xs q => by rw [upd_ne (hm b _ q fun z => z)]; exact q, fun b ps q => ⟨#[], by rw [upd_ne (hm b _ q fun z => z), q]; simp⟩⟩
  by_cases hbe : b = e
  · subst hbe; exact heo
  · exact ⟨u, k b u hbe q⟩
theorem Un.mono (u : Un fs ex H H1 h h1) (hs : ∀ b ∈ fs, b ∈ fs') (hx : ∀ b ∈ ex, b ∈ ex') : Un fs' ex' H H1 h h1 :=
  ⟨fun b ob q n hb he => u.keep b ob q n (fun z => hb (hs b z)) fun z => he (hx b z), fun _ _ q n _ he => u.any q n fun z => he (hx _ z), fun b ob q n he => u.free b ob q n fun z => he (hx b z), fun b ob q he => u.there b ob q fun z => he (hx b z), u.tups, u.frzs, u.tbls⟩
end

/-! ### the heap without what is tracked -/
def trk (h : Heap) (H : Hp) : List Addr := (List.range h.objs.size).filter fun a => (H a).isSome
def hidT (h : Heap) (H : Hp) : Heap := PySem.W.hideAll h (trk h H)
theorem hidT_size (h : Heap) (H : Hp) : (hidT h H).objs.size = h.objs.size := PySem.W.hideAll_size _ _
theorem hidT_get {h : Heap} {H : Hp} {b : Addr} {o : Obj} (e : h.get? b = some o) (n : H b = none) : (hidT h H).get? b = some o :=
  PySem.W.hideAll_get _ e fun hm => by
    have q : (H b).isSome = true := (List.mem_filter.mp hm).2
    rw [n] at q; simp at q
theorem of_hidT {h : Heap} {H : Hp} {b : Addr} {o : Obj} (e : (hidT h H).get? b = some o) : h.get? b = some o ∧ H b = none := by
  have e' : h.get? b = some o := PySem.W.of_hideAll (trk h H) e
  refine ⟨e', ?_⟩
  cases q : H b with
  | none => rfl
  | some x =>
    have hm : b ∈ trk h H := List.mem_filter.mpr ⟨List.mem_range.mpr (Heap.lt_size e'), by simp [q]⟩
    have z : (hidT h H).get? b = none := PySem.W.hideAll_none (trk h H) hm
    rw [z] at e; cases e

/-! ### OpenK's ledger, filled with every new object but one -/
def allNews (g h : Heap) (L : Addr) : List (Addr × Obj) := (List.range h.objs.size).filterMap fun a => if a = L ∨ (g.get? a).isSome = true then none else (h.get? a).map fun o => (a, o)
def rest (g h : Heap) (L d : Addr) : List (Addr × Obj) := (allNews g h L).filter fun p => decide (p.1 ≠ d)
end L2

namespace L2
open PySem PySem.Spec PyProof.Rows

/-- the module's facts, over the base: the heap at the law's entry without what is tracked there -/
structure Mod (K : PySem.W.Frag) (mg : Str → Option Value) (base : Heap) : Prop where
  kin : K.In base
  glob : base.Ns mainGlobals mg
  blt : ∃ mb, base.Ns builtinsNs mb ∧ ∀ x : Str, x ≠ "__name__" → mb x = bootBuiltins x
  nolimit : base.NoLimit

/-- the context: a def's body (or a comprehension's block) running. base: fixed through the whole law; s₀, H₀: the entry; outer: the frames whose slots others may change (a def's callers); stack: all frames that run;
   ex: iterators that were made ahead of the entry and are walked here (a comprehension's); fn: the names whose cells were made at the entry (a def: all; a comprehension's block: its own); calm: not within an except suite; pn: pins that every state bears; xe: what is wanted of an exception that leaves the code -/
structure Cx where
  prog : Program
  w : World
  K : PySem.W.Frag
  mg : Str → Option Value
  base : Heap
  A : Around
  N : List Str
  s₀ : Shared
  H₀ : Hp
  env : Env
  outer : List Env
  stack : List Env
  ex : List Addr
  fn : Str → Bool
  calm : Bool
  pn : List (Addr × Obj)
  xe : Value → Shared → Prop
/-- the callers' frames -/
def frs (l : List Env) : List Addr := l.filterMap (·.frame)
abbrev Cx.fs (X : Cx) : List Addr := frs X.outer

def Vis (sc : Scope) (x : Str) : Prop := sc.names.lookup x = some .local ∨ sc.names.lookup x = some .cell ∨ sc.names.lookup x = some .free
def Loc (sc : Scope) (x : Str) : Prop := sc.names.lookup x = some .local ∨ sc.names.lookup x = some .cell
def Look (env : Env) (h : Heap) (m : Str → Option Value) (x : Str) (u : Value) : Prop :=
  (env.kindOf x = some .local ∧ m x = some u) ∨ ((env.kindOf x = some .cell ∨ env.kindOf x = some .free) ∧ ∃ c, env.cells.lookup x = some c ∧ h.IsCell c (some u))

structure Cx.Ok (X : Cx) : Prop where
  mod : Mod X.K X.mg X.base
  kind : X.env.scope.kind = .function
  glob : X.env.globals = mainGlobals
  blt : X.env.builtins = builtinsNs
  above : X.s₀.heap.objs.size ≤ X.env.locals
  inj : ∀ x y c, X.env.cells.lookup x = some c → X.env.cells.lookup y = some c → x = y
  has : ∀ x, (X.env.kindOf x = some .cell ∨ X.env.kindOf x = some .free) → ∃ c, X.env.cells.lookup x = some c
  cab : ∀ x c, X.fn x = true → X.env.cells.lookup x = some c → X.s₀.heap.objs.size ≤ c
  hd : X.calm = true → X.A.handled = none
  frames : X.A.frames = some X.stack
  stk : X.stack = X.outer ∨ (X.stack = X.env :: X.outer ∧ X.env.frame = some X.env.locals)
  exf : ∀ b ∈ X.ex, b ≠ X.env.locals ∧ ∀ x c, X.env.cells.lookup x = some c → c ≠ b
  bs : ∀ b o, X.base.get? b = some o → X.s₀.heap.get? b = some o ∧ X.H₀ b = none
  bsz : X.base.objs.size ≤ X.s₀.heap.objs.size
  noex : ∀ b o, X.base.get? b = some o → b ∉ X.ex
  exfs : ∀ b ∈ X.ex, b ∉ X.fs
  funs : X.s₀.heap.FunFrames X.base X.outer
  frf : ∀ b ∈ X.fs, X.H₀ b = none

structure Inv (X : Cx) (pins : List (Addr × Obj)) (σ : List (Option V)) (H : Hp) (s : Shared) : Prop where
  ok : X.Ok
  os : s.os = X.s₀.os
  bare : AllBare s.gens
  base : Un X.fs X.ex X.H₀ H X.s₀.heap s.heap
  loc : ∃ m, s.heap.Ns X.env.locals m ∧ ∀ (i : Nat) (x : Str) (v : V), X.N[i]? = some x → σ[i]? = some (some v) → Vis X.env.scope x → ∃ u, RelV v u ∧ Look X.env s.heap m x u
  cell : ∀ x c, X.env.cells.lookup x = some c → ∃ v, s.heap.IsCell c v
  free : H X.env.locals = none
  freeC : ∀ x c, X.env.cells.lookup x = some c → H c = none
  pin : ∀ p ∈ X.pn ++ pins, s.heap.get? p.1 = some p.2 ∧ H p.1 = none ∧ p.1 ≠ X.env.locals ∧ p.1 ∉ X.fs ∧ ∀ v, p.2.data ≠ .cell v
  hok : HOk X.prog X.w H s.heap
  len : σ.length = X.N.length

section
variable {X : Cx} {pins : List (Addr × Obj)} {σ : List (Option V)} {H H' : Hp} {s : Shared} {h' : Heap}

theorem Cx.Ok.nofr (ok : X.Ok) {b : Addr} {o : Obj} (e : X.base.get? b = some o) : b ∉ X.fs := fun hb => by
  have := (ok.funs.mem hb).1
  rw [e] at this; cases this
theorem Inv.bs (I : Inv X pins σ H s) : ∀ b o, X.base.get? b = some o → s.heap.get? b = some o ∧ H b = none := fun b o e =>
  ⟨I.base.keep b o (I.ok.bs b o e).1 (I.ok.bs b o e).2 (I.ok.nofr e) (I.ok.noex b o e), I.base.free b o (I.ok.bs b o e).1 (I.ok.bs b o e).2 (I.ok.noex b o e)⟩
theorem Inv.bk (I : Inv X pins σ H s) : ∀ b o, X.base.get? b = some o → s.heap.get? b = some o := fun b o e => (I.bs b o e).1
theorem Inv.mod (I : Inv X pins σ H s) : Mod X.K X.mg X.base := I.ok.mod
theorem Inv.kIn (I : Inv X pins σ H s) : X.K.In s.heap := I.ok.mod.kin.keeps I.bk
theorem Inv.nolimit (I : Inv X pins σ H s) : s.heap.NoLimit := I.ok.mod.nolimit.keeps I.bk
/-- the frame over the base: for OpenK's rules (K.In X.base is I.mod.kin) -/
theorem Inv.fr (I : Inv X pins σ H s) : ∃ m, Fr X.base X.env.locals s.heap m :=
  let ⟨m, hn, _⟩ := I.loc
  ⟨m, hn, I.bk, Nat.le_trans I.ok.bsz I.ok.above⟩
theorem Inv.lt (I : Inv X pins σ H s) : X.env.locals < s.heap.objs.size := let ⟨_, hn, _⟩ := I.loc; hn.lt
theorem Inv.sz (I : Inv X pins σ H s) : X.s₀.heap.objs.size ≤ s.heap.objs.size := Nat.le_trans I.ok.above (Nat.le_of_lt I.lt)
theorem Inv.nofs (I : Inv X pins σ H s) {a : Addr} (h : s.heap.objs.size ≤ a) : a ∉ X.fs := fun hb => by
  obtain ⟨_, o, ho, _⟩ := I.ok.funs.mem hb
  exact absurd (Nat.lt_of_lt_of_le (Heap.lt_size ho) (Nat.le_trans I.sz h)) (Nat.lt_irrefl _)
theorem Inv.cne (I : Inv X pins σ H s) : ∀ x c, X.env.cells.lookup x = some c → c ≠ X.env.locals := fun x c e z => by
  obtain ⟨v, o, ho, hd⟩ := I.cell x c e
  obtain ⟨m, ⟨o', es, ep, ho', hd', _⟩, _⟩ := I.loc
  rw [z, ho'] at ho; cases ho; rw [hd'] at hd; cases hd
theorem Inv.funs (I : Inv X pins σ H s) : s.heap.FunFrames X.base X.outer := by
  have all : ∀ (l : List Env), (∀ b ∈ frs l, b ∈ X.fs) → X.s₀.heap.FunFrames X.base l → s.heap.FunFrames X.base l := by
    intro l
    induction l with
    | nil => intro _ _; trivial
    | cons env r ih =>
      intro hs hl
      obtain ⟨hk, ⟨L, o, hf, hn, ho, hd⟩, hr⟩ := hl
      have hL : L ∈ X.fs := hs L (by unfold frs; rw [List.filterMap_cons, hf]; exact List.mem_cons_self)
      obtain ⟨sl, e⟩ := I.base.slot L o ho (I.ok.frf L hL) hL fun z => I.ok.exfs L z hL
      exact ⟨hk, ⟨L, _, hf, hn, e, hd⟩, ih (fun b hb => hs b (by unfold frs; rw [List.filterMap_cons, hf]; exact List.mem_cons_of_mem _ hb)) hr⟩
  exact all X.outer (fun _ hb => hb) I.ok.funs

/-- the frames that run, for a call -/
theorem Inv.stack (I : Inv X pins σ H s) : s.heap.FunFrames X.base X.stack := by
  rcases I.ok.stk with e | ⟨e, hf⟩
  · rw [e]; exact I.funs
  · rw [e]
    obtain ⟨m, hn, _⟩ := I.loc
    refine .cons (by rw [I.ok.kind]; decide) hf hn ?_ I.funs
    exact Heap.get?_none_of_le (Nat.le_trans I.ok.bsz I.ok.above)
theorem Inv.stkSub (I : Inv X pins σ H s) : ∀ b ∈ frs X.stack, b ∈ X.env.locals :: X.fs := fun b hb => by
  rcases I.ok.stk with e | ⟨e, hf⟩
  · rw [e] at hb; exact List.mem_cons_of_mem _ hb
  · rw [e] at hb
    unfold frs at hb
    rw [List.filterMap_cons, hf] at hb
    exact hb
theorem Inv.stkFree (I : Inv X pins σ H s) : ∀ b ∈ frs X.stack, H b = none := fun b hb => by
  rcases List.mem_cons.mp (I.stkSub b hb) with e | hb
  · rw [e]; exact I.free
  · obtain ⟨_, o, ho, _⟩ := I.ok.funs.mem hb
    exact I.base.free b o ho (I.ok.frf b hb) fun z => I.ok.exfs b z hb

/-- THE STEP: the untracked objects but the frame and the records at ch are kept (the callers' frames up to slots), the frame's map is kept, the new abstract heap is held -/
theorem Inv.step {g' : Array GenState} {t' : Nat} {d' : Drawn} {ch : List Addr} (I : Inv X pins σ H s)
    (hch : ∀ b ∈ ch, (b ∈ X.ex ∨ X.s₀.heap.objs.size ≤ b) ∧ b ≠ X.env.locals ∧ (∀ x c, X.env.cells.lookup x = some c → c ≠ b) ∧ ∀ p ∈ X.pn ++ pins, p.1 ≠ b)
    (keep : ∀ b o, b ≠ X.env.locals → b ∉ X.fs → b ∉ ch → s.heap.get? b = some o → H b = none → h'.get? b = some o)
    (slot : ∀ b o, b ≠ X.env.locals → b ∈ X.fs → b ∉ ch → s.heap.get? b = some o → H b = none → ∃ sl, h'.get? b = some { o with slots := sl }) (free : ∀ b o, b ∉ ch → s.heap.get? b = some o → H b = none → H' b = none)
    (there : ∀ b o, b ∉ ch → s.heap.get? b = some o → ∃ o', h'.get? b = some o')
    (tups : ∀ b xs, H b = some (.tup xs) → H' b = some (.tup xs)) (frzs : ∀ b o u, H b = some (.frz o u) → H' b = some (.frz o u)) (tbls : ∀ b ps, H b = some (.tbl ps) → ∃ more, H' b = some (.tbl (ps ++ more)))
    (ns : ∀ m, s.heap.Ns X.env.locals m → h'.Ns X.env.locals m) (hok : HOk X.prog X.w H' h') (hg : AllBare g') :
    Inv X pins σ H' { s with heap := h', gens := g', drawn := d', toks := t' } := by
  have neL : ∀ b o, X.s₀.heap.get? b = some o → b ≠ X.env.locals := fun b o e => Nat.ne_of_lt (Nat.lt_of_lt_of_le (Heap.lt_size e) I.ok.above)
  have neC : ∀ b o, X.s₀.heap.get? b = some o → b ∉ X.ex → b ∉ ch := fun b o e hx hb => by
    rcases (hch b hb).1 with z | z
    · exact hx z
    · exact absurd (Nat.lt_of_lt_of_le (Heap.lt_size e) z) (Nat.lt_irrefl _)
  have cellK : ∀ x c, X.env.cells.lookup x = some c → ∀ v, s.heap.IsCell c v → h'.IsCell c v := fun x c e v ⟨o, ho, hd⟩ => by
    have nch : c ∉ ch := fun z => (hch c z).2.2.1 x c e rfl
    by_cases hc : c ∈ X.fs
    · obtain ⟨sl, q⟩ := slot c o (I.cne x c e) hc nch ho (I.freeC x c e)
      exact ⟨_, q, hd⟩
    · exact ⟨o, keep c o (I.cne x c e) hc nch ho (I.freeC x c e), hd⟩
  refine ⟨I.ok, I.os, hg, ⟨fun b o e n hb hx => ?_, fun b o e n hb hx => ?_, fun b o e n hx => ?_, fun b o e hx => ?_, fun b xs e => tups b xs (I.base.tups b xs e), fun b o xs e => frzs b o xs (I.base.frzs b o xs e), fun b ps e => ?_⟩, ?_, fun x c e => ?_, ?_, fun x c e => ?_, fun p hp => ?_, hok, I.len⟩
  · exact keep b o (neL b o e) hb (neC b o e hx) (I.base.keep b o e n hb hx) (I.base.free b o e n hx)
  · obtain ⟨sl, e1⟩ := I.base.slot b o e n hb hx
    obtain ⟨sl', e2⟩ := slot b _ (neL b o e) hb (neC b o e hx) e1 (I.base.free b o e n hx)
    exact ⟨sl', e2⟩
  · obtain ⟨o', e1⟩ := I.base.there b o e hx
    exact free b o' (neC b o e hx) e1 (I.base.free b o e n hx)
  · obtain ⟨o', e1⟩ := I.base.there b o e hx
    exact there b o' (neC b o e hx) e1
  · obtain ⟨m1, e1⟩ := I.base.tbls b ps e
    obtain ⟨m2, e2⟩ := tbls b _ e1
    exact ⟨m1 ++ m2, by rw [e2, Array.append_assoc]⟩
  · obtain ⟨m, hn, hl⟩ := I.loc
    refine ⟨m, ns m hn, fun i x v e1 e2 e3 => ?_⟩
    obtain ⟨u, r, l⟩ := hl i x v e1 e2 e3
    refine ⟨u, r, ?_⟩
    rcases l with l | ⟨k, c, e, z⟩
    · exact .inl l
    · exact .inr ⟨k, c, e, cellK x c e _ z⟩
  · obtain ⟨v, z⟩ := I.cell x c e
    exact ⟨v, cellK x c e v z⟩
  · obtain ⟨m, ⟨o, _, _, ho, _⟩, _⟩ := I.loc
    exact free _ o (fun z => (hch _ z).2.1 rfl) ho I.free
  · obtain ⟨v, o, ho, hd⟩ := I.cell x c e
    exact free c o (fun z => (hch c z).2.2.1 x c e rfl) ho (I.freeC x c e)
  · obtain ⟨e, n, ne, nf, d⟩ := I.pin p hp
    have nch : p.1 ∉ ch := fun z => (hch p.1 z).2.2.2 p hp rfl
    exact ⟨keep p.1 p.2 ne nf nch e n, free p.1 p.2 nch e n, ne, nf, d⟩
/-- .. where the frame's own object is kept too -/
theorem Inv.un {t' : Nat} (I : Inv X pins σ H s) (u : Un X.fs [] H H' s.heap h') (hok : HOk X.prog X.w H' h') : Inv X pins σ H' { s with heap := h', toks := t' } := by
  obtain ⟨m, ⟨o, es, ep, ho, r⟩, _⟩ := id I.loc
  obtain ⟨sl, hL⟩ := u.any ho I.free (by simp)
  exact I.step (g' := s.gens) (d' := s.drawn) (ch := []) (fun _ z => nomatch z) (fun b o _ hb _ e n => u.keep b o e n hb (by simp)) (fun b o _ hb _ e n => u.slot b o e n hb (by simp)) (fun b o _ e n => u.free b o e n (by simp)) (fun b o _ e => u.there b o e (by simp)) u.tups u.frzs u.tbls (fun m' hm => by
    obtain ⟨o', es', ep', ho', r'⟩ := hm
    rw [ho] at ho'; cases ho'
    exact ⟨_, es', ep', hL, r'⟩) hok I.bare
/-- behind a call (or a comprehension's block): the slots of this frame may have changed too, the records at ch may have turned -/
theorem Inv.call {g' : Array GenState} {t' : Nat} {d' : Drawn} {ch : List Addr} (I : Inv X pins σ H s) (u : Un (frs X.stack) ch H H' s.heap h') (hok : HOk X.prog X.w H' h') (hg : AllBare g')
    (hch : ∀ b ∈ ch, (b ∈ X.ex ∨ X.s₀.heap.objs.size ≤ b) ∧ b ≠ X.env.locals ∧ (∀ x c, X.env.cells.lookup x = some c → c ≠ b) ∧ ∀ p ∈ X.pn ++ pins, p.1 ≠ b) :
    Inv X pins σ H' { s with heap := h', gens := g', drawn := d', toks := t' } := by
  obtain ⟨m, ⟨o, es, ep, ho, r⟩, _⟩ := id I.loc
  obtain ⟨sl, hL⟩ := u.any ho I.free fun z => (hch _ z).2.1 rfl
  exact I.step (ch := ch) hch (fun b o hL hb hc e n => u.keep b o e n (fun z => (List.mem_cons.mp (I.stkSub b z)).elim hL hb) hc) (fun b o _ _ hc e n => u.any e n hc) (fun b o hc e n => u.free b o e n hc) (fun b o hc e => u.there b o e hc) u.tups u.frzs u.tbls (fun m' hm => by
    obtain ⟨o', es', ep', ho', r'⟩ := hm
    rw [ho] at ho'; cases ho'
    exact ⟨_, es', ep', hL, r'⟩) hok hg
/-- an untracked record of ours (an iterator) has turned -/
theorem Inv.turned {t' : Nat} {it : Addr} (I : Inv X pins σ H s) (k : ∀ b o, b ≠ it → s.heap.get? b = some o → h'.get? b = some o) (hn : H it = none) (hL : it ≠ X.env.locals)
    (h1 : it ∈ X.ex ∨ X.s₀.heap.objs.size ≤ it) (h2 : ∀ x c, X.env.cells.lookup x = some c → c ≠ it) (h3 : ∀ p ∈ X.pn ++ pins, p.1 ≠ it) : Inv X pins σ H { s with heap := h', toks := t' } := by
  have nit : ∀ b u, H b = some u → b ≠ it := fun b u e z => by rw [z, hn] at e; cases e
  refine I.step (g' := s.gens) (d' := s.drawn) (ch := [it]) (fun b hb => ?_) (fun b o _ _ hc e _ => k b o (fun z => hc (by simp [z])) e) (fun b o _ _ hc e _ => ⟨o.slots, k b o (fun z => hc (by simp [z])) e⟩) (fun _ _ _ _ n => n)
    (fun b o hc e => ⟨o, k b o (fun z => hc (by simp [z])) e⟩) (fun _ _ e => e) (fun _ _ _ e => e) (fun b ps e => ⟨#[], by rw [e]; simp⟩) (fun m hm => ?_) (fun b u e => ?_) I.bare
  · have e : b = it := by simpa using hb
    subst e
    exact ⟨h1, hL, h2, h3⟩
  · obtain ⟨o, es, ep, ho, r⟩ := hm
    exact ⟨o, es, ep, k _ o (Ne.symm hL) ho, r⟩
  · refine (I.hok b u e).stay (fun c v hc q => k c v ?_ q) (fun _ q => q) fun _ _ q => q
    rcases hc with z | z
    · rw [z]; exact nit b u e
    · exact nit c _ z
theorem Inv.tok (I : Inv X pins σ H s) (t : Nat) : Inv X pins σ H { s with toks := t } := I.un (h' := s.heap) (t' := t) Un.refl I.hok
/-- all objects kept -/
theorem Inv.kept {t' : Nat} (I : Inv X pins σ H s) (k : ∀ b u, s.heap.get? b = some u → h'.get? b = some u) : Inv X pins σ H { s with heap := h', toks := t' } := I.un (Un.kept k) (I.hok.kept k)
/-- a new object laid and tracked -/
theorem Inv.laid {a : Addr} {o : HO} {t' : Nat} (I : Inv X pins σ H s) (k : ∀ b u, s.heap.get? b = some u → h'.get? b = some u) (hp : s.heap.objs.size ≤ a) (new : ObjOk X.prog X.w (upd H a o) h' a o) :
    Inv X pins σ (upd H a o) { s with heap := h', toks := t' } := I.un (Un.laid k hp (I.hok.fresh hp)) (I.hok.laid k hp new)
/-- an object written -/
theorem Inv.write {x e : Addr} {o : HO} {t' : Nat} (I : Inv X pins σ H s) (mu : Mut (H x)) (he : e = x ∨ H e = some (.own x)) (k : ∀ b u, b ≠ e → s.heap.get? b = some u → h'.get? b = some u) (heo : ∃ u, h'.get? e = some u)
    (new : ObjOk X.prog X.w (upd H x o) h' x o) : Inv X pins σ (upd H x o) { s with heap := h', toks := t' } := I.un (Un.write mu he k heo) (I.hok.write mu he k heo new)
/-- forgetting slots, pins -/
theorem Inv.weak {σ' : List (Option V)} (I : Inv X pins σ H s) (hl : σ'.length = σ.length) (w : ∀ (i : Nat) v, σ'[i]? = some (some v) → σ[i]? = some (some v)) : Inv X pins σ' H s :=
  ⟨I.ok, I.os, I.bare, I.base, let ⟨m, hn, hl'⟩ := I.loc; ⟨m, hn, fun i x v e1 e2 e3 => hl' i x v e1 (w i v e2) e3⟩, I.cell, I.free, I.freeC, I.pin, I.hok, hl.trans I.len⟩
theorem Inv.pins_of {pins' : List (Addr × Obj)} (I : Inv X pins σ H s) (h : ∀ p ∈ pins', s.heap.get? p.1 = some p.2 ∧ H p.1 = none ∧ p.1 ≠ X.env.locals ∧ p.1 ∉ X.fs ∧ ∀ v, p.2.data ≠ .cell v) : Inv X pins' σ H s :=
  ⟨I.ok, I.os, I.bare, I.base, I.loc, I.cell, I.free, I.freeC, fun p hp => (List.mem_append.mp hp).elim (fun z => I.pin p (List.mem_append_left _ z)) (h p), I.hok, I.len⟩

theorem nodup_ix {N : List Str} (hN : N.Nodup) {i j : Nat} {x : Str} (a : N[i]? = some x) (b : N[j]? = some x) : i = j := by
  obtain ⟨h1, e1⟩ := List.getElem?_eq_some_iff.mp a
  obtain ⟨h2, e2⟩ := List.getElem?_eq_some_iff.mp b
  exact (List.getElem_inj hN).mp (e1.trans e2.symm)

/-- a name is stored; what changed -/
theorem store_ok2 {M : Model} {A : Around} {E : Value → Shared → Prop} {i : Nat} {x : Str} {v : V} {u : Value} {Q : Unit → Shared → Prop} (I : Inv X pins σ H s) (hN : X.N.Nodup) (hi : X.N[i]? = some x) (hx : Loc X.env.scope x) (r : RelV v u)
    (h : ∀ s', Inv X pins (σ.set i (some v)) H s' → (∃ a, Heap.SameBut a s.heap s'.heap ∧ (a = X.env.locals ∨ X.env.cells.lookup x = some a)) → Q () s') (hf : X.fn x = true ∨ X.env.scope.names.lookup x = some .local := by first | exact .inl rfl | exact .inr rfl | assumption) : wpAny M A (storeName X.env x u) Q E s := by
  obtain ⟨m, hn, hl⟩ := id I.loc
  have hcls : (X.env.scope.kind == .class || (X.env.scope.kind == .module && X.env.locals != X.env.globals)) = false := by rw [I.ok.kind]; rfl
  have hiσ : i < σ.length := by rw [I.len]; exact (List.getElem?_eq_some_iff.mp hi).1
  have cne := I.cne
  have tracked : ∀ {a : Addr} {h' : Heap}, (∃ o, s.heap.get? a = some o ∧ H a = none) → Heap.SameBut a s.heap h' → HOk X.prog X.w H h' := fun {a h'} ha hs b ob e => by
    obtain ⟨_, _, hfree⟩ := ha
    refine (I.hok b ob e).stay (fun c w' hc q => (hs.2 c ?_).trans q) (fun _ q => q) fun _ _ q => q
    rintro rfl
    rcases hc with rfl | hc
    · rw [hfree] at e; cases e
    · rw [hfree] at hc; cases hc
  rcases hx with hk | hk
  · refine wpAny_storeName_local hk hn (fun h' hn' hs => ?_) hcls
    obtain ⟨oL, _, _, hoL, _⟩ := id hn
    refine h _ ⟨I.ok, I.os, I.bare, ⟨fun b o e n hb hx => ?_, fun b o e n hb hx => ?_, I.base.free, fun b o e hx => ?_, I.base.tups, I.base.frzs, I.base.tbls⟩, ⟨_, hn', fun j y v' e1 e2 e3 => ?_⟩, fun y c e => ?_, I.free, I.freeC, fun p hp => ?_, tracked ⟨oL, hoL, I.free⟩ hs, by simpa using I.len⟩ ⟨_, hs, .inl rfl⟩
    · exact (hs.2 b (Nat.ne_of_lt (Nat.lt_of_lt_of_le (Heap.lt_size e) I.ok.above))).trans (I.base.keep b o e n hb hx)
    · obtain ⟨sl, e1⟩ := I.base.slot b o e n hb hx
      exact ⟨sl, (hs.2 b (Nat.ne_of_lt (Nat.lt_of_lt_of_le (Heap.lt_size e) I.ok.above))).trans e1⟩
    · obtain ⟨o', e1⟩ := I.base.there b o e hx
      exact ⟨o', (hs.2 b (Nat.ne_of_lt (Nat.lt_of_lt_of_le (Heap.lt_size e) I.ok.above))).trans e1⟩
    · by_cases hj : j = i
      · subst hj
        rw [hi] at e1; cases e1
        rw [List.getElem?_set_self hiσ] at e2
        cases e2
        exact ⟨u, r, .inl ⟨hk, by simp⟩⟩
      · rw [List.getElem?_set_ne (Ne.symm hj)] at e2
        obtain ⟨u', r', q⟩ := hl j y v' e1 e2 e3
        refine ⟨u', r', ?_⟩
        rcases q with ⟨k, e⟩ | ⟨k, c, e, z⟩
        · refine .inl ⟨k, ?_⟩
          have : y ≠ x := fun e => hj (nodup_ix hN e1 (e ▸ hi))
          simp [this, e]
        · exact .inr ⟨k, c, e, z.sameBut hs (cne y c e)⟩
    · obtain ⟨w', z⟩ := I.cell y c e
      exact ⟨w', z.sameBut hs (cne y c e)⟩
    · obtain ⟨e, n, ne, nf, d⟩ := I.pin p hp
      exact ⟨(hs.2 p.1 ne).trans e, n, ne, nf, d⟩
  · have hfn : X.fn x = true := by
      rcases hf with z | z
      · exact z
      · rw [z] at hk; cases hk
    obtain ⟨c, hc⟩ := I.ok.has x (.inl hk)
    obtain ⟨w', z⟩ := I.cell x c hc
    refine wpAny_storeName_cell I.ok.kind hk hc z (fun h' hc' hs => ?_)
    obtain ⟨oc, hoc, hocd⟩ := id z
    refine h { s with heap := h' } ⟨I.ok, I.os, I.bare, ⟨fun b o e n hb hx => ?_, fun b o e n hb hx => ?_, I.base.free, fun b o e hx => ?_, I.base.tups, I.base.frzs, I.base.tbls⟩, ⟨m, hn.sameBut hs (Ne.symm (cne x c hc)), fun j y v' e1 e2 e3 => ?_⟩, fun y c' e => ?_, I.free, I.freeC, fun p hp => ?_, tracked ⟨oc, hoc, I.freeC x c hc⟩ hs, by simpa using I.len⟩ ⟨c, hs, .inr hc⟩
    · exact (hs.2 b (Nat.ne_of_lt (Nat.lt_of_lt_of_le (Heap.lt_size e) (I.ok.cab x c hfn hc)))).trans (I.base.keep b o e n hb hx)
    · obtain ⟨sl, e1⟩ := I.base.slot b o e n hb hx
      exact ⟨sl, (hs.2 b (Nat.ne_of_lt (Nat.lt_of_lt_of_le (Heap.lt_size e) (I.ok.cab x c hfn hc)))).trans e1⟩
    · obtain ⟨o', e1⟩ := I.base.there b o e hx
      exact ⟨o', (hs.2 b (Nat.ne_of_lt (Nat.lt_of_lt_of_le (Heap.lt_size e) (I.ok.cab x c hfn hc)))).trans e1⟩
    · by_cases hj : j = i
      · subst hj
        rw [hi] at e1; cases e1
        rw [List.getElem?_set_self hiσ] at e2
        cases e2
        exact ⟨u, r, .inr ⟨.inl hk, c, hc, hc'⟩⟩
      · rw [List.getElem?_set_ne (Ne.symm hj)] at e2
        obtain ⟨u', r', q⟩ := hl j y v' e1 e2 e3
        refine ⟨u', r', ?_⟩
        rcases q with q | ⟨k, c', e, z'⟩
        · exact .inl q
        · refine .inr ⟨k, c', e, z'.sameBut hs ?_⟩
          rintro rfl
          exact hj (nodup_ix hN e1 (I.ok.inj _ _ _ e hc ▸ hi))
    · by_cases hcc : c' = c
      · subst hcc; exact ⟨_, hc'⟩
      · obtain ⟨w2, z2⟩ := I.cell y c' e
        exact ⟨w2, z2.sameBut hs hcc⟩
    · obtain ⟨e, n, ne, nf, d⟩ := I.pin p hp
      refine ⟨(hs.2 p.1 ?_).trans e, n, ne, nf, d⟩
      intro q
      rw [q, hoc] at e
      have q' : oc = p.2 := Option.some.inj e
      exact d w' (by rw [← q']; exact hocd)
theorem store_ok {M : Model} {A : Around} {E : Value → Shared → Prop} {i : Nat} {x : Str} {v : V} {u : Value} {Q : Unit → Shared → Prop} (I : Inv X pins σ H s) (hN : X.N.Nodup) (hi : X.N[i]? = some x) (hx : Loc X.env.scope x) (r : RelV v u)
    (h : ∀ s', Inv X pins (σ.set i (some v)) H s' → Q () s') (hf : X.fn x = true ∨ X.env.scope.names.lookup x = some .local := by first | exact .inl rfl | exact .inr rfl | assumption) : wpAny M A (storeName X.env x u) Q E s :=
  store_ok2 I hN hi hx r (fun s' I' _ => h s' I') hf
/-- behind a call or a block, the state as it is -/
theorem Inv.call' {s' : Shared} {ch : List Addr} (I : Inv X pins σ H s) (ho : s'.os = s.os) (u : Un (frs X.stack) ch H H' s.heap s'.heap) (hok : HOk X.prog X.w H' s'.heap) (hg : AllBare s'.gens)
    (hch : ∀ b ∈ ch, (b ∈ X.ex ∨ X.s₀.heap.objs.size ≤ b) ∧ b ≠ X.env.locals ∧ (∀ x c, X.env.cells.lookup x = some c → c ≠ b) ∧ ∀ p ∈ X.pn ++ pins, p.1 ≠ b) : Inv X pins σ H' s' := by
  obtain ⟨h', g', d', t', o'⟩ := s'
  have e : o' = s.os := ho
  subst e
  exact I.call (g' := g') (t' := t') (d' := d') u hok hg hch
end

/-! ### the judgements -/
/-- an exception: its class, its own dict's address (where it has one), the abstract heap behind it -/
abbrev XK := Value → Option Addr → Hp → Prop
abbrev St := List (Option V)
abbrev VK := V → Hp → Prop
/-- an expression's reading; a test's; an argument list's -/
abbrev TE := St → Hp → VK → Prop
abbrev TT := St → Hp → (Bool → Hp → Prop) → Prop
abbrev TA := St → Hp → (List V → Hp → Prop) → Prop
/-- what is wanted behind a statement -/
structure Ends where
  nx : St → Hp → Prop
  rt : VK
  bk : St → Hp → Prop := fun _ _ => False
  ct : St → Hp → Prop := fun _ _ => False
abbrev TS := Ends → St → Hp → Prop

def EP (X : Cx) (pins : List (Addr × Obj)) (σ : St) (Q : VK) (u : Value) (s' : Shared) : Prop := ∃ v H', Inv X pins σ H' s' ∧ RelV v u ∧ Q v H'
def TP (X : Cx) (pins : List (Addr × Obj)) (σ : St) (Q : Bool → Hp → Prop) (b : Bool) (s' : Shared) : Prop := ∃ H', Inv X pins σ H' s' ∧ Q b H'
def AP (X : Cx) (pins : List (Addr × Obj)) (σ : St) (Q : List V → Hp → Prop) (us : List Value) (s' : Shared) : Prop := ∃ vs H', Inv X pins σ H' s' ∧ Vals vs us ∧ Q vs H'
def SP (X : Cx) (pins : List (Addr × Obj)) (D : Ends) (f : Flow) (s' : Shared) : Prop :=
  match f with
  | .next => ∃ σ' H', Inv X pins σ' H' s' ∧ D.nx σ' H'
  | .brk => ∃ σ' H', Inv X pins σ' H' s' ∧ D.bk σ' H'
  | .cont => ∃ σ' H', Inv X pins σ' H' s' ∧ D.ct σ' H'
  | .ret u => ∃ v σ' H', Inv X pins σ' H' s' ∧ RelV v u ∧ D.rt v H'

def PE (X : Cx) (e : Expr) (t : TE) : Prop :=
  ∀ (pins : List (Addr × Obj)) (s : Shared) (σ : St) (H : Hp) (Q : VK), Inv X pins σ H s → t σ H Q → wpAny (model X.prog X.w) X.A (eval e X.env) (EP X pins σ Q) X.xe s
def PT (X : Cx) (e : Expr) (t : TT) : Prop :=
  ∀ (pins : List (Addr × Obj)) (s : Shared) (σ : St) (H : Hp) (Q : Bool → Hp → Prop), Inv X pins σ H s → t σ H Q → wpAny (model X.prog X.w) X.A (isTrue e X.env (eval e X.env)) (TP X pins σ Q) X.xe s
/-- a test whatever its 'whole' is (and, or) -/
def PW (X : Cx) (e : Expr) (t : TT) : Prop :=
  ∀ (whole : Sem Value) (pins : List (Addr × Obj)) (s : Shared) (σ : St) (H : Hp) (Q : Bool → Hp → Prop), Inv X pins σ H s → t σ H Q → wpAny (model X.prog X.w) X.A (isTrue e X.env whole) (TP X pins σ Q) X.xe s
theorem PW.pt {X : Cx} {e : Expr} {t : TT} (h : PW X e t) : PT X e t := h _
/-- an argument list (no star), from the left -/
def PA (X : Cx) (es : List Expr) (t : TA) : Prop :=
  ∀ (pos : Pos) (pins : List (Addr × Obj)) (s : Shared) (σ : St) (H : Hp) (Q : List V → Hp → Prop), Inv X pins σ H s → t σ H Q → wpAny (model X.prog X.w) X.A (spliced (backTo pos (starEach es X.env))) (AP X pins σ Q) X.xe s
def PS (X : Cx) (st : Stmt) (t : TS) : Prop :=
  ∀ (pins : List (Addr × Obj)) (s : Shared) (σ : St) (H : Hp) (D : Ends), Inv X pins σ H s → t D σ H → wpAny (model X.prog X.w) X.A (exec st X.env) (SP X pins D) X.xe s
def PSs (X : Cx) (st : List Stmt) (t : TS) : Prop :=
  ∀ (pins : List (Addr × Obj)) (s : Shared) (σ : St) (H : Hp) (D : Ends), Inv X pins σ H s → t D σ H → wpAny (model X.prog X.w) X.A (execs st X.env) (SP X pins D) X.xe s
/-- weaken the end -/
theorem thn {α : Type} {t : Sem α} {Q Q' : α → Shared → Prop} {M : Model} {A : Around} {E : Value → Shared → Prop} {s : Shared} (h : wpAny M A t Q E s) (hQ : ∀ a s, Q a s → Q' a s) : wpAny M A t Q' E s := wpAny_mono h hQ fun _ _ x => x
end L2

namespace L2
open PySem PySem.Spec PyProof.Rows
section
variable {X : Cx}

/-! ### names and constants -/
def tVar (i : Nat) : TE := fun σ H Q => ∃ v, σ[i]? = some (some v) ∧ Q v H
def tC (v : V) : TE := fun _ H Q => Q v H
theorem pe_var {i : Nat} {x : Str} {pos : Pos} (hN : X.N[i]? = some x) (hv : Vis X.env.scope x) (hd : (x == ("__debug__" : Str)) = false := by decide) (hcd : (x == ("__classdict__" : Str)) = false := by decide) : PE X (.Name x pos) (tVar i) := by
  intro pins s σ H Q I h
  obtain ⟨v, e, h⟩ := h
  obtain ⟨m, hn, hl⟩ := I.loc
  obtain ⟨u, r, l⟩ := hl i x v hN e hv
  have fin : EP X pins σ Q u s := ⟨v, H, I, r, h⟩
  rcases l with ⟨hk, hm⟩ | ⟨hk, c, hc, hcell⟩
  · exact wpAny_Name (wpAny_loadName_local I.ok.kind hk hn hm fin) hd
  · rcases hk with hk | hk
    · exact wpAny_Name (wpAny_loadName_cell I.ok.kind hk hc hcell fin) hd
    · exact wpAny_Name (wpAny_loadName_free I.ok.kind hk hc hcell fin hcd) hd
theorem pe_int {i j pos} : PE X (.Constant (.int i) j pos) (tC (.int i)) := fun _ _ _ H _ I h => wpAny_Constant_int ⟨.int i, H, I.tok _, ⟨_, rfl⟩, h⟩
theorem pe_bl {b j pos} : PE X (.Constant (.bool b) j pos) (tC (.bl b)) := fun _ _ _ H _ I h => Constant_bool ⟨.bl b, H, I, rfl, h⟩
theorem pe_non {j pos} : PE X (.Constant .none j pos) (tC .non) := fun _ _ _ H _ I h => Constant_none ⟨.non, H, I, rfl, h⟩
theorem pe_str {x j pos} : PE X (.Constant (.str x) j pos) (tC (.str x)) := fun _ _ _ H _ I h => Calls.Constant_str ⟨.str x, H, I.tok _, ⟨_, rfl⟩, h⟩

/-- a global name of the def -/
def Gl (X : Cx) (x : Str) : Prop := X.env.kindOf x = some .globalImplicit
theorem ld_glob {E : Value → Shared → Prop} {pins : List (Addr × Obj)} {s : Shared} {σ : St} {H : Hp} {x : Str} {u : Value} {pos : Pos} {Q : Value → Shared → Prop} (I : Inv X pins σ H s) (hg : Gl X x) (hm : X.mg x = some u) (h : Q u s)
    (hd : (x == ("__debug__" : Str)) = false := by decide) : wpAny (model X.prog X.w) X.A (eval (.Name x pos) X.env) Q E s :=
  Calls.Name_function_global I.ok.kind hg (Calls.loadGlobal_global (by rw [I.ok.glob]; exact I.mod.glob.keeps I.bk) hm h) hd
theorem ld_blt {E : Value → Shared → Prop} {pins : List (Addr × Obj)} {s : Shared} {σ : St} {H : Hp} {x : Str} {u : Value} {pos : Pos} {Q : Value → Shared → Prop} (I : Inv X pins σ H s) (hg : Gl X x) (hm : X.mg x = none) (hv : bootBuiltins x = some u) (h : Q u s)
    (hn : x ≠ "__name__" := by decide) (hd : (x == ("__debug__" : Str)) = false := by decide) : wpAny (model X.prog X.w) X.A (eval (.Name x pos) X.env) Q E s := by
  obtain ⟨mb, h1, h2⟩ := I.mod.blt
  exact Calls.Name_function_global I.ok.kind hg (Calls.loadGlobal_builtin (by rw [I.ok.glob]; exact I.mod.glob.keeps I.bk) hm (by rw [I.ok.blt]; exact h1.keeps I.bk) ((h2 x hn).trans hv) h) hd
theorem pe_bltn {x : Str} {v : V} {u : Value} {pos : Pos} (hg : Gl X x) (hm : X.mg x = none) (hv : bootBuiltins x = some u) (r : RelV v u) (hn : x ≠ "__name__" := by decide) (hd : (x == ("__debug__" : Str)) = false := by decide) : PE X (.Name x pos) (tC v) :=
  fun _ _ _ H _ I h => ld_blt I hg hm hv ⟨v, H, I, r, h⟩ hn hd

/-! ### arithmetic -/
variable {a b : Expr} {ta tb : TE} {pos : Pos}
/-! ### comparisons -/
/-- a comparison as a value, as a test -/
def tB (t : TE) : TT := fun σ H Q => t σ H fun x H1 => ∃ c, x = .bl c ∧ Q c H1
/-- an expression whose value is a bool, as a test -/
theorem pt_val {e : Expr} {t : TE} (h : PE X e t) (he : ∀ whole, isTrue e X.env whole = (do let v ← whole; standAt e.pos; holding [v] (truthy v)) := by intro _; rfl) : PT X e (tB t) := by
  intro pins s σ H Q I hw
  refine isTrue_plain (thn (h pins s σ H _ I hw) fun v s1 ⟨x, H1, I1, r1, q1⟩ => ?_) (he _)
  obtain ⟨d, rfl, q⟩ := q1
  cases r1
  exact wpAny_truthy_bool ⟨H1, I1, q⟩

/-! ### and, or, not -/
variable {tA tB' : TT} {rest : List Expr}
def tAnd (t u : TT) : TT := fun σ H Q => t σ H fun c H1 => if c = true then u σ H1 Q else Q false H1
def tOr (t u : TT) : TT := fun σ H Q => t σ H fun c H1 => if c = true then Q true H1 else u σ H1 Q
def tNot (t : TT) : TT := fun σ H Q => t σ H fun c H1 => Q (!c) H1
theorem pw_and1 (ha : PT X a tA) : PW X (.BoolOp .And [a] pos) tA := by
  intro wh pins s σ H Q I h
  refine isTrue_and (thn (ha pins s σ H Q I h) fun c s1 e => ?_)
  cases c with
  | true => exact isTrue_and_nil e
  | false => exact e
theorem pw_or1 (ha : PT X a tA) : PW X (.BoolOp .Or [a] pos) tA := by
  intro wh pins s σ H Q I h
  refine isTrue_or (thn (ha pins s σ H Q I h) fun c s1 e => ?_)
  cases c with
  | false => exact isTrue_or_nil e
  | true => exact e
theorem pw_and (ha : PT X a tA) (hb : PW X (.BoolOp .And (b :: rest) pos) tB') : PW X (.BoolOp .And (a :: b :: rest) pos) (tAnd tA tB') := by
  intro wh pins s σ H Q I h
  refine isTrue_and (thn (ha pins s σ H _ I h) fun c s1 ⟨H1, I1, q1⟩ => ?_)
  cases c with
  | true => exact hb wh pins s1 σ H1 Q I1 q1
  | false => exact ⟨H1, I1, q1⟩
theorem pw_or (ha : PT X a tA) (hb : PW X (.BoolOp .Or (b :: rest) pos) tB') : PW X (.BoolOp .Or (a :: b :: rest) pos) (tOr tA tB') := by
  intro wh pins s σ H Q I h
  refine isTrue_or (thn (ha pins s σ H _ I h) fun c s1 ⟨H1, I1, q1⟩ => ?_)
  cases c with
  | true => exact ⟨H1, I1, q1⟩
  | false => exact hb wh pins s1 σ H1 Q I1 q1
theorem pt_not (ha : PT X a tA) : PT X (.UnaryOp .Not a pos) (tNot tA) := by
  intro pins s σ H Q I h
  exact isTrue_not (ha pins s σ H (fun c H1 => Q (!c) H1) I h)
/-- .. as values (bools) -/
def tAndV (ta tb : TE) : TE := fun σ H Q => ta σ H fun x H1 => ∃ c, x = .bl c ∧ if c = true then tb σ H1 Q else Q (.bl false) H1
def tNotV (ta : TE) : TE := fun σ H Q => ta σ H fun x H1 => ∃ c, x = .bl c ∧ Q (.bl (!c)) H1
theorem pe_one {op} {t : TE} (h : PE X a t) : PE X (.BoolOp op [a] pos) t := fun pins s σ H Q I hw => BoolOp_one (h pins s σ H Q I hw)
theorem pe_and (ha : PE X a ta) (hb : PE X (.BoolOp .And (b :: rest) pos) tb) : PE X (.BoolOp .And (a :: b :: rest) pos) (tAndV ta tb) := by
  intro pins s σ H Q I h
  refine BoolOp_and (thn (ha pins s σ H _ I h) fun v s1 ⟨x, H1, I1, r1, q1⟩ => ?_)
  obtain ⟨c, rfl, q1⟩ := q1
  cases r1
  refine wpAny_truthy_bool ?_
  cases c with
  | true => exact hb pins s1 σ H1 Q I1 q1
  | false => exact ⟨.bl false, H1, I1, rfl, q1⟩
theorem pe_not (ha : PE X a ta) : PE X (.UnaryOp .Not a pos) (tNotV ta) := by
  intro pins s σ H Q I h
  refine UnaryOp_ (thn (ha pins s σ H _ I h) fun v s1 ⟨x, H1, I1, r1, q1⟩ => ?_)
  obtain ⟨c, rfl, q1⟩ := q1
  cases r1
  exact not_of (wpAny_truthy_bool ⟨.bl (!c), H1, I1, rfl, q1⟩)
/-- a if t else b -/
def tIf (t : TT) (ta tb : TE) : TE := fun σ H Q => t σ H fun c H1 => if c = true then ta σ H1 Q else tb σ H1 Q
theorem pe_ifExp {c : Expr} (hc : PT X c tA) (ha : PE X a ta) (hb : PE X b tb) : PE X (.IfExp c a b pos) (tIf tA ta tb) := by
  intro pins s σ H Q I h
  refine wpAny_IfExp (thn (hc pins s σ H _ I h) fun d s1 ⟨H1, I1, q1⟩ => ?_)
  cases d with
  | true => exact ha pins s1 σ H1 Q I1 q1
  | false => exact hb pins s1 σ H1 Q I1 q1
end
end L2

namespace L2
open PySem PySem.Spec PyProof.Rows

/-! ### a list, a tuple that is read: tracked, frozen, or an object of the module -/
def SqL (K : PySem.W.Frag) (H : Hp) (a : Addr) (xs : List V) : Prop :=
  Rd H a (.lst xs) ∨
    ∃ (o : Obj) (its : Array Value) (n : Nat), K.lookup a = some o ∧ o.cls = .type "list" ∧ o.dict = none ∧ o.data = .seq its n ∧ its.size ≤ sizeLine ∧ Vals xs its.toList
def SqT (K : PySem.W.Frag) (H : Hp) (a : Addr) (xs : List V) : Prop :=
  Rd H a (.tup xs) ∨
    ∃ (o : Obj) (its : Array Value) (n : Nat), K.lookup a = some o ∧ o.cls = .type "tuple" ∧ o.data = .seq its n ∧ its.size ≤ sizeLine ∧ Vals xs its.toList
def absV : Value → Option V
  | .none => some .non
  | .bool b => some (.bl b)
  | .int i _ => some (.int i)
  | .str x _ => some (.str x)
  | .bytes b _ => some (.byt b)
  | .float b _ => some (.flt b)
  | .ref a => some (.ref a)
  | .type n => some (.ty n)
  | _ => none
theorem RelV.abs {x : V} {u : Value} (r : RelV x u) : absV u = some x := by
  cases x with
  | non => cases r; rfl
  | bl _ => cases r; rfl
  | int _ => obtain ⟨t, rfl⟩ := r; rfl
  | str _ => obtain ⟨t, rfl⟩ := r; rfl
  | byt _ => obtain ⟨t, rfl⟩ := r; rfl
  | flt _ => obtain ⟨t, rfl⟩ := r; rfl
  | ref _ => cases r; rfl
  | ty _ => cases r; rfl
theorem RelV.inj {x y : V} {u : Value} (r : RelV x u) (q : RelV y u) : x = y := Option.some.inj (r.abs.symm.trans q.abs)
theorem Vals.inj : ∀ {xs ys : List V} {us : List Value}, Vals xs us → Vals ys us → xs = ys
  | _, _, _, .nil, .nil => rfl
  | _, _, _, .cons r t, .cons r' t' => by rw [r.inj r', Vals.inj t t']
section
variable {X : Cx} {pins : List (Addr × Obj)} {σ : St} {H : Hp} {s : Shared} {a : Addr} {xs ys : List V}
theorem SqL.of {K : PySem.W.Frag} (h : H a = some (.lst xs)) : SqL K H a xs := .inl (.inl h)
theorem SqT.of {K : PySem.W.Frag} (h : H a = some (.tup xs)) : SqT K H a xs := .inl (.inl h)
theorem Inv.list (I : Inv X pins σ H s) (h : SqL X.K H a xs) : ∃ its : List Value, Vals xs its ∧ PlainL s.heap a its.toArray ∧ xs.length ≤ sizeLine := by
  rcases h with h | ⟨o, its, n, hk, hc, hd, hs, hz, r⟩
  · obtain ⟨z, its, n, r, e⟩ := h.ok I.hok
    exact ⟨its, r, ⟨_, n, e, rfl, rfl, rfl⟩, z⟩
  · refine ⟨its.toList, r, ⟨o, n, I.kIn a o hk, hc, hd, by simpa using hs⟩, ?_⟩
    have e := r.length
    simp only [Array.length_toList] at e
    omega
theorem Inv.tuple (I : Inv X pins σ H s) (h : SqT X.K H a xs) : ∃ its : List Value, Vals xs its ∧ IsTup s.heap a its.toArray ∧ xs.length ≤ sizeLine := by
  rcases h with h | ⟨o, its, n, hk, hc, hs, hz, r⟩
  · obtain ⟨z, its, r, p⟩ := h.ok I.hok
    exact ⟨its, r, p, z⟩
  · refine ⟨its.toList, r, ⟨o, I.kIn a o hk, hc, n, by simpa using hs⟩, ?_⟩
    have e := r.length
    simp only [Array.length_toList] at e
    omega
theorem Inv.list_inj (I : Inv X pins σ H s) (h : SqL X.K H a xs) (h' : SqL X.K H a ys) : xs = ys := by
  obtain ⟨its, r, ⟨o, n, e, _, _, d⟩, _⟩ := I.list h
  obtain ⟨its', r', ⟨o', n', e', _, _, d'⟩, _⟩ := I.list h'
  rw [e] at e'; cases e'
  rw [d] at d'
  injection d' with d1 _
  have : its = its' := by simpa using congrArg Array.toList d1
  subst this
  exact r.inj r'
theorem Inv.tuple_inj (I : Inv X pins σ H s) (h : SqT X.K H a xs) (h' : SqT X.K H a ys) : xs = ys := by
  obtain ⟨its, r, ⟨o, e, _, n, d⟩, _⟩ := I.tuple h
  obtain ⟨its', r', ⟨o', e', _, n', d'⟩, _⟩ := I.tuple h'
  rw [e] at e'; cases e'
  rw [d] at d'
  injection d' with d1 _
  have : its = its' := by simpa using congrArg Array.toList d1
  subst this
  exact r.inj r'
end

/-! ### another wish about exceptions -/
abbrev Cx.wish (X : Cx) (E : Value → Shared → Prop) : Cx := { X with xe := E }
/-- no exception leaves -/
abbrev Cx.nox (X : Cx) : Cx := X.wish fun _ _ => False
theorem Cx.Ok.wish {X : Cx} (ok : X.Ok) (E : Value → Shared → Prop) : (X.wish E).Ok :=
  ⟨ok.mod, ok.kind, ok.glob, ok.blt, ok.above, ok.inj, ok.has, ok.cab, ok.hd, ok.frames, ok.stk, ok.exf, ok.bs, ok.bsz, ok.noex, ok.exfs, ok.funs, ok.frf⟩
theorem Cx.Ok.unwish {X : Cx} {E : Value → Shared → Prop} (ok : (X.wish E).Ok) : X.Ok :=
  ⟨ok.mod, ok.kind, ok.glob, ok.blt, ok.above, ok.inj, ok.has, ok.cab, ok.hd, ok.frames, ok.stk, ok.exf, ok.bs, ok.bsz, ok.noex, ok.exfs, ok.funs, ok.frf⟩
section
variable {X : Cx} {pins : List (Addr × Obj)} {σ : St} {H : Hp} {s : Shared} {E : Value → Shared → Prop}
theorem Inv.wish (I : Inv X pins σ H s) (E : Value → Shared → Prop) : Inv (X.wish E) pins σ H s := ⟨I.ok.wish E, I.os, I.bare, I.base, I.loc, I.cell, I.free, I.freeC, I.pin, I.hok, I.len⟩
theorem Inv.unwish (I : Inv (X.wish E) pins σ H s) : Inv X pins σ H s := ⟨I.ok.unwish, I.os, I.bare, I.base, I.loc, I.cell, I.free, I.freeC, I.pin, I.hok, I.len⟩
theorem SP.unwish {D : Ends} {f : Flow} {s' : Shared} (h : SP (X.wish E) pins D f s') : SP X pins D f s' := by
  cases f with
  | next => obtain ⟨σ', H', I, q⟩ := h; exact ⟨σ', H', I.unwish, q⟩
  | brk => obtain ⟨σ', H', I, q⟩ := h; exact ⟨σ', H', I.unwish, q⟩
  | cont => obtain ⟨σ', H', I, q⟩ := h; exact ⟨σ', H', I.unwish, q⟩
  | ret u => obtain ⟨v, σ', H', I, r, q⟩ := h; exact ⟨v, σ', H', I.unwish, r, q⟩
theorem PE.nox {e : Expr} {t : TE} (h : PE X.nox e t) : PE X e t := fun pins s σ H Q I hw =>
  wpAny_mono (h pins s σ H Q (I.wish _) hw) (fun _ _ ⟨v, H', I', r, q⟩ => ⟨v, H', I'.unwish, r, q⟩) fun _ _ z => False.elim z
theorem PT.nox {e : Expr} {t : TT} (h : PT X.nox e t) : PT X e t := fun pins s σ H Q I hw =>
  wpAny_mono (h pins s σ H Q (I.wish _) hw) (fun _ _ ⟨H', I', q⟩ => ⟨H', I'.unwish, q⟩) fun _ _ z => False.elim z
theorem PSs.nox {st : List Stmt} {t : TS} (h : PSs X.nox st t) : PSs X st t := fun pins s σ H D I hw =>
  wpAny_mono (h pins s σ H D (I.wish _) hw) (fun _ _ q => q.unwish) fun _ _ z => False.elim z
end

/-! ### blocks and small statements -/
section
variable {X : Cx} {st : Stmt} {rest : List Stmt} {t u : TS} {e : Expr} {te : TE} {pos : Pos}
def tNext : TS := fun D σ H => D.nx σ H
def tSeq (t u : TS) : TS := fun D σ H => t { D with nx := u D } σ H
theorem pss_nil : PSs X [] tNext := fun _ _ σ H _ I h => wpAny_execs_nil ⟨σ, H, I, h⟩
theorem pss_cons (h1 : PS X st t) (h2 : PSs X rest u) : PSs X (st :: rest) (tSeq t u) := by
  intro pins s σ H D I h
  refine wpAny_execs_cons (thn (h1 pins s σ H { D with nx := u D } I h) fun f s1 q => ?_)
  cases f with
  | next =>
    obtain ⟨σ', H', I', q⟩ := q
    exact h2 pins s1 σ' H' D I' q
  | ret v => exact q
  | brk => exact q
  | cont => exact q
theorem pss_one (h1 : PS X st t) : PSs X [st] t := by
  intro pins s σ H D I h
  refine wpAny_execs_cons (thn (h1 pins s σ H D I h) fun f s1 q => ?_)
  cases f with
  | next => exact wpAny_execs_nil q
  | ret v => exact q
  | brk => exact q
  | cont => exact q
/-- in a def's body nothing is shown -/
theorem Inv.quiet {pins : List (Addr × Obj)} {σ : St} {H : Hp} {s : Shared} (I : Inv X pins σ H s) : interactive X.env = false := by simp [interactive, I.ok.kind]
/-- an expression whose value is dropped -/
def tDrop (te : TE) : TS := fun D σ H => te σ H fun _ H1 => D.nx σ H1
theorem ps_expr (he : PE X e te) (hs : swapsWith e none pos.line X.env = pure false := by rfl) : PS X (.Expr e pos) (tDrop te) := by
  intro pins s σ H D I h
  exact wpAny_Expr_any (thn (he pins s σ H _ I h) fun v s1 ⟨x, H1, I1, r1, q1⟩ => ⟨σ, H1, I1, q1⟩) I.quiet hs
def tRet (te : TE) : TS := fun D σ H => te σ H D.rt
theorem ps_ret (he : PE X e te) : PS X (.Return (some e) pos) (tRet te) := by
  intro pins s σ H D I h
  exact wpAny_Return_some (thn (he pins s σ H _ I h) fun v s1 ⟨x, H1, I1, r1, q1⟩ => ⟨x, σ, H1, I1, r1, q1⟩)
def tIfS (c : TT) (t u : TS) : TS := fun D σ H => c σ H fun b H1 => if b = true then t D σ H1 else u D σ H1
theorem ps_if {c : Expr} {a b : List Stmt} {tc : TT} (hc : PT X c tc) (ha : PSs X a t) (hb : PSs X b u) : PS X (.If c a b pos) (tIfS tc t u) := by
  intro pins s σ H D I h
  refine wpAny_If (thn (hc pins s σ H _ I h) fun d s1 ⟨H1, I1, q1⟩ => ?_)
  cases d with
  | true => exact ha pins s1 σ H1 D I1 q1
  | false => exact hb pins s1 σ H1 D I1 q1
end

/-! ### targets -/
abbrev TG := V → St → Hp → (St → Hp → Prop) → Prop
abbrev TGs := List V → St → Hp → (St → Hp → Prop) → Prop
def PG (X : Cx) (target : Expr) (t : TG) : Prop :=
  ∀ (pins : List (Addr × Obj)) (s : Shared) (σ : St) (H : Hp) (v : V) (u : Value) (Q : St → Hp → Prop), Inv X pins σ H s → RelV v u → t v σ H Q →
    wpAny (model X.prog X.w) X.A (assign target X.env u) (fun _ s' => ∃ σ' H', Inv X pins σ' H' s' ∧ Q σ' H') X.xe s
/-- several targets, one after another -/
def PGs (X : Cx) (ts : List Expr) (t : TGs) : Prop :=
  ∀ (pins : List (Addr × Obj)) (s : Shared) (σ : St) (H : Hp) (vs : List V) (us : List Value) (Q : St → Hp → Prop), Inv X pins σ H s → Vals vs us → t vs σ H Q →
    wpAny (model X.prog X.w) X.A (assignInOrder ((assignEach ts X.env).map (·.2)) us) (fun _ s' => ∃ σ' H', Inv X pins σ' H' s' ∧ Q σ' H') X.xe s
/-- o[i] = v, by values -/
abbrev TSet := V → V → V → Hp → (Hp → Prop) → Prop
def PSet (X : Cx) (t : TSet) : Prop :=
  ∀ (pins : List (Addr × Obj)) (s : Shared) (σ : St) (H : Hp) (o i v : V) (ov iv u : Value) (Q : Hp → Prop), Inv X pins σ H s → RelV o ov → RelV i iv → RelV v u → t o i v H Q →
    wpAny (model X.prog X.w) X.A (setItem ov iv u) (fun _ s' => ∃ H', Inv X pins σ H' s' ∧ Q H') X.xe s
section
variable {X : Cx} {pos : Pos}
def gName (i : Nat) : TG := fun v σ H Q => Q (σ.set i (some v)) H
theorem pg_name {i : Nat} {x : Str} (hN : X.N.Nodup) (hi : X.N[i]? = some x) (hx : Loc X.env.scope x) (hf : X.fn x = true ∨ X.env.scope.names.lookup x = some .local := by first | exact .inl rfl | exact .inr rfl | assumption) : PG X (.Name x pos) (gName i) := by
  intro pins s σ H v u Q I r h
  exact wpAny_assign_Name (store_ok I hN hi hx r (fun s' I' => ⟨_, H, I', h⟩) hf)
def gNil : TGs := fun vs σ H Q => vs = [] ∧ Q σ H
def gCons (t : TG) (u : TGs) : TGs := fun vs σ H Q => ∃ v r, vs = v :: r ∧ t v σ H fun σ' H' => u r σ' H' Q
theorem pgs_nil : PGs X [] gNil := by
  intro pins s σ H vs us Q I r h
  obtain ⟨e, h⟩ := h
  subst e
  cases r
  exact assignInOrder_nil ⟨σ, H, I, h⟩
theorem pgs_cons {e : Expr} {es : List Expr} {t : TG} {u : TGs} (h1 : PG X e t) (h2 : PGs X es u)
    (hs : (assignEach (e :: es) X.env).map (·.2) = assign e X.env :: (assignEach es X.env).map (·.2) := by rfl) : PGs X (e :: es) (gCons t u) := by
  intro pins s σ H vs us Q I r h
  obtain ⟨v, vr, e1, h⟩ := h
  subst e1
  cases r with
  | cons r rr =>
    rw [hs]
    refine assignInOrder_cons (thn (h1 pins s σ H _ _ _ I r h) fun _ s1 ⟨σ1, H1, I1, q1⟩ => ?_)
    exact h2 pins s1 σ1 H1 _ _ Q I1 rr q1
/-- (a, b, ..) = a tuple of that length -/
def gTup (K : PySem.W.Frag) (n : Nat) (t : TGs) : TG := fun v σ H Q => ∃ a xs, v = .ref a ∧ SqT K H a xs ∧ xs.length = n ∧ t xs σ H Q
theorem pg_tup {es : List Expr} {k : Nat} {t : TGs} {n : Nat} (hc : X.calm = true) (h : PGs X es t)
    (hn : (assignEach es X.env).length = n := by rfl) (hst : (assignEach es X.env).findIdx? (·.1) = none := by rfl) : PG X (.Tuple es k pos) (gTup X.K n t) := by
  intro pins s σ H v u Q I r hw
  obtain ⟨a, xs, e1, hq, hl, hw⟩ := hw
  subst e1
  cases r
  obtain ⟨its, rv, ht, hz⟩ := I.tuple hq
  refine assign_Tuple_tuple (I.ok.hd hc) ht (by simp [hn, ← hl, rv.length]) hst fun h' hx => ?_
  have I1 : Inv X pins σ H { s with heap := h' } := I.kept (t' := s.toks) fun b o e => hx b o (Nat.ne_of_lt (Heap.lt_size e)) e
  exact h pins _ σ H xs _ Q I1 (by simpa using rv) hw
/-- o[i] = .. -/
def gSub (to ti : TE) (t : TSet) : TG := fun v σ H Q => to σ H fun o H1 => ti σ H1 fun i H2 => t o i v H2 fun H3 => Q σ H3
theorem pg_sub {o i : Expr} {to ti : TE} {t : TSet} (ho : PE X o to) (hi : PE X i ti) (hs : PSet X t)
    (ha : ∀ v, assign (.Subscript o i pos) X.env v = (do
      let ov ← holding [v] (eval o X.env)
      let iv ← holding [v, ov] (eval i X.env)
      standAt pos
      holding [v, ov, iv] (setItem ov iv v)
      release [v, ov, iv] []) := by intro _; rfl) : PG X (.Subscript o i pos) (gSub to ti t) := by
  intro pins s σ H v u Q I r h
  rw [ha]
  refine wpAny_bind (wpAny_holding (thn (ho pins s σ H _ I h) fun ov s1 ⟨x, H1, I1, r1, q1⟩ => ?_))
  refine wpAny_bind (wpAny_holding (thn (hi pins s1 σ H1 _ I1 q1) fun iv s2 ⟨y, H2, I2, r2, q2⟩ => ?_))
  refine wpAny_bind (wpAny_standAt (wpAny_bind (wpAny_holding (thn (hs pins s2 σ H2 x y v ov iv u _ I2 r1 r2 r q2) fun _ s3 ⟨H3, I3, q3⟩ => ?_))))
  exact wpAny_release ⟨σ, H3, I3, q3⟩
/-- target = value -/
def tAsg (te : TE) (g : TG) : TS := fun D σ H => te σ H fun x H1 => g x σ H1 D.nx
theorem ps_asg {tg e : Expr} {te : TE} {g : TG} (he : PE X e te) (hg : PG X tg g) (hs : swapsWithSole [tg] e pos.line X.env = pure false := by rfl) (hw : swappedStores [tg] e X.env = pure none := by rfl)
    (h1 : (assignEach [tg] X.env).map (·.2) = [assign tg X.env] := by rfl) : PS X (.Assign [tg] e pos) (tAsg te g) := by
  intro pins s σ H D I h
  refine wpAny_Assign_stores (thn (he pins s σ H _ I h) fun v s1 ⟨x, H1, I1, r1, q1⟩ => ?_) hs hw
  rw [h1]
  exact thn (hg pins s1 σ H1 x v _ I1 r1 q1) fun _ s2 q => q
/-- name = value -/
theorem ps_set {i : Nat} {x : Str} {e : Expr} {te : TE} {pos' : Pos} (hN : X.N.Nodup) (hi : X.N[i]? = some x) (hx : Loc X.env.scope x) (he : PE X e te) (hs : swapsWith e (some (.Name x pos')) pos.line X.env = pure false := by rfl) (hf : X.fn x = true ∨ X.env.scope.names.lookup x = some .local := by first | exact .inl rfl | exact .inr rfl | assumption) :
    PS X (.Assign [.Name x pos'] e pos) (tAsg te (gName i)) := by
  intro pins s σ H D I h
  refine wpAny_Assign_Name (thn (he pins s σ H _ I h) fun v s1 ⟨y, H1, I1, r1, q1⟩ => ?_) hs
  exact store_ok I1 hN hi hx r1 (fun s2 I2 => ⟨_, H1, I2, q1⟩) hf
end

/-! ### while -/
section
variable {X : Cx} {pos : Pos}
/-- the invariant W with its measure -/
def tWhile (c : TT) (tb : TS) : TS := fun D σ H => ∃ W : Nat → St → Hp → Prop, (∃ m, W m σ H) ∧ ∀ m σ H, W m σ H →
  c σ H fun b H1 => if b = true then ∃ N : St → Hp → Prop, (∀ σ' H', N σ' H' → ∃ m', m' < m ∧ W m' σ' H') ∧ tb { D with nx := N, ct := N, bk := D.nx } σ H1 else D.nx σ H1
theorem ps_while {c : Expr} {body : List Stmt} {tc : TT} {tb : TS} (hp : PassesOwn (model X.prog X.w) X.A X.env X.xe) (hc : PT X c tc) (hb : PSs X body tb) : PS X (.While c body [] pos) (tWhile tc tb) := by
  intro pins s σ H D I h
  obtain ⟨W, ⟨m0, w0⟩, turn⟩ := h
  refine wpAny_While (codeAny_whileLoop (fun n s' => ∃ σ' H', Inv X pins σ' H' s' ∧ W n σ' H') ?_ m0 ⟨σ, H, I, w0⟩)
  rintro n s1 ⟨σ1, H1, I1, w1⟩
  refine wpAny_passesOwn hp (thn (hc pins s1 σ1 H1 _ I1 (turn n σ1 H1 w1)) fun b s2 ⟨H2, I2, q2⟩ => ?_)
  cases b with
  | true =>
    obtain ⟨N, hN, q2⟩ := q2
    rw [if_pos rfl]
    refine wpAny_passesOwn hp (thn (hb pins s2 σ1 H2 _ I2 q2) fun f s3 q3 => ?_)
    cases f with
    | next =>
      obtain ⟨σ3, H3, I3, n3⟩ := q3
      obtain ⟨m', hm, w3⟩ := hN σ3 H3 n3
      exact ⟨m', hm, σ3, H3, I3, w3⟩
    | cont =>
      obtain ⟨σ3, H3, I3, n3⟩ := q3
      obtain ⟨m', hm, w3⟩ := hN σ3 H3 n3
      exact ⟨m', hm, σ3, H3, I3, w3⟩
    | brk => exact q3
    | ret v => exact q3
  | false =>
    rw [if_neg Bool.false_ne_true]
    exact wpAny_execs_nil ⟨σ1, H2, I2, q2⟩
end

/-! ### what a loop or a comprehension walks -/
/-- at turn i: it yields x (the heap may grow), or it stops -/
structure It where
  go : Nat → Hp → Prop
  yld : Nat → Hp → V → Hp → Prop
  stop : Nat → Hp → Prop
/-- the iterator's own objects may turn: they are not the frame's, not pinned, younger than the entry (or a comprehension's own) -/
def FpOk (X : Cx) (pins : List (Addr × Obj)) (H : Hp) (b : Addr) : Prop :=
  H b = none ∧ b ≠ X.env.locals ∧ b ∉ X.fs ∧ (b ∈ X.ex ∨ X.s₀.heap.objs.size ≤ b) ∧ (∀ x c, X.env.cells.lookup x = some c → c ≠ b) ∧ ∀ p ∈ X.pn ++ pins, p.1 ≠ b
theorem Inv.fpOk {X : Cx} {pins : List (Addr × Obj)} {σ : St} {H H' : Hp} {s : Shared} {b : Addr} (I : Inv X pins σ H s) (hb : s.heap.objs.size ≤ b) (hn : H' b = none) : FpOk X pins H' b := by
  refine ⟨hn, Nat.ne_of_gt (Nat.lt_of_lt_of_le I.lt hb), I.nofs hb, .inr (Nat.le_trans I.sz hb), fun x c e z => ?_, fun p hp z => ?_⟩
  · obtain ⟨v, q⟩ := I.cell x c e
    exact absurd (Nat.lt_of_lt_of_le q.lt (by rw [z]; exact hb)) (Nat.lt_irrefl _)
  · exact absurd (Nat.lt_of_lt_of_le (Heap.lt_size (I.pin p hp).1) (by rw [z]; exact hb)) (Nat.lt_irrefl _)
structure Turn (P : Program) (w : World) (K : PySem.W.Frag) (tg : Expr) (J : It) (fp : List Addr) (it : Addr) (tn : Nat → Heap → Prop) : Prop where
  mem : it ∈ fp
  obj : ∀ i h, tn i h → ∀ b ∈ fp, ∃ o, h.get? b = some o ∧ ∀ v, o.data ≠ .cell v
  keep : ∀ i h h', tn i h → (∀ b ∈ fp, ∀ o, h.get? b = some o → h'.get? b = some o) → tn i h'
  item : ∀ (X : Cx), X.prog = P → X.w = w → X.K = K → X.calm = true → ∀ (i : Nat) (pins : List (Addr × Obj)) (s : Shared) (σ : St) (H : Hp) (E : Value → Shared → Prop), Inv X pins σ H s → (∀ b ∈ fp, FpOk X pins H b) → tn i s.heap → J.go i H →
    wpAny (model P w) X.A (pyNext (.ref it)) (fun r s1 => ∃ u, r = some u ∧
      wpAny (model P w) X.A (letOwnedTupleGo tg (.ref it) u) (fun _ s2 => ∃ x H', Inv X pins σ H' s2 ∧ RelV x u ∧ J.yld i H x H' ∧ tn (i + 1) s2.heap ∧ ∀ b ∈ fp, H' b = none) E s1) E s
  done : ∀ (X : Cx), X.prog = P → X.w = w → X.K = K → X.calm = true → ∀ (i : Nat) (pins : List (Addr × Obj)) (s : Shared) (σ : St) (H : Hp) (E : Value → Shared → Prop), Inv X pins σ H s → (∀ b ∈ fp, FpOk X pins H b) → tn i s.heap → J.stop i H →
    wpAny (model P w) X.A (pyNext (.ref it)) (fun r s1 => r = none ∧ Inv X pins σ H s1) E s
  self : ∀ (A : Around) (i : Nat) (s : Shared) (Q : Value → Shared → Prop) (E : Value → Shared → Prop), tn i s.heap → Q (.ref it) s → wpAny (model P w) A (pyIter (.ref it)) Q E s
abbrev TI := St → Hp → (It → Hp → Prop) → Prop
/-- an iterator has come -/
def PIE (X : Cx) (pins : List (Addr × Obj)) (σ : St) (tg : Expr) (R : It → Hp → Prop) (itv : Value) (s2 : Shared) : Prop :=
  ∃ (it : Addr) (fp : List Addr) (tn : Nat → Heap → Prop) (J : It) (H' : Hp), itv = .ref it ∧ Inv X pins σ H' s2 ∧ Turn X.prog X.w X.K tg J fp it tn ∧ tn 0 s2.heap ∧ (∀ b ∈ fp, FpOk X pins H' b) ∧ R J H'
def PI (X : Cx) (tg iter : Expr) (wi : TI) : Prop :=
  ∀ (pins : List (Addr × Obj)) (s : Shared) (σ : St) (H : Hp) (R : It → Hp → Prop), Inv X pins σ H s → wi σ H R →
    wpAny (model X.prog X.w) X.A (eval iter X.env) (fun v s1 => wpAny (model X.prog X.w) X.A (pyIter v) (PIE X pins σ tg R) X.xe s1) X.xe s

/-- the step ahead of the store is nothing for an iterator that keeps no tuple -/
theorem go_of {M : Model} {A : Around} {E : Value → Shared → Prop} {s : Shared} {tg : Expr} {it : Addr} {u : Value} {o : Obj} {n : String} {vs : Array Value} {Q : Unit → Shared → Prop} (ho : s.heap.get? it = some o) (hc : o.cls = .type n) (hd : o.data = .fields vs)
    (hn : ["enumerate", "zip", "dict_itemiterator", "dict_reverseitemiterator", "odict_iterator", "itertools.zip_longest", "itertools.pairwise"].contains n = false) (hQ : Q () s) : wpAny M A (letOwnedTupleGo tg (.ref it) u) Q E s := by
  unfold letOwnedTupleGo
  cases tg <;> first
    | exact wpAny_pure hQ
    | (cases u <;> first
        | exact wpAny_pure hQ
        | (refine wpAny_bind (wpAny_load ho ?_)
           rw [hc, hd]
           show wpAny M A (if (["enumerate", "zip", "dict_itemiterator", "dict_reverseitemiterator", "odict_iterator", "itertools.zip_longest", "itertools.pairwise"].contains n && vs[0]? == some (rawInt _)) = true then _ else _) Q E s
           rw [if_neg (by intro h; rw [hn, Bool.false_and] at h; cases h)]
           exact wpAny_pure hQ))

/-- the list at a, as it stands at each turn (a loop may append to it) -/
def Itl (K : PySem.W.Frag) (a : Addr) : It :=
  ⟨fun i H => ∃ xs x, SqL K H a xs ∧ xs[i]? = some x, fun i H x H' => H' = H ∧ ∀ xs, SqL K H a xs → xs[i]? = some x, fun i H => ∃ xs, SqL K H a xs ∧ xs.length ≤ i⟩
/-- lo, lo + 1, .. (n of them) -/
def Itr (lo : Int) (n : Nat) : It := ⟨fun i _ => i < n, fun i H x H' => H' = H ∧ x = .int (lo + i), fun i _ => n ≤ i⟩
theorem turn_list {P : Program} {w : World} {K : PySem.W.Frag} {tg : Expr} (a it : Addr) : Turn P w K tg (Itl K a) [it] it (fun i h => h.IsListIter it a i) where
  mem := by simp
  obj := fun i h st b hb => by
    have e : b = it := by simpa using hb
    subst e
    obtain ⟨o, e, c, d⟩ := st
    exact ⟨o, e, fun v z => by rw [d] at z; cases z⟩
  keep := fun i h h' st k => st.at fun o e => k it (by simp) o e
  item := by
    intro X hP hw hK hc i pins s σ H E I hf st hg
    subst hP hw hK
    obtain ⟨xs, x, hq, hx⟩ := hg
    obtain ⟨its, rv, p, hz⟩ := I.list hq
    obtain ⟨u, hu, ru⟩ := rv.get hx
    obtain ⟨f0, f1, f2, f3, f4, f5⟩ := hf it (by simp)
    refine wpAny_pyNext_list_item st p.isList (x := u) (by simpa using hu) fun h' st' sb => ?_
    have I1 : Inv X pins σ H { s with heap := h' } := I.turned (t' := s.toks) (fun b o hb e => (sb.2 b hb).trans e) f0 f1 f3 f4 f5
    obtain ⟨o, e, c, d⟩ := id st'
    exact ⟨u, rfl, go_of (s := { s with heap := h' }) e c d (by decide) ⟨x, H, I1, ru, ⟨rfl, fun ys hy => by rw [I.list_inj hy hq]; exact hx⟩, st', fun b hb => (hf b hb).1⟩⟩
  done := by
    intro X hP hw hK hc i pins s σ H E I hf st hg
    subst hP hw hK
    obtain ⟨xs, hq, hx⟩ := hg
    obtain ⟨its, rv, p, hz⟩ := I.list hq
    obtain ⟨f0, f1, f2, f3, f4, f5⟩ := hf it (by simp)
    have hl := rv.length
    exact wpAny_pyNext_list_end (I.ok.hd hc) st p.isList (by simp; omega) fun h' eb => ⟨rfl, I.turned (t' := s.toks) (fun b o hb e => eb b o hb e) f0 f1 f3 f4 f5⟩
  self := fun _ _ _ _ _ st h => wpAny_pyIter_listiter st h
theorem turn_range {P : Program} {w : World} {K : PySem.W.Frag} {tg : Expr} (it : Addr) (lo : Int) (n : Nat) : Turn P w K tg (Itr lo n) [it] it (fun i h => IsRangeIter h it (lo + (i : Nat) * 1) ((n : Int) - (i : Nat)) 1) where
  mem := by simp
  obj := fun i h st b hb => by
    have e : b = it := by simpa using hb
    subst e
    exact ⟨_, st, fun v z => by
      have z' : Data.fields _ = Data.cell v := z
      cases z'⟩
  keep := fun i h h' st k => k it (by simp) _ st
  item := by
    intro X hP hw hK hc i pins s σ H E I hf st hg
    subst hP hw hK
    obtain ⟨f0, f1, f2, f3, f4, f5⟩ := hf it (by simp)
    have W := Walks.range (prog := X.prog) (w := X.w) (I.ok.hd hc) it lo 1 n
    refine W.item i s _ _ hg st fun v h' tk hv st' kk => ?_
    obtain ⟨t, rfl⟩ := hv
    have I1 : Inv X pins σ H { s with heap := h', toks := tk } := I.turned (fun b o hb e => kk b o (by simpa using hb) e) f0 f1 f3 f4 f5
    refine ⟨_, rfl, go_of (s := { s with heap := h', toks := tk }) (n := "range_iterator") st' rfl rfl (by decide) ⟨.int (lo + i), H, I1, ⟨t, ?_⟩, ⟨rfl, rfl⟩, st', fun b hb => (hf b hb).1⟩⟩
    rw [Int.mul_one]
  done := by
    intro X hP hw hK hc i pins s σ H E I hf st hg
    subst hP hw hK
    obtain ⟨f0, f1, f2, f3, f4, f5⟩ := hf it (by simp)
    exact wpAny_pyNext_range_end (I.ok.hd hc) st (by have : n ≤ i := hg; omega) fun h' eb => ⟨rfl, I.turned (t' := s.toks) (fun b o hb e => eb b o hb e) f0 f1 f3 f4 f5⟩
  self := fun _ _ _ _ _ st h => wpAny_pyIter_rangeiter st h
end L2

namespace L2
open PySem PySem.Spec PyProof.Rows
section
variable {X : Cx} {tg : Expr}
def iList (K : PySem.W.Frag) (tl : TE) : TI := fun σ H R => tl σ H fun x H1 => ∃ a, x = .ref a ∧ (∃ xs, SqL K H1 a xs) ∧ R (Itl K a) H1
theorem pi_list {l : Expr} {tl : TE} (hl : PE X l tl) : PI X tg l (iList X.K tl) := by
  intro pins s σ H R I h
  refine thn (hl pins s σ H _ I h) fun v s1 ⟨x, H1, I1, r1, q1⟩ => ?_
  obtain ⟨a, e, ⟨xs, hq⟩, q⟩ := q1
  subst e
  cases r1
  obtain ⟨its, rv, p, hz⟩ := I1.list hq
  refine wpAny_pyIter_list p.isList ?_
  refine ⟨s1.heap.objs.size, [s1.heap.objs.size], _, _, H1, rfl, I1.kept (t' := s1.toks) fun b o e => Heap.get?_push_of_some _ e, turn_list a _, ⟨_, Heap.get?_push_size _ rfl, rfl, rfl⟩, fun b hb => ?_, q⟩
  have e : b = s1.heap.objs.size := by simpa using hb
  subst e
  exact I1.fpOk (Nat.le_refl _) (I1.hok.fresh (Nat.le_refl _))
/-- a range object just made, walked -/
theorem range_it {pins : List (Addr × Obj)} {σ : St} {H : Hp} {s : Shared} {R : It → Hp → Prop} {E : Value → Shared → Prop} {lo hi : Int} {t u v : Tok} {tk : Nat} (I : Inv X pins σ H s) (h1 : -(2 ^ 62) ≤ lo) (h2 : lo < 2 ^ 62) (h3 : -(2 ^ 62) ≤ hi) (h4 : hi < 2 ^ 62)
    (q : R (Itr lo (hi - lo).toNat) H) : wpAny (model X.prog X.w) X.A (pyIter (.ref s.heap.objs.size)) (PIE X pins σ tg R) E { s with heap := s.heap.push { cls := .type "range", data := .fields #[.int lo t, .int hi u, .int 1 v] }, toks := tk } := by
  refine wpAny_pyIter_range (IsRange.new ..) (small_one h1 h2 h3 h4) ?_
  have I1 : Inv X pins σ H { s with heap := s.heap.push { cls := .type "range", data := .fields #[.int lo t, .int hi u, .int 1 v] }, toks := tk } := I.kept fun b o e => Heap.get?_push_of_some _ e
  refine ⟨(s.heap.push { cls := .type "range", data := .fields #[.int lo t, .int hi u, .int 1 v] }).objs.size, [(s.heap.push { cls := .type "range", data := .fields #[.int lo t, .int hi u, .int 1 v] }).objs.size], _, _, H, rfl,
    I1.kept (t' := tk) fun b o e => Heap.get?_push_of_some _ e, turn_range _ lo (hi - lo).toNat, ?_, fun b hb => ?_, q⟩
  · have e1 : lo + ((0 : Nat) : Int) * 1 = lo := by simp
    have e2 : (((hi - lo).toNat : Nat) : Int) - ((0 : Nat) : Int) = Builtin.Range.rangeSize lo hi 1 := by rw [rangeSize_one]; split <;> omega
    show IsRangeIter _ _ (lo + ((0 : Nat) : Int) * 1) ((((hi - lo).toNat : Nat) : Int) - ((0 : Nat) : Int)) 1
    rw [e1, e2]
    exact Heap.get?_push_size _ rfl
  · have e : b = (s.heap.push { cls := .type "range", data := .fields #[.int lo t, .int hi u, .int 1 v] }).objs.size := by simpa using hb
    subst e
    exact I1.fpOk (Nat.le_refl _) (I1.hok.fresh (Nat.le_refl _))
def iRng1 (ta : TA) : TI := fun σ H R => ta σ H fun vs H1 => ∃ j : Int, vs = [.int j] ∧ -(2 ^ 62) ≤ j ∧ j < 2 ^ 62 ∧ R (Itr 0 j.toNat) H1
theorem pi_range1 {a : Expr} {ta : TA} {p pos : Pos} (hg : Gl X "range") (hm : X.mg "range" = none) (ha : PA X [a] ta) (hs : starEach [a] X.env = [(false, eval a X.env)] := by rfl) : PI X tg (.Call (.Name "range" p) [a] [] pos) (iRng1 ta) := by
  intro pins s σ H R I h
  refine Call_ (ld_blt I hg hm boot_range (PyProof.Rows.callWith_type1 (thn (ha pos pins s σ H _ I h) fun us s1 ⟨vs, H1, I1, r1, q1⟩ => ?_) hs rfl))
  obtain ⟨j, e, q1, q2, q⟩ := q1
  subst e
  cases r1 with
  | cons r rr =>
    cases rr
    obtain ⟨t, rfl⟩ := r
    exact call_range_1 (range_it I1 (by omega) (by omega) q1 q2 (by simpa using q))
/-! ### for -/
/-- W: the invariant by the turn and a measure; N: what the body is to reach -/
def tFor (wi : TI) (g : TG) (tb : TS) : TS := fun D σ H => wi σ H fun J H1 => ∃ W : Nat → Nat → St → Hp → Prop, (∃ m, W 0 m σ H1) ∧ ∀ i m σ H, W i m σ H →
  (J.stop i H ∧ D.nx σ H) ∨ (J.go i H ∧ ∃ N : St → Hp → Prop, (∀ σ' H', N σ' H' → ∃ m', m' < m ∧ W (i + 1) m' σ' H') ∧ ∀ x H', J.yld i H x H' → g x σ H' fun σ2 H2 => tb { D with nx := N, ct := N, bk := D.nx } σ2 H2)
/-- the records at fp as they stand -/
def pinsAt (fp : List Addr) (h : Heap) : List (Addr × Obj) := fp.filterMap fun b => (h.get? b).map fun o => (b, o)
theorem mem_pinsAt {fp : List Addr} {h : Heap} {b : Addr} {o : Obj} (hb : b ∈ fp) (e : h.get? b = some o) : (b, o) ∈ pinsAt fp h := List.mem_filterMap.mpr ⟨b, hb, by rw [e]; rfl⟩
theorem of_pinsAt {fp : List Addr} {h : Heap} {p : Addr × Obj} (hp : p ∈ pinsAt fp h) : p.1 ∈ fp ∧ h.get? p.1 = some p.2 := by
  obtain ⟨b, hb, e⟩ := List.mem_filterMap.mp hp
  cases q : h.get? b with
  | none => rw [q] at e; cases e
  | some o =>
    rw [q] at e
    have e' : (b, o) = p := Option.some.inj e
    subst e'
    exact ⟨hb, q⟩
theorem Inv.pinned {pins : List (Addr × Obj)} {σ : St} {H : Hp} {s : Shared} {fp : List Addr} (I : Inv X pins σ H s) (hf : ∀ b ∈ fp, FpOk X pins H b) (ho : ∀ b ∈ fp, ∃ o, s.heap.get? b = some o ∧ ∀ v, o.data ≠ .cell v) : Inv X (pins ++ pinsAt fp s.heap) σ H s :=
  I.pins_of fun p hp => (List.mem_append.mp hp).elim (fun z => I.pin p (List.mem_append_right _ z)) fun z => by
    obtain ⟨hb, e⟩ := of_pinsAt z
    obtain ⟨f0, f1, f2, _⟩ := hf p.1 hb
    obtain ⟨o, e', d⟩ := ho p.1 hb
    rw [e] at e'; cases e'
    exact ⟨e, f0, f1, f2, d⟩
theorem Inv.unpinned {pins pl : List (Addr × Obj)} {σ : St} {H : Hp} {s : Shared} (I : Inv X (pins ++ pl) σ H s) : Inv X pins σ H s := I.pins_of fun p hp => I.pin p (List.mem_append_right _ (List.mem_append_left _ hp))
theorem ps_for {iter : Expr} {body : List Stmt} {wi : TI} {g : TG} {tb : TS} {pos : Pos} (hp : PassesOwn (model X.prog X.w) X.A X.env X.xe) (hc : X.calm = true) (hi : PI X tg iter wi) (hg : PG X tg g) (hb : PSs X body tb)
    (hs : ∀ x, foldedSetIterable iter X.env x = pure x := by intro _; rfl) : PS X (.For tg iter body [] pos) (tFor wi g tb) := by
  intro pins s σ H D I h
  refine wpAny_For (thn (hi pins s σ H _ I h) fun v s1 h1 => thn h1 fun itv s2 h2 => ?_) hs
  obtain ⟨it, fp, tn, J, H2, e, I2, T, st2, f2, W, ⟨m0, w0⟩, turn⟩ := h2
  subst e
  -- what stays true of the iterator's objects through the loop
  have stat : ∀ {H' : Hp}, (∀ b ∈ fp, H' b = none) → ∀ b ∈ fp, FpOk X pins H' b := fun hn b hb => ⟨hn b hb, (f2 b hb).2⟩
  refine codeAny_forLoop_any (fun n s' => ∃ i σ' H', Inv X pins σ' H' s' ∧ tn i s'.heap ∧ (∀ b ∈ fp, H' b = none) ∧ W i n σ' H') ?_ m0 ⟨0, σ, H2, I2, st2, fun b hb => (f2 b hb).1, w0⟩
  rintro n s3 ⟨i, σ3, H3, I3, st3, fr3, w3⟩
  rcases turn i n σ3 H3 w3 with ⟨stop, qn⟩ | ⟨go, N, hN, step⟩
  · refine wpAny_passesOwn hp (thn (T.done X rfl rfl rfl hc i pins s3 σ3 H3 X.xe I3 (stat fr3) st3 stop) fun r s4 ⟨hr, I4⟩ => ?_)
    subst hr
    exact wpAny_execs_nil ⟨σ3, H3, I4, qn⟩
  · refine wpAny_passesOwn hp (thn (T.item X rfl rfl rfl hc i pins s3 σ3 H3 X.xe I3 (stat fr3) st3 go) fun r s4 ⟨u, hr, h4⟩ => ?_)
    subst hr
    refine wpAny_passesOwn hp (thn h4 fun _ s5 ⟨x, H5, I5, r5, y5, st5, fr5⟩ => ?_)
    have I5' := I5.pinned (stat fr5) (T.obj _ _ st5)
    refine wpAny_passesOwn hp (thn (hg _ s5 σ3 H5 x u _ I5' r5 (step x H5 y5)) fun _ s6 ⟨σ6, H6, I6, q6⟩ => ?_)
    refine wpAny_passesOwn hp (thn (hb _ s6 σ6 H6 _ I6 q6) fun f s7 q7 => ?_)
    have again : ∀ {σ7 : St} {H7 : Hp}, Inv X (pins ++ pinsAt fp s5.heap) σ7 H7 s7 → N σ7 H7 → ∃ m, m < n ∧ ∃ i σ' H', Inv X pins σ' H' s7 ∧ tn i s7.heap ∧ (∀ b ∈ fp, H' b = none) ∧ W i m σ' H' := fun {σ7 H7} I7 n7 => by
      obtain ⟨m', hm, w7⟩ := hN σ7 H7 n7
      refine ⟨m', hm, i + 1, σ7, H7, I7.unpinned, T.keep _ _ _ st5 fun b hb o e => (I7.pin (b, o) (List.mem_append_right _ (List.mem_append_right _ (mem_pinsAt hb e)))).1, fun b hb => ?_, w7⟩
      obtain ⟨o, e, d⟩ := T.obj _ _ st5 b hb
      exact (I7.pin (b, o) (List.mem_append_right _ (List.mem_append_right _ (mem_pinsAt hb e)))).2.1
    cases f with
    | next => obtain ⟨σ7, H7, I7, n7⟩ := q7; exact again I7 n7
    | cont => obtain ⟨σ7, H7, I7, n7⟩ := q7; exact again I7 n7
    | brk => obtain ⟨σ7, H7, I7, q7⟩ := q7; exact ⟨σ7, H7, I7.unpinned, q7⟩
    | ret v => obtain ⟨x7, σ7, H7, I7, r7, q7⟩ := q7; exact ⟨x7, σ7, H7, I7.unpinned, r7, q7⟩
end

/-! ### the forms one uses -/
/-- over a list that the body leaves as it is -/
theorem for_list {K : PySem.W.Frag} {a : Addr} {xs : List V} {g : TG} {tb : TS} {D : Ends} {σ : St} {H : Hp} (Pv : Nat → St → Hp → Prop) (h0 : Pv 0 σ H) (hl : ∀ i σ H, i ≤ xs.length → Pv i σ H → SqL K H a xs)
    (hs : ∀ i x σ H, xs[i]? = some x → Pv i σ H → g x σ H fun σ2 H2 => tb { D with nx := Pv (i + 1), ct := Pv (i + 1), bk := D.nx } σ2 H2) (hd : ∀ σ H, Pv xs.length σ H → D.nx σ H) :
    ∃ W : Nat → Nat → St → Hp → Prop, (∃ m, W 0 m σ H) ∧ ∀ i m σ H, W i m σ H →
      ((Itl K a).stop i H ∧ D.nx σ H) ∨ ((Itl K a).go i H ∧ ∃ N : St → Hp → Prop, (∀ σ' H', N σ' H' → ∃ m', m' < m ∧ W (i + 1) m' σ' H') ∧ ∀ x H', (Itl K a).yld i H x H' → g x σ H' fun σ2 H2 => tb { D with nx := N, ct := N, bk := D.nx } σ2 H2) := by
  refine ⟨fun i m σ H => m = xs.length - i ∧ i ≤ xs.length ∧ Pv i σ H, ⟨xs.length, by simp, Nat.zero_le _, h0⟩, ?_⟩
  rintro i m σ H ⟨rfl, hi, p⟩
  have q := hl i σ H hi p
  by_cases hlt : i < xs.length
  · refine .inr ⟨⟨xs, xs[i], q, by simp [hlt]⟩, Pv (i + 1), fun σ' H' p' => ⟨xs.length - (i + 1), by omega, rfl, hlt, p'⟩, fun x H' y => ?_⟩
    obtain ⟨e, y⟩ := y
    subst e
    exact hs i x σ _ (y xs q) p
  · have e : i = xs.length := by omega
    subst e
    exact .inl ⟨⟨xs, q, Nat.le_refl _⟩, hd σ H p⟩
theorem for_range {lo : Int} {n : Nat} {g : TG} {tb : TS} {D : Ends} {σ : St} {H : Hp} (Pv : Nat → St → Hp → Prop) (h0 : Pv 0 σ H)
    (hs : ∀ i σ H, i < n → Pv i σ H → g (.int (lo + i)) σ H fun σ2 H2 => tb { D with nx := Pv (i + 1), ct := Pv (i + 1), bk := D.nx } σ2 H2) (hd : ∀ σ H, Pv n σ H → D.nx σ H) :
    ∃ W : Nat → Nat → St → Hp → Prop, (∃ m, W 0 m σ H) ∧ ∀ i m σ H, W i m σ H →
      ((Itr lo n).stop i H ∧ D.nx σ H) ∨ ((Itr lo n).go i H ∧ ∃ N : St → Hp → Prop, (∀ σ' H', N σ' H' → ∃ m', m' < m ∧ W (i + 1) m' σ' H') ∧ ∀ x H', (Itr lo n).yld i H x H' → g x σ H' fun σ2 H2 => tb { D with nx := N, ct := N, bk := D.nx } σ2 H2) := by
  refine ⟨fun i m σ H => m = n - i ∧ i ≤ n ∧ Pv i σ H, ⟨n, by simp, Nat.zero_le _, h0⟩, ?_⟩
  rintro i m σ H ⟨rfl, hi, p⟩
  by_cases hlt : i < n
  · refine .inr ⟨hlt, Pv (i + 1), fun σ' H' p' => ⟨n - (i + 1), by omega, rfl, hlt, p'⟩, fun x H' y => ?_⟩
    obtain ⟨e, y⟩ := y
    subst e y
    exact hs i σ _ hlt p
  · have e : i = n := by omega
    subst e
    exact .inl ⟨Nat.le_refl _, hd σ H p⟩
end L2

namespace L2
open PySem PySem.Spec PyProof.Rows

abbrev R2 := V → V → Hp → VK → Prop
/-- a two-place operation on values: f is binaryOp op, inplaceOp op or compareOp op -/
def OpR (X : Cx) (f : Value → Value → Sem Value) (r : R2) : Prop :=
  ∀ (pins : List (Addr × Obj)) (s : Shared) (σ : St) (H : Hp) (x y : V) (v u : Value) (Q : VK), Inv X pins σ H s → RelV x v → RelV y u → r x y H Q →
    wpAny (model X.prog X.w) X.A (f v u) (EP X pins σ Q) X.xe s
/-- a one-place operation -/
def UnR (X : Cx) (f : Value → Sem Value) (r : V → Hp → VK → Prop) : Prop :=
  ∀ (pins : List (Addr × Obj)) (s : Shared) (σ : St) (H : Hp) (x : V) (v : Value) (Q : VK), Inv X pins σ H s → RelV x v → r x H Q →
    wpAny (model X.prog X.w) X.A (f v) (EP X pins σ Q) X.xe s
/-- a call of a value that is known (a builtin, a type) with values -/
def CallR (X : Cx) (f : Value) (r : List V → Hp → VK → Prop) : Prop :=
  ∀ (pins : List (Addr × Obj)) (s : Shared) (σ : St) (H : Hp) (xs : List V) (us : List Value) (Q : VK), Inv X pins σ H s → Vals xs us → r xs H Q →
    wpAny (model X.prog X.w) X.A (call f us) (EP X pins σ Q) X.xe s
def tOp (r : R2) (ta tb : TE) : TE := fun σ H Q => ta σ H fun x H1 => tb σ H1 fun y H2 => r x y H2 Q
/-- ints in, under C, and a value out -/
def rI (C : Int → Int → Prop) (g : Int → Int → V) : R2 := fun x y H Q => ∃ i j, x = .int i ∧ y = .int j ∧ C i j ∧ Q (g i j) H
def rI0 (g : Int → Int → V) : R2 := fun x y H Q => ∃ i j, x = .int i ∧ y = .int j ∧ Q (g i j) H
section
variable {X : Cx} {a b c : Expr} {ta tb tc : TE} {pos : Pos}

theorem binT (ha : PE X a ta) (hb : PE X b tb) {pins : List (Addr × Obj)} {s : Shared} {σ : St} {H : Hp} {R : V → V → Hp → Prop} (I : Inv X pins σ H s)
    (h : ta σ H fun x H1 => tb σ H1 fun y H2 => R x y H2) {Q : Value → Shared → Prop} {f : Value → Value → Sem Value}
    (hf : ∀ v u s2 x y H2, Inv X pins σ H2 s2 → RelV x v → RelV y u → R x y H2 → wpAny (model X.prog X.w) X.A (f v u) Q X.xe s2) :
    wpAny (model X.prog X.w) X.A (eval a X.env) (fun v s₁ => wpAny (model X.prog X.w) X.A (eval b X.env) (fun u s₂ => wpAny (model X.prog X.w) X.A (f v u) Q X.xe s₂) X.xe s₁) X.xe s := by
  refine thn (ha pins s σ H _ I h) fun v s1 ⟨x, H1, I1, r1, q1⟩ => ?_
  refine thn (hb pins s1 σ H1 _ I1 q1) fun u s2 ⟨y, H2, I2, r2, q2⟩ => ?_
  exact hf v u s2 x y H2 I2 r1 r2 q2

theorem pe_op {op : Operator} {r : R2} (ho : OpR X (binaryOp op) r) (ha : PE X a ta) (hb : PE X b tb) : PE X (.BinOp a op b pos) (tOp r ta tb) := by
  intro pins s σ H Q I h
  exact wpAny_BinOp (binT ha hb I h fun v u s2 x y H2 I2 rx ry q => ho pins s2 σ H2 x y v u Q I2 rx ry q)
/-! ### ints -/
theorem opI {f : Value → Value → Sem Value} {C : Int → Int → Prop} {g : Int → Int → Int}
    (rule : ∀ (i j : Int) (t u : Tok) (s : Shared) (Q : Value → Shared → Prop) (E : Value → Shared → Prop), C i j → Q (.int (g i j) s.toks) { s with toks := s.toks + 1 } → wpAny (model X.prog X.w) X.A (f (.int i t) (.int j u)) Q E s) :
    OpR X f (rI C fun i j => .int (g i j)) := by
  intro pins s σ H x y v u Q I rx ry h
  obtain ⟨i, j, rfl, rfl, hc, q⟩ := h
  obtain ⟨t, rfl⟩ := rx
  obtain ⟨t', rfl⟩ := ry
  exact rule i j t t' s _ _ hc ⟨.int (g i j), H, I.tok _, ⟨_, rfl⟩, q⟩
theorem opI0 {f : Value → Value → Sem Value} {g : Int → Int → Int}
    (rule : ∀ (i j : Int) (t u : Tok) (s : Shared) (Q : Value → Shared → Prop) (E : Value → Shared → Prop), Q (.int (g i j) s.toks) { s with toks := s.toks + 1 } → wpAny (model X.prog X.w) X.A (f (.int i t) (.int j u)) Q E s) :
    OpR X f (rI0 fun i j => .int (g i j)) := by
  intro pins s σ H x y v u Q I rx ry h
  obtain ⟨i, j, rfl, rfl, q⟩ := h
  obtain ⟨t, rfl⟩ := rx
  obtain ⟨t', rfl⟩ := ry
  exact rule i j t t' s _ _ ⟨.int (g i j), H, I.tok _, ⟨_, rfl⟩, q⟩
theorem opB0 {f : Value → Value → Sem Value} {g : Int → Int → Bool}
    (rule : ∀ (i j : Int) (t u : Tok) (s : Shared) (Q : Value → Shared → Prop) (E : Value → Shared → Prop), Q (.bool (g i j)) s → wpAny (model X.prog X.w) X.A (f (.int i t) (.int j u)) Q E s) :
    OpR X f (rI0 fun i j => .bl (g i j)) := by
  intro pins s σ H x y v u Q I rx ry h
  obtain ⟨i, j, rfl, rfl, q⟩ := h
  obtain ⟨t, rfl⟩ := rx
  obtain ⟨t', rfl⟩ := ry
  exact rule i j t t' s _ _ ⟨.bl (g i j), H, I, rfl, q⟩

def CDiv (i j : Int) : Prop := 0 < j ∧ j < 1073741824
def CMul (i j : Int) : Prop := (-(2 ^ 64) < i ∧ i < 2 ^ 64) ∨ (-(2 ^ 64) < j ∧ j < 2 ^ 64)
theorem CMul.ok {i j : Int} (h : CMul i j) : IntMulOk i j := by
  rcases h with ⟨h1, h2⟩ | ⟨h1, h2⟩
  · exact .of_left (intBits_le_64 h1 h2)
  · exact .of_right (intBits_le_64 h1 h2)
theorem op_add : OpR X (binaryOp .Add) (rI0 fun i j => .int (i + j)) := opI0 fun _ _ _ _ _ _ _ q => add_int q
theorem op_sub : OpR X (binaryOp .Sub) (rI0 fun i j => .int (i - j)) := opI0 fun _ _ _ _ _ _ _ q => sub_int q
theorem op_mul : OpR X (binaryOp .Mult) (rI CMul fun i j => .int (i * j)) := opI fun _ _ _ _ _ _ _ hc q => mul_int q hc.ok
/-- // by a positive divisor -/
theorem op_fdiv : OpR X (binaryOp .FloorDiv) (rI CDiv fun i j => .int (i / j)) := opI fun i j _ _ _ _ _ hc q => by
  have h1 : (0 : Int) < j := hc.1
  have h2 : j < 1073741824 := hc.2
  exact floordiv_int (by omega) (by rw [Int.fdiv_eq_ediv_of_nonneg i (by omega)]; exact q) (.inl (PyProof.noPylong_small (by omega)))
/-- % by a positive divisor of any size -/
theorem op_mod : OpR X (binaryOp .Mod) (rI (fun _ j => 0 < j) fun i j => .int (i % j)) := opI fun i j _ _ _ _ _ hc q => by
  have h1 : (0 : Int) < j := hc
  exact mod_int' (by omega) (by rw [Int.fmod_eq_emod_of_nonneg i (by omega)]; exact q)
/-! ### bools among ints: n += (a < b) -/
end

/-! ### comparisons -/
/-- the scalars that == tells apart as data does -/
def scal : V → V → Bool
  | .non, .non => true | .non, .int _ => true | .int _, .non => true | .non, .bl _ => true | .bl _, .non => true | .non, .str _ => true | .str _, .non => true
  | .int _, .int _ => true | .bl _, .bl _ => true | .str _, .str _ => true | .byt _, .byt _ => true
  | .int _, .str _ => true | .str _, .int _ => true | .bl _, .str _ => true | .str _, .bl _ => true
  | _, _ => false
def rEq : R2 := fun x y H Q => scal x y = true ∧ Q (.bl (decide (x = y))) H
def rNe : R2 := fun x y H Q => scal x y = true ∧ Q (.bl (!decide (x = y))) H

theorem dec_int {i j : Int} : decide (V.int i = V.int j) = (i == j) := by
  rw [Bool.eq_iff_iff]
  simp
theorem dec_bl {i j : Bool} : decide (V.bl i = V.bl j) = (i == j) := by
  rw [Bool.eq_iff_iff]
  simp
theorem dec_str {i j : Str} : decide (V.str i = V.str j) = (i == j) := by
  rw [Bool.eq_iff_iff]
  simp
theorem dec_byt {i j : Array UInt8} : decide (V.byt i = V.byt j) = (i.toList == j.toList) := by
  rw [Bool.eq_iff_iff]
  cases i
  cases j
  simp

section
variable {X : Cx} {a b c : Expr} {ta tb tc : TE} {pos : Pos}
theorem fin_bl {pins : List (Addr × Obj)} {σ : St} {H : Hp} {s : Shared} {Q : VK} {k k' : Bool} (I : Inv X pins σ H s) (q : Q (.bl k) H) (e : k = k') : EP X pins σ Q (.bool k') s := by
  subst e
  exact ⟨.bl k, H, I, rfl, q⟩
theorem op_eq : OpR X (compareOp .Eq) rEq := by
  intro pins s σ H x y v u Q I rx ry h
  obtain ⟨hs, q⟩ := h
  cases x with
  | non =>
    cases rx
    cases y with
    | non => cases ry; exact PySem.EqNone.eq_none_none (fin_bl I q (by simp))
    | bl j => cases ry; exact PySem.EqNone.eq_none_bool (fin_bl I q (by simp))
    | int j => obtain ⟨t', rfl⟩ := ry; exact PySem.EqNone.eq_none_int (fin_bl I q (by simp))
    | str j => obtain ⟨t', rfl⟩ := ry; exact PySem.EqNone.eq_none_str (fin_bl I q (by simp))
    | _ => exact absurd (show false = true from hs) Bool.false_ne_true
  | bl i =>
    cases rx
    cases y with
    | non => cases ry; exact PySem.EqNone.eq_bool_none (fin_bl I q (by simp))
    | bl j => cases ry; exact eq_bool (fin_bl I q dec_bl)
    | str j => obtain ⟨t', rfl⟩ := ry; exact PySem.EqMixed.eq_bool_str (fin_bl I q (by simp))
    | _ => exact absurd (show false = true from hs) Bool.false_ne_true
  | int i =>
    obtain ⟨t, rfl⟩ := rx
    cases y with
    | non => cases ry; exact PySem.EqNone.eq_int_none (fin_bl I q (by simp))
    | int j => obtain ⟨t', rfl⟩ := ry; exact eq_int (fin_bl I q dec_int)
    | str j => obtain ⟨t', rfl⟩ := ry; exact PySem.EqMixed.eq_int_str (fin_bl I q (by simp))
    | _ => exact absurd (show false = true from hs) Bool.false_ne_true
  | str i =>
    obtain ⟨t, rfl⟩ := rx
    cases y with
    | non => cases ry; exact PySem.EqNone.eq_str_none (fin_bl I q (by simp))
    | bl j => cases ry; exact PySem.EqMixed.eq_str_bool (fin_bl I q (by simp))
    | int j => obtain ⟨t', rfl⟩ := ry; exact PySem.EqMixed.eq_str_int (fin_bl I q (by simp))
    | str j => obtain ⟨t', rfl⟩ := ry; exact eq_str (fin_bl I q dec_str)
    | _ => exact absurd (show false = true from hs) Bool.false_ne_true
  | byt i =>
    obtain ⟨t, rfl⟩ := rx
    cases y with
    | byt j => obtain ⟨t', rfl⟩ := ry; exact PySem.W.eq_bytes (fin_bl I q dec_byt)
    | _ => exact absurd (show false = true from hs) Bool.false_ne_true
  | _ => cases y <;> exact absurd (show false = true from hs) Bool.false_ne_true
theorem op_ne : OpR X (compareOp .NotEq) rNe := by
  intro pins s σ H x y v u Q I rx ry h
  obtain ⟨hs, q⟩ := h
  cases x with
  | non =>
    cases rx
    cases y with
    | non => cases ry; exact PySem.EqNone.ne_none_none (fin_bl I q (by simp))
    | bl j => cases ry; exact PySem.EqNone.ne_none_bool (fin_bl I q (by simp))
    | int j => obtain ⟨t', rfl⟩ := ry; exact PySem.EqNone.ne_none_int (fin_bl I q (by simp))
    | str j => obtain ⟨t', rfl⟩ := ry; exact PySem.EqNone.ne_none_str (fin_bl I q (by simp))
    | _ => exact absurd (show false = true from hs) Bool.false_ne_true
  | bl i =>
    cases rx
    cases y with
    | non => cases ry; exact PySem.EqNone.ne_bool_none (fin_bl I q (by simp))
    | bl j => cases ry; exact ne_bool (fin_bl I q (congrArg not dec_bl))
    | str j => obtain ⟨t', rfl⟩ := ry; exact PySem.EqMixed.ne_bool_str (fin_bl I q (by simp))
    | _ => exact absurd (show false = true from hs) Bool.false_ne_true
  | int i =>
    obtain ⟨t, rfl⟩ := rx
    cases y with
    | non => cases ry; exact PySem.EqNone.ne_int_none (fin_bl I q (by simp))
    | int j => obtain ⟨t', rfl⟩ := ry; exact ne_int (fin_bl I q (congrArg not dec_int))
    | str j => obtain ⟨t', rfl⟩ := ry; exact PySem.EqMixed.ne_int_str (fin_bl I q (by simp))
    | _ => exact absurd (show false = true from hs) Bool.false_ne_true
  | str i =>
    obtain ⟨t, rfl⟩ := rx
    cases y with
    | non => cases ry; exact PySem.EqNone.ne_str_none (fin_bl I q (by simp))
    | bl j => cases ry; exact PySem.EqMixed.ne_str_bool (fin_bl I q (by simp))
    | int j => obtain ⟨t', rfl⟩ := ry; exact PySem.EqMixed.ne_str_int (fin_bl I q (by simp))
    | str j => obtain ⟨t', rfl⟩ := ry; exact ne_str (fin_bl I q (congrArg not dec_str))
    | _ => exact absurd (show false = true from hs) Bool.false_ne_true
  | byt i =>
    obtain ⟨t, rfl⟩ := rx
    cases y with
    | byt j => obtain ⟨t', rfl⟩ := ry; exact PySem.W.ne_bytes (fin_bl I q (congrArg not dec_byt))
    | _ => exact absurd (show false = true from hs) Bool.false_ne_true
  | _ => cases y <;> exact absurd (show false = true from hs) Bool.false_ne_true

theorem op_lt : OpR X (compareOp .Lt) (rI0 fun i j => .bl (decide (i < j))) := opB0 fun _ _ _ _ _ _ _ q => lt_int q
theorem op_le : OpR X (compareOp .LtE) (rI0 fun i j => .bl (decide (i ≤ j))) := opB0 fun _ _ _ _ _ _ _ q => le_int q
theorem op_gt : OpR X (compareOp .Gt) (rI0 fun i j => .bl (decide (j < i))) := opB0 fun _ _ _ _ _ _ _ q => gt_int q
theorem op_ge : OpR X (compareOp .GtE) (rI0 fun i j => .bl (decide (j ≤ i))) := opB0 fun _ _ _ _ _ _ _ q => ge_int q
theorem op_lt_str : OpR X (compareOp .Lt) (fun x y H Q => ∃ i j, x = .str i ∧ y = .str j ∧ Q (.bl (decide (i.cps.toList < j.cps.toList))) H) := by
  intro pins s σ H x y v u Q I rx ry h
  obtain ⟨i, j, rfl, rfl, q⟩ := h
  obtain ⟨t, rfl⟩ := rx
  obtain ⟨t', rfl⟩ := ry
  exact lt_str (fin_bl I q rfl)
/-- is None, is not None: the right side a value none -/
theorem op_isN : OpR X (compareOp .Is) (fun x y H Q => y = .non ∧ Q (.bl (decide (x = .non))) H) := by
  intro pins s σ H x y v u Q I rx ry h
  obtain ⟨rfl, q⟩ := h
  cases ry
  refine is_none_gen (fin_bl I q ?_)
  cases x <;> first
    | (cases rx; rfl)
    | (obtain ⟨t, rfl⟩ := rx; rfl)
theorem op_notN : OpR X (compareOp .IsNot) (fun x y H Q => y = .non ∧ Q (.bl (!decide (x = .non))) H) := by
  intro pins s σ H x y v u Q I rx ry h
  obtain ⟨rfl, q⟩ := h
  cases ry
  refine isnot_none_gen (fin_bl I q ?_)
  cases x <;> first
    | (cases rx; rfl)
    | (obtain ⟨t, rfl⟩ := rx; rfl)

/-- two rules for one operation: by cases -/
theorem OpR.or {f : Value → Value → Sem Value} {r r' : R2} (h : OpR X f r) (h' : OpR X f r') : OpR X f (fun x y H Q => r x y H Q ∨ r' x y H Q) := by
  intro pins s σ H x y v u Q I rx ry q
  rcases q with q | q
  · exact h pins s σ H x y v u Q I rx ry q
  · exact h' pins s σ H x y v u Q I rx ry q

theorem nomark (b : Expr) {op : CmpOp} (h : op ≠ .In := by decide) (h2 : op ≠ .NotIn := by decide) : behindInMarks op b = false := by
  have e1 : (op == CmpOp.In) = false := by cases op <;> first | rfl | exact absurd rfl h
  have e2 : (op == CmpOp.NotIn) = false := by cases op <;> first | rfl | exact absurd rfl h2
  cases b <;> simp [behindInMarks, e1, e2]
/-- a comparison as a value; hm: nomark b, or (for in, not in) by with_unfolding_all rfl -/
theorem pe_cmpR {op : CmpOp} {r : R2} (ho : OpR X (compareOp op) r) (ha : PE X a ta) (hb : PE X b tb) (hm : behindInMarks op b = false) : PE X (.Compare a [op] [b] pos) (tOp r ta tb) := by
  intro pins s σ H Q I h
  exact wpAny_Compare1 (binT ha hb I h fun v u s2 x y H2 I2 rx ry q => ho pins s2 σ H2 x y v u Q I2 rx ry q) hm
/-- a reading of a value as a test -/
def tTest (t : TE) : TT := fun σ H Q => t σ H fun x H' => ∃ k, x = .bl k ∧ Q k H'
theorem pt_cmpR {op : CmpOp} {r : R2} (ho : OpR X (compareOp op) r) (ha : PE X a ta) (hb : PE X b tb) (hm : behindInMarks op b = false) : PT X (.Compare a [op] [b] pos) (tTest (tOp r ta tb)) := by
  intro pins s σ H Q I h
  refine wpAny_isTrue_Compare1 (thn (ha pins s σ H _ I h) fun v s1 ⟨x, H1, I1, r1, q1⟩ => thn (hb pins s1 σ H1 _ I1 q1) fun u s2 ⟨y, H2, I2, r2, q2⟩ =>
    thn (ho pins s2 σ H2 x y v u _ I2 r1 r2 q2) fun c s3 ⟨z, H3, I3, r3, k, e, q3⟩ => ?_) hm
  subst e
  cases r3
  exact wpAny_truthy_bool ⟨H3, I3, q3⟩
/-! ### truth -/
theorem line63 : (sizeLine : Nat) < 2 ^ 63 := by rw [sizeLine_eq]; decide
/-! ### strs and bytes -/
theorem op_add_str : OpR X (binaryOp .Add) (fun x y H Q => ∃ i j, x = .str i ∧ y = .str j ∧ i.length + j.length ≤ sizeLine ∧ Q (.str (i ++ j)) H) := by
  intro pins s σ H x y v u Q I rx ry h
  obtain ⟨i, j, rfl, rfl, hz, q⟩ := h
  obtain ⟨t, rfl⟩ := rx
  obtain ⟨t', rfl⟩ := ry
  exact add_str (fun t' tk => ⟨.str (i ++ j), H, I.tok _, ⟨_, rfl⟩, q⟩) hz
/-! ### scalar builtins, by CallR -/
theorem vals1 {x : V} {us : List Value} (r : Vals [x] us) : ∃ u, us = [u] ∧ RelV x u := by
  cases r with
  | cons r1 r2 => cases r2; exact ⟨_, rfl, r1⟩
theorem vals2 {x y : V} {us : List Value} (r : Vals [x, y] us) : ∃ u w', us = [u, w'] ∧ RelV x u ∧ RelV y w' := by
  cases r with
  | cons r1 r2 =>
    cases r2 with
    | cons r3 r4 => cases r4; exact ⟨_, _, rfl, r1, r3⟩
theorem call_min2 (hc : X.calm = true) : CallR X (.builtin "min") (fun xs H Q => ∃ i j, xs = [.int i, .int j] ∧ Q (.int (if j < i then j else i)) H) := by
  intro pins s σ H xs us Q I r h
  obtain ⟨i, j, rfl, q⟩ := h
  obtain ⟨u, w', rfl, ⟨t, rfl⟩, ⟨t', rfl⟩⟩ := vals2 r
  refine min_two_ints (I.ok.hd hc) fun h' tk k => ⟨_, H, I.kept k, ?_, q⟩
  by_cases hj : j < i
  · rw [if_pos hj, if_pos hj]; exact ⟨_, rfl⟩
  · rw [if_neg hj, if_neg hj]; exact ⟨_, rfl⟩
theorem call_int1 : CallR X (.type "int") (fun xs H Q => (∃ i, xs = [.int i] ∧ Q (.int i) H) ∨ ∃ k, xs = [.bl k] ∧ Q (.int (if k then 1 else 0)) H) := by
  intro pins s σ H xs us Q I r h
  rcases h with ⟨i, rfl, q⟩ | ⟨k, rfl, q⟩
  · obtain ⟨u, rfl, t, rfl⟩ := vals1 r
    exact call_int_int ⟨.int i, H, I, ⟨_, rfl⟩, q⟩
  · obtain ⟨u, rfl, r1⟩ := vals1 r
    cases r1
    exact call_int_bool ⟨.int (if k then 1 else 0), H, I.tok _, ⟨_, rfl⟩, q⟩
theorem call_str_int : CallR X (.type "str") (fun xs H Q => ∃ i, xs = [.int i] ∧ i.natAbs.log2 < 1920 ∧ Q (.str (toString i)) H) := by
  intro pins s σ H xs us Q I r h
  obtain ⟨i, rfl, hz, q⟩ := h
  obtain ⟨u, rfl, t, rfl⟩ := vals1 r
  exact PySem.P.str_of_int hz ⟨.str _, H, I.tok _, ⟨_, rfl⟩, q⟩
end
end L2

namespace L2
open PySem PySem.Spec PyProof.Rows

/-! ### an instance, its attributes a map -/
structure ObjM (h : Heap) (x dx C : Addr) (mA : Str → Option Value) : Prop where
  obj : h.get? x = some (PySem.W.instObj C dx)
  ns : h.Ns1 dx mA
  ne : dx ≠ x

theorem lookIn_ns {h : Heap} {dx : Addr} {mA : Str → Option Value} (n : h.Ns1 dx mA) : ∃ od, h.get? dx = some od ∧ ∀ name, PySem.W.lookIn name od = some (mA name) := by
  obtain ⟨o, es, ep, ho, hd, hk, _, hm⟩ := n
  refine ⟨o, ho, fun name => ?_⟩
  have e := hm name
  unfold nsFind findBy at e
  rw [← Array.find?_toList] at e
  unfold PySem.W.lookIn
  rw [hd]
  dsimp only
  split
  · rename_i y q
    rw [q] at e
    exact congrArg some e
  · rename_i q
    rw [q] at e
    have a : es.toList.any (·.refKey) = false := by
      rw [List.any_eq_false]
      intro y hy
      obtain ⟨z, t, hkey⟩ := hk y (Array.mem_toList_iff.mp hy)
      simp [DictEntry.refKey, hkey]
    have a' : ¬ es.toList.any (·.refKey) = true := by rw [a]; exact Bool.false_ne_true
    rw [if_neg a']
    exact congrArg some e

theorem ObjM.look {h : Heap} {x dx C : Addr} {mA : Str → Option Value} (I : ObjM h x dx C mA) : ∃ od, PySem.W.InstAt h x (PySem.W.instObj C dx) C (some od) ∧ ∀ name, PySem.W.lookIn name od = some (mA name) :=
  let ⟨od, ho, hl⟩ := lookIn_ns I.ns
  ⟨od, ⟨I.obj, rfl, rfl, ho⟩, hl⟩

section
variable {prog : Program} {w : World} {A : Around} {E : Value → Shared → Prop} {s : Shared} {K : PySem.W.Frag} {x dx C f : Addr} {mA : Str → Option Value} {name : Str} {v : Value}

end

/-! ### the attributes as a list of pairs -/
theorem RelO.some_of {v : V} {o : Option Value} (r : RelO (some v) o) : ∃ u, o = some u ∧ RelV v u := by
  cases o with
  | none => exact (show False from r).elim
  | some u => exact ⟨u, rfl, r⟩
section
variable {P : Program} {w : World} {H H' : Hp} {h h' : Heap} {a C dx : Addr} {fs fs' : List (Str × V)}
theorem ins_get (hok : HOk P w H h) (e : H a = some (.ins C dx fs)) : ∃ mA, ObjM h a dx C mA ∧ (∀ f, RelO (fs.lookup f) (mA f)) ∧ PySem.Within mA (fs.map (·.1)) ∧ fs.length ≤ 1000 ∧ H dx = some (.own a) := by
  obtain ⟨d, z, ne, ob, mA, n, r, q⟩ := (show ObjOk P w H h a (.ins C dx fs) from hok a _ e)
  exact ⟨mA, ⟨ob, n, ne⟩, r, q, z, d⟩
end

/-! ### what of the text a class must have -/
structure Cls (K : PySem.W.Frag) (C : Addr) : Prop where
  pg : PySem.W.plainGet K C Str.empty = true
  hd : PySem.W.hasDictIn K C = true
  po : PySem.W.plainOver K C = true
  sa : PySem.W.findIn K (.ref C) "__setattr__" = some (some (.builtin "object.__setattr__"))
theorem Cls.get {K : PySem.W.Frag} {C : Addr} (c : Cls K C) (f : Str) : PySem.W.plainGet K C f = true := c.pg
/-- a constant of the class -/
structure Con (K : PySem.W.Frag) (C : Addr) (f : Str) (v : V) (u : Value) : Prop where
  at_ : PySem.W.findIn K (.ref C) f = some (some u)
  rel : RelV v u
  get : PySem.W.specialIn K u "__get__" = some none
  cp : PySem.W.copiedNames.contains f = false
/-- a method: a plain def of the class or of one above it -/
structure Meth (K : PySem.W.Frag) (C : Addr) (m : Str) (f : Addr) : Prop where
  at_ : PySem.W.findIn K (.ref C) m = some (some (.ref f))
  fn : PySem.W.isFn K (.ref f) = true
  kp : PySem.W.keepIn K (.ref f) = true

section
variable {X : Cx} {pins : List (Addr × Obj)} {σ : St} {H : Hp} {s : Shared} {a C dx : Addr} {fs : List (Str × V)} {f : Str} {v : V} {A : Around} {E : Value → Shared → Prop}

end

/-! ### readings and rules -/
section
variable {X : Cx} {o e value : Expr} {f : Str} {pos pos' tpos : Pos} {ta tv : TE}
end

/-! ### isinstance -/
section
variable {X : Cx} {pins : List (Addr × Obj)} {σ : St} {H : Hp} {s : Shared} {A : Around} {E : Value → Shared → Prop} {Q : Value → Shared → Prop} {c : Value} {b : Bool}
/-- the type of a value, as the fragment's deciders take it; for an instance its class -/
inductive TyOf (K : PySem.W.Frag) (H : Hp) : V → Value → Prop where
  | non : TyOf K H .non (.type "NoneType")
  | bl (x : Bool) : TyOf K H (.bl x) (.type "bool")
  | int (i : Int) : TyOf K H (.int i) (.type "int")
  | str (x : Str) : TyOf K H (.str x) (.type "str")
  | flt (x : UInt64) : TyOf K H (.flt x) (.type "float")
  | lst {a : Addr} {xs : List V} (e : H a = some (.lst xs)) : TyOf K H (.ref a) (.type "list")
  | frz {a : Addr} {o : Obj} {xs : List V} (e : H a = some (.frz o (.lst xs))) : TyOf K H (.ref a) (.type "list")
  | tup {a : Addr} {xs : List V} (e : H a = some (.tup xs)) : TyOf K H (.ref a) (.type "tuple")
  | dK {a : Addr} {kvs : List (Key × V)} (e : H a = some (.dK kvs)) : TyOf K H (.ref a) (.type "dict")
  | dT {a : Addr} {kvs : List (List Key × V)} (e : H a = some (.dT kvs)) : TyOf K H (.ref a) (.type "dict")
  | ins {a C dx : Addr} {fs : List (Str × V)} (e : H a = some (.ins C dx fs)) (cl : Cls K C) (ha : PySem.W.findIn K (.ref C) "__class__" = some (some (.builtin "object.__class__")))
      (hn : PySem.W.specialIn K (.builtin "object.__class__") "__get__" = some (some (.builtin "getset_descriptor.__get__"))) (htk : PySem.W.takesIn K (.builtin "object.__class__") = some true)
      (hm : PySem.W.mroIn K C (.type "object") = some true) : TyOf K H (.ref a) (.ref C)
/-- isinstance(x, c) for one class c, a built-in or an own one: kitOne's answer -/
theorem isinst_ok {x : V} {u t : Value} (I : Inv X pins σ H s) (rx : RelV x u) (ty : TyOf X.K H x t) (e : PySem.W.kitOne X.K t c = some b) (h : ∀ tk, Q (.bool b) { s with toks := tk }) :
    wpAny (model X.prog X.w) A (call (.builtin "isinstance") [u, c]) Q E s := by
  cases ty with
  | non => cases (show u = Value.none from rx); exact PySem.W.kia_one PySem.W.kitx_none I.kIn True.intro e (fun z => nomatch z) h
  | bl y => cases (show u = Value.bool y from rx); exact PySem.W.kia_one PySem.W.kitx_bool I.kIn True.intro e (fun z => nomatch z) h
  | int i => obtain ⟨t, q⟩ := (show ∃ t, u = Value.int i t from rx); cases q; exact PySem.W.kia_one PySem.W.kitx_int I.kIn True.intro e (fun z => nomatch z) h
  | str y => obtain ⟨t, q⟩ := (show ∃ t, u = Value.str y t from rx); cases q; exact PySem.W.kia_one PySem.W.kitx_str I.kIn True.intro e (fun z => nomatch z) h
  | flt y => obtain ⟨t, q⟩ := (show ∃ t, u = Value.float y t from rx); cases q; exact PySem.W.kia_one PySem.W.kitx_float I.kIn True.intro e (fun z => nomatch z) h
  | @lst a xs ea =>
    cases (show u = Value.ref a from rx)
    obtain ⟨_, _, n, _, h1⟩ := (show ObjOk X.prog X.w H s.heap a (.lst xs) from I.hok a _ ea)
    exact PySem.W.kia_one PySem.W.kitx_list I.kIn ⟨_, h1, rfl⟩ e (fun z => nomatch z) h
  | @frz a ob xs ea =>
    cases (show u = Value.ref a from rx)
    obtain ⟨_, _, _, n, _, h1⟩ := (show ObjOk X.prog X.w H s.heap a (.frz ob (.lst xs)) from I.hok a _ ea)
    exact PySem.W.kia_one PySem.W.kitx_list I.kIn ⟨_, h1, rfl⟩ e (fun z => nomatch z) h
  | @tup a xs ea =>
    cases (show u = Value.ref a from rx)
    obtain ⟨_, _, _, p⟩ := (show ObjOk X.prog X.w H s.heap a (.tup xs) from I.hok a _ ea)
    obtain ⟨o, h1, h2, _⟩ := p
    exact PySem.W.kia_one PySem.W.kitx_tuple I.kIn ⟨o, h1, h2⟩ e (fun z => nomatch z) h
  | @dK a kvs ea =>
    cases (show u = Value.ref a from rx)
    obtain ⟨_, _, vs, _, p⟩ := (show ObjOk X.prog X.w H s.heap a (.dK kvs) from I.hok a _ ea)
    obtain ⟨o, es, ep, h1, h2, _⟩ := p
    exact PySem.W.kia_one PySem.W.kitx_dict I.kIn ⟨o, h1, h2.1⟩ e (fun z => nomatch z) h
  | @dT a kvs ea =>
    cases (show u = Value.ref a from rx)
    obtain ⟨_, _, xs, _, o, es, ep, h1, h2, _⟩ := (show ObjOk X.prog X.w H s.heap a (.dT kvs) from I.hok a _ ea)
    exact PySem.W.kia_one PySem.W.kitx_dict I.kIn ⟨o, h1, h2.1⟩ e (fun z => nomatch z) h
  | @ins a C dx fs ea cl ha hn htk hm =>
    cases (show u = Value.ref a from rx)
    obtain ⟨mA, O, _⟩ := ins_get I.hok ea
    obtain ⟨od, J, _⟩ := O.look
    exact PySem.W.kia_one (PySem.W.kitx_own (cl.get _) cl.hd ha hn htk hm) I.kIn J e (fun z => nomatch z) h
end
end L2

namespace L2
open PySem PySem.Spec PyProof.Rows

/-! ### room -/
structure Room (k : Nat) (A : Around) : Prop where
  hd : A.handled = none
  dp : A.depth + 3 * k + 5 < recursionLimit
  un : A.units + 16 * k + 200 < cLine
theorem Room.mono {j k : Nat} {A : Around} (r : Room k A) (h : j ≤ k) : Room j A := ⟨r.hd, by have := r.dp; omega, by have := r.un; omega⟩
theorem Room.deeper {k : Nat} {A : Around} (r : Room (k + 1) A) (env : Env) : Room k (A.deeper env) :=
  ⟨r.hd, by have := r.dp; show A.depth + 1 + 3 * k + 5 < _; omega, by have := r.un; show A.units + 3 + 16 * k + 200 < _; omega⟩
theorem Room.in1 {k : Nat} {A : Around} (r : Room (k + 1) A) : Room k A.in1 :=
  ⟨r.hd, by have := r.dp; show A.depth + 3 * k + 5 < _; omega, by have := r.un; show A.units + 1 + 16 * k + 200 < _; omega⟩
theorem Room.depth {k : Nat} {A : Around} (r : Room k A) : A.depth < recursionLimit := by have := r.dp; omega
theorem Room.units {k : Nat} {A : Around} (r : Room k A) : A.units + 64 < cLine := by have := r.un; omega
/-! ### argument lists and displays -/
def tNil : TA := fun _ H Q => Q [] H
def tCons (ta : TE) (tr : TA) : TA := fun σ H Q => ta σ H fun x H1 => tr σ H1 fun xs H2 => Q (x :: xs) H2
section
variable {X : Cx} {e : Expr} {es : List Expr} {te : TE} {t : TA} {pos : Pos}
theorem pa_nil : PA X [] tNil := fun _ _ _ _ H Q I h => Calls.spliced_nil ⟨[], H, I, .nil, h⟩
theorem pa_cons (ha : PE X e te) (hr : PA X es t) (hs : starEach (e :: es) X.env = (false, eval e X.env) :: starEach es X.env := by rfl) : PA X (e :: es) (tCons te t) := by
  intro pos pins s σ H Q I h
  rw [hs]
  show wpAny _ _ (spliced ((false, eval e X.env) :: backTo pos (starEach es X.env))) _ _ s
  refine Calls.spliced_cons (thn (ha pins s σ H _ I h) fun u s1 ⟨x, H1, I1, r1, q1⟩ => ?_)
  exact thn (hr pos pins s1 σ H1 _ I1 q1) fun us s2 ⟨xs, H2, I2, r2, q2⟩ => ⟨x :: xs, H2, I2, .cons r1 r2, q2⟩

/-- a tuple, a list of written items -/
def tTup (t : TA) : TE := fun σ H Q => t σ H fun xs H1 => xs.length ≤ sizeLine ∧ ∀ p, H1 p = none → Q (.ref p) (upd H1 p (.tup xs))
def tLst (t : TA) : TE := fun σ H Q => t σ H fun xs H1 => xs.length ≤ sizeLine ∧ ∀ p, H1 p = none → Q (.ref p) (upd H1 p (.lst xs))
theorem pe_tup {x1} (h : PA X es t) : PE X (.Tuple es x1 pos) (tTup t) := by
  intro pins s σ H Q I hq
  refine wpAny_Tuple_spliced (thn (h pos pins s σ H _ I hq) fun us s1 ⟨xs, H1, I1, r, z, q⟩ => ⟨by rw [← r.length]; exact z, ?_⟩)
  have hf : H1 s1.heap.objs.size = none := I1.hok.fresh (Nat.le_refl _)
  refine ⟨.ref s1.heap.objs.size, upd H1 s1.heap.objs.size (.tup xs), I1.laid (t' := s1.toks) (fun b u e => Heap.get?_push_of_some _ e) (Nat.le_refl _) ?_, rfl, q _ hf⟩
  exact ⟨z, us, r, ⟨_, Heap.get?_push_size _ rfl, rfl, _, rfl⟩⟩
theorem pe_lst (h : PA X es t) : PE X (.List es pos) (tLst t) := by
  intro pins s σ H Q I hq
  refine wpAny_List_spliced (thn (h pos pins s σ H _ I hq) fun us s1 ⟨xs, H1, I1, r, z, q⟩ => ⟨by rw [← r.length]; exact z, ?_⟩)
  have hf : H1 s1.heap.objs.size = none := I1.hok.fresh (Nat.le_refl _)
  refine ⟨.ref s1.heap.objs.size, upd H1 s1.heap.objs.size (.lst xs), I1.laid (t' := s1.toks) (fun b u e => Heap.get?_push_of_some _ e) (Nat.le_refl _) ?_, rfl, q _ hf⟩
  exact ⟨z, us, 0, r, Heap.get?_push_size _ rfl⟩
end

/-! ### what a def promises -/
/-- a def's promise: the bound arguments in the parameters' order, the heap, the wanted end, the wanted exception -/
abbrev Sp := List V → Hp → VK → XK → Prop
/-- how an exception lies behind a call (file 08 gives it): the callers' frames, abstract heap and state ahead of the call, the wish, the exception, the state -/
abbrev CXT := List Env → Hp → Shared → XK → Value → Shared → Prop

/-- the state at a call -/
structure Env0 (P : Program) (w : World) (K : PySem.W.Frag) (mg : Str → Option Value) (base : Heap) (A : Around) (outer : List Env) (s : Shared) (H : Hp) : Prop where
  frames : A.frames = some outer
  mod : Mod K mg base
  bs : ∀ b o, base.get? b = some o → s.heap.get? b = some o ∧ H b = none
  bsz : base.objs.size ≤ s.heap.objs.size
  funs : s.heap.FunFrames base outer
  frf : ∀ b ∈ frs outer, H b = none
  hok : HOk P w H s.heap
  bare : AllBare s.gens
/-- a call's end -/
def CE (outer : List Env) (P : Program) (w : World) (H : Hp) (s : Shared) (Q : VK) (u : Value) (s' : Shared) : Prop :=
  ∃ v H', s'.os = s.os ∧ AllBare s'.gens ∧ Un (frs outer) [] H H' s.heap s'.heap ∧ HOk P w H' s'.heap ∧ RelV v u ∧ Q v H'
def CR (CX : CXT) (outer : List Env) (P : Program) (w : World) (H : Hp) (s : Shared) (Q : VK) (E : XK) (r : Result) (s' : Shared) : Prop :=
  match r with
  | .ok (.ret u) => CE outer P w H s Q u s'
  | .ok _ => False
  | .error e => CX outer H s E e s'
structure FnOk (P : Program) (w : World) (K : PySem.W.Frag) (mg : Str → Option Value) (base : Heap) (CX : CXT) (k : Nat) (f : Addr) (fd : FuncData) (ps : List Str) (sp : Sp) : Prop where
  len : ∀ vs H Q E, sp vs H Q E → vs.length = ps.length
  run : ∀ (A : Around) (outer : List Env) (s : Shared) (H : Hp) (args : Args) (us : List Value) (vs : List V) (Q : VK) (E : XK), Room k A → Env0 P w K mg base A outer s H → BindsTo s fd args (ps.zip us) → Vals vs us → sp vs H Q E →
    codeAny (model P w) A (.call (.ref f) args) (CR CX outer P w H s Q E) s
theorem FnOk.mono {P : Program} {w : World} {K : PySem.W.Frag} {mg : Str → Option Value} {base : Heap} {CX : CXT} {j k : Nat} {f : Addr} {fd : FuncData} {ps : List Str} {sp : Sp} (F : FnOk P w K mg base CX j f fd ps sp) (h : j ≤ k) :
    FnOk P w K mg base CX k f fd ps sp := ⟨F.len, fun A outer s H args us vs Q E hr => F.run A outer s H args us vs Q E (hr.mono h)⟩
theorem Env0.in1 {P : Program} {w : World} {K : PySem.W.Frag} {mg : Str → Option Value} {base : Heap} {A : Around} {outer : List Env} {s : Shared} {H : Hp} (e : Env0 P w K mg base A outer s H) :
    Env0 P w K mg base A.in1 outer s H := ⟨e.frames, e.mod, e.bs, e.bsz, e.funs, e.frf, e.hok, e.bare⟩

section
variable {X : Cx} {pins : List (Addr × Obj)} {σ : St} {H : Hp} {s s' : Shared}
/-- from a body: what a callee wants -/
theorem Inv.env0 (I : Inv X pins σ H s) : Env0 X.prog X.w X.K X.mg X.base X.A X.stack s H :=
  ⟨I.ok.frames, I.ok.mod, I.bs, Nat.le_trans I.ok.bsz I.sz, I.stack, I.stkFree, I.hok, I.bare⟩
/-- behind a call -/
theorem Inv.after {Q : VK} {u : Value} (I : Inv X pins σ H s) (h : CE X.stack X.prog X.w H s Q u s') : EP X pins σ Q u s' := by
  obtain ⟨v, H', os, bare, un, hok, r, q⟩ := h
  obtain ⟨hh, g, d, t, os'⟩ := s'
  obtain rfl : os' = s.os := os
  exact ⟨v, H', I.call (h' := hh) (g' := g) (d' := d) (t' := t) (ch := []) un hok bare (fun b z => absurd z (by simp)), r, q⟩
end

/-! ### calls -/
/-- f(..): the written arguments, then the defaults dvs; E: what is wanted of an exception -/
def tCall (sp : Sp) (dvs : List V) (E : XK) (t : TA) : TE := fun σ H Q => t σ H fun vs H1 => sp (vs ++ dvs) H1 Q E
/-- how the parameters are bound: us the positional arguments, kw the keywords' values by name, ds the defaults that fill up -/
def Binds (K : PySem.W.Frag) (fd : FuncData) (ps : List Str) (ds : List Value) : Prop :=
  ∀ (s : Shared) (us : List Value), K.In s.heap → (us ++ ds).length = ps.length → BindsTo s fd ⟨us, []⟩ (ps.zip (us ++ ds))
/-- every parameter is given -/
theorem Binds.all {K : PySem.W.Frag} {fd : FuncData} {ps : List Str} (h : ∀ us : List Value, us.length = ps.length → bindArgs fd ⟨us, []⟩ = pure (ps.zip us)) : Binds K fd ps [] := fun s us _ hl => by
  rw [List.append_nil] at hl ⊢
  exact .of_eq (h us hl)

/-- an exception of a callee reaches what this body wants of exceptions -/
def Passes (CX : CXT) (X : Cx) (E : XK) : Prop := ∀ (pins : List (Addr × Obj)) (σ : St) (H : Hp) (s : Shared) (e : Value) (s' : Shared), Inv X pins σ H s → CX X.stack H s E e s' → X.xe e s'

section
variable {X : Cx} {CX : CXT} {k : Nat} {f C : Addr} {fd : FuncData} {ps : List Str} {sp : Sp} {dvs : List V} {ds : List Value} {E : XK} {x m : Str} {p pos apos : Pos} {e o : Expr} {es : List Expr} {ta : TE} {t : TA}

/-- the callee runs -/
theorem run_fn {pins : List (Addr × Obj)} {σ : St} {H : Hp} {s : Shared} {Q : VK} {us : List Value} {vs : List V} (F : FnOk X.prog X.w X.K X.mg X.base CX k f fd ps sp) (hr : Room k X.A) (hb : Binds X.K fd ps ds) (hd : Vals dvs ds) (hx : Passes CX X E)
    (I : Inv X pins σ H s) (r : Vals vs us) (h : sp (vs ++ dvs) H Q E) : wpAny (model X.prog X.w) X.A (call (.ref f) us) (EP X pins σ Q) X.xe s := by
  have r2 : Vals (vs ++ dvs) (us ++ ds) := r.append hd
  have hl : (us ++ ds).length = ps.length := by rw [← r2.length]; exact F.len _ _ _ _ h
  refine wpAny_call (codeAny_mono (F.run X.A X.stack s H ⟨us, []⟩ (us ++ ds) (vs ++ dvs) Q E hr I.env0 (hb s us I.kIn hl) r2 h) fun r s' hq => ?_)
  cases r with
  | error e => exact hx pins σ H s e s' I hq
  | ok fl =>
    cases fl with
    | ret u => exact I.after hq
    | next => exact False.elim hq
    | brk => exact False.elim hq
    | cont => exact False.elim hq

theorem pe_call (F : FnOk X.prog X.w X.K X.mg X.base CX k f fd ps sp) (hr : Room k X.A) (hg : Gl X x) (hm : X.mg x = some (.ref f)) (hk : PySem.W.keepIn X.K (.ref f) = true) (hb : Binds X.K fd ps ds) (hd : Vals dvs ds) (hx : Passes CX X E)
    (ha : PA X (e :: es) t) (hdb : (x == ("__debug__" : Str)) = false := by decide) (he : starEach (e :: es) X.env = (false, eval e X.env) :: starEach es X.env := by rfl) (hpl : (backTo pos (starEach es X.env)).any (·.1) = false := by rfl) :
    PE X (.Call (.Name x p) (e :: es) [] pos) (tCall sp dvs E t) := by
  intro pins s σ H Q I h
  refine wpAny_Call_Name_kw (ld_glob I hg hm ?_ hdb)
  refine PySem.W.callWith_K (h₀ := X.base) I.ok.mod.kin hk (thn (ha pos pins s σ H _ I h) fun us s1 ⟨vs, H1, I1, r, q⟩ => ⟨I1.kIn, ?_⟩) he hpl
  exact run_fn F hr hb hd hx I1 r q
/-- what a class must have to be made -/
structure Mk (K : PySem.W.Frag) (C f : Addr) : Prop where
  makes : PySem.W.makesIn K C = true
  init : PySem.W.findIn K (.ref C) "__init__" = some (some (.ref f))
  fn : PySem.W.isFn K (.ref f) = true
  kp : PySem.W.keepIn K (.ref C) = true

end

/-! ### keywords -/
section
variable {X : Cx} {CX : CXT} {k : Nat} {f C : Addr} {fd : FuncData} {ps ks : List Str} {sp : Sp} {E : XK} {x m : Str} {p pos apos kpos : Pos} {e o : Expr} {es : List Expr} {kws : List Keyword} {te ta : TE} {t tk : TA} {nm : Option Str}
/-- how a call with keywords binds: g puts the positional values us and the keywords' values ws (names ks) in the parameters' order, defaults among them -/
structure KBinds (K : PySem.W.Frag) (fd : FuncData) (ps ks : List Str) (g : List Value → List Value → List Value) (gV : List V → List V → List V) : Prop where
  to : ∀ (s : Shared) (us ws : List Value), K.In s.heap → (g us ws).length = ps.length → BindsTo s fd ⟨us, ks.zip ws⟩ (ps.zip (g us ws))
  rel : ∀ {vs : List V} {us : List Value} {zs : List V} {ws : List Value}, Vals vs us → Vals zs ws → Vals (gV vs zs) (g us ws)
variable {g : List Value → List Value → List Value} {gV : List V → List V → List V}
end

/-! ### a def's body keeps its promise -/
/-- names: the parameters first -/
structure FnScope (N P : List Str) (sc : Scope) : Prop where
  kind : sc.kind = .function
  co : sc.isCoroutine = false
  gen : sc.isGenerator = false
  nd : N.Nodup
  pre : N.take P.length = P
  par : ∀ x ∈ P, sc.names.lookup x = some .local ∨ sc.names.lookup x = some .cell
  nofree : ∀ y ∈ sc.names, y.2 ≠ .free

theorem bindL_out {kindOf : Str → Option NameKind} {x : Str} : ∀ {binds : List (Str × Value)} {m : Str → Option Value}, (∀ v, (x, v) ∉ binds) → bindL kindOf binds m x = m x
  | [], _, _ => rfl
  | (n, v) :: r, m, h => by
    unfold bindL
    rw [bindL_out fun w hw => h w (List.mem_cons_of_mem _ hw)]
    split
    · have : x ≠ n := by rintro rfl; exact h v List.mem_cons_self
      simp [this]
    · rfl
theorem bindC_out {kindOf : Str → Option NameKind} {x : Str} : ∀ {binds : List (Str × Value)} {m : Str → Option Value}, (∀ v, (x, v) ∉ binds) → bindC kindOf binds m x = m x
  | [], _, _ => rfl
  | (n, v) :: r, m, h => by
    unfold bindC
    rw [bindC_out fun w hw => h w (List.mem_cons_of_mem _ hw)]
    split
    · rfl
    · have : x ≠ n := by rintro rfl; exact h v List.mem_cons_self
      simp [this]
theorem bindL_get {kindOf : Str → Option NameKind} {x : Str} {v : Value} : ∀ {P : List Str} {vs : List Value} {i : Nat} {m : Str → Option Value}, P.Nodup → P[i]? = some x → vs[i]? = some v → kindOf x = some .local →
    bindL kindOf (P.zip vs) m x = some v
  | [], _, _, _, _, h, _, _ => by simp at h
  | _ :: _, [], _, _, _, _, h, _ => by simp at h
  | p :: P, w :: vs, 0, m, nd, h1, h2, hk => by
    simp at h1 h2; subst h1; subst h2
    show bindL kindOf ((p, w) :: P.zip vs) m p = _
    unfold bindL
    rw [bindL_out fun v hv => (List.nodup_cons.mp nd).1 (List.of_mem_zip hv).1, if_pos hk]
    simp
  | p :: P, w :: vs, i + 1, m, nd, h1, h2, hk => by
    show bindL kindOf ((p, w) :: P.zip vs) m x = _
    unfold bindL
    exact bindL_get (i := i) (List.nodup_cons.mp nd).2 (by simpa using h1) (by simpa using h2) hk
theorem bindC_get {kindOf : Str → Option NameKind} {x : Str} {v : Value} : ∀ {P : List Str} {vs : List Value} {i : Nat} {m : Str → Option Value}, P.Nodup → P[i]? = some x → vs[i]? = some v → kindOf x ≠ some .local →
    bindC kindOf (P.zip vs) m x = some v
  | [], _, _, _, _, h, _, _ => by simp at h
  | _ :: _, [], _, _, _, _, h, _ => by simp at h
  | p :: P, w :: vs, 0, m, nd, h1, h2, hk => by
    simp at h1 h2; subst h1; subst h2
    show bindC kindOf ((p, w) :: P.zip vs) m p = _
    unfold bindC
    rw [bindC_out fun v hv => (List.nodup_cons.mp nd).1 (List.of_mem_zip hv).1, if_neg hk]
    simp
  | p :: P, w :: vs, i + 1, m, nd, h1, h2, hk => by
    show bindC kindOf ((p, w) :: P.zip vs) m x = _
    unfold bindC
    exact bindC_get (i := i) (List.nodup_cons.mp nd).2 (by simpa using h1) (by simpa using h2) hk

/-- the names' values at the entry -/
def start (N : List Str) (vs : List V) : St := vs.map some ++ List.replicate (N.length - vs.length) none

/-- the context of a def's body, at its entry; an exception leaves the frame, then lies as CX says -/
def cxOf (CX : CXT) (P : Program) (w : World) (K : PySem.W.Frag) (mg : Str → Option Value) (base : Heap) (N : List Str) (qual : Str) (scope : Scope) (f : Addr) (cd : Value) (A : Around) (outer : List Env) (s : Shared) (H : Hp) (E : XK) : Cx where
  prog := P
  w := w
  K := K
  mg := mg
  base := base
  A := A.deeper (envOfC qual scope s.heap.objs.size f cd)
  N := N
  s₀ := s
  H₀ := H
  env := envOfC qual scope s.heap.objs.size f cd
  outer := outer
  stack := envOfC qual scope s.heap.objs.size f cd :: outer
  ex := []
  calm := true
  fn := fun _ => true
  pn := []
  xe := fun e s' => wpAny (model P w) (A.deeper (envOfC qual scope s.heap.objs.size f cd)) (leaving (envOfC qual scope s.heap.objs.size f cd) e) (fun _ s'' => CX outer H s E e s'') (fun e' s'' => CX outer H s E e' s'') s'

theorem cell_has {sc : Scope} {n : Nat} {x : Str} (h : sc.names.lookup x = some .cell) : ∃ c, (cellsFrom n sc.names []).lookup x = some c := by
  have q := PySem.W.cellsFrom_some sc.names n [] (.inl h)
  exact Option.isSome_iff_exists.mp q

theorem inv_start {CX : CXT} {P : Program} {w : World} {K : PySem.W.Frag} {mg : Str → Option Value} {base : Heap} {N ps : List Str} {qual : Str} {scope : Scope} {f : Addr} {cd : Value} {A : Around} {outer : List Env} {s s1 : Shared} {H : Hp} {E : XK} {us : List Value} {vs : List V}
    (S : FnScope N ps scope) (hd : A.handled = none) (e0 : Env0 P w K mg base A outer s H) (hl : vs.length = ps.length) (r : Vals vs us)
    (x : InCallC s s.heap.objs.size (bindL (envOfC qual scope s.heap.objs.size f cd).kindOf (ps.zip us) fun _ => none) (cellsFrom (s.heap.objs.size + 1) scope.names []) (bindC (envOfC qual scope s.heap.objs.size f cd).kindOf (ps.zip us) fun _ => none) s1) :
    Inv (cxOf CX P w K mg base N qual scope f cd A outer s H E) [] (start N vs) H s1 := by
  have hpl : ps.length ≤ N.length := by have := congrArg List.length S.pre; rw [List.length_take] at this; omega
  obtain ⟨h1, tk, rfl, hk⟩ := x.done
  have noA : ∀ b : Addr, b ∉ (cxOf CX P w K mg base N qual scope f cd A outer s H E).ex := fun b z => absurd (show b ∈ ([] : List Addr) from z) (by simp)
  refine ⟨⟨e0.mod, S.kind, rfl, rfl, Nat.le_refl _, fun y z c h1 h2 => ?_, fun y hy => ?_, fun y c _ h => ?_, fun _ => hd, Around.frames_deeper e0.frames, .inr ⟨rfl, rfl⟩, fun b z => absurd z (noA b), e0.bs, e0.bsz, fun b _ _ => noA b, fun b z => absurd z (noA b), e0.funs, e0.frf⟩,
    rfl, e0.bare, Un.kept hk, ⟨_, x.toInCall.ns, fun i y v h1 h2 h3 => ?_⟩, fun y c h => ⟨_, x.cell y c h⟩, e0.hok.fresh (Nat.le_refl _), fun y c h => ?_, fun p hp => absurd (show p ∈ ([] : List (Addr × Obj)) from hp) (by simp), e0.hok.kept hk, ?_⟩
  · exact name_of_addr x.apart (PySem.mem_of_lookup h1) (PySem.mem_of_lookup h2)
  · have hy : scope.names.lookup y = some .cell ∨ scope.names.lookup y = some .free := hy
    rcases hy with hy | hy
    · exact cell_has hy
    · exact absurd rfl (S.nofree _ (PySem.mem_of_lookup hy))
  · exact Nat.le_of_lt (x.above y c (PySem.mem_of_lookup h))
  · have hi : i < vs.length := by
      unfold start at h2
      by_cases hi : i < vs.length
      · exact hi
      · rw [List.getElem?_append_right (by simpa using hi)] at h2
        rw [List.getElem?_replicate] at h2
        split at h2 <;> cases h2
    have ha : vs[i]? = some v := by
      unfold start at h2
      rw [List.getElem?_append_left (by simpa using hi), List.getElem?_map] at h2
      cases e : vs[i]? with
      | none => rw [e] at h2; cases h2
      | some a => rw [e] at h2; cases h2; rfl
    obtain ⟨u, hu, rv⟩ := r.get ha
    have hp : ps[i]? = some y := by
      rw [← S.pre, List.getElem?_take_of_lt (by omega)]; exact h1
    have ndP : ps.Nodup := by rw [← S.pre]; exact S.nd.sublist (List.take_sublist _ _)
    refine ⟨u, rv, ?_⟩
    rcases S.par y (List.mem_of_getElem? hp) with k | k
    · exact .inl ⟨k, bindL_get ndP hp hu k⟩
    · obtain ⟨c, e⟩ := cell_has (n := s.heap.objs.size + 1) k
      refine .inr ⟨.inl k, c, e, ?_⟩
      have q := x.cell y c e
      rw [bindC_get ndP hp hu (by show scope.names.lookup y ≠ _; rw [k]; decide)] at q
      exact q
  · exact e0.hok.fresh (Nat.le_of_lt (x.above y c (PySem.mem_of_lookup h)))
  · unfold start
    show _ = N.length
    rw [List.length_append, List.length_map, List.length_replicate]
    omega

/-- THE RULE: a def (or a method) of the text, by its body. The body's reading t is chosen for each entry; it is run at the parameters' values -/
theorem fn_of {CX : CXT} {P : Program} {w : World} {K : PySem.W.Frag} {mg : Str → Option Value} {base : Heap} {k : Nat} {f : Addr} {name qual : Str} {params : Arguments} {body : List Stmt} {scope : Scope} {dV kV doc pm cdv ct oc : Value} {an od : Option Addr}
    {osl : Array (Option Value)} {N ps : List Str} {sp : Sp} (lk : K.lookup f = some ⟨oc, od, .func (PySem.W.fnOf name qual params body scope dV kV doc pm an cdv ct), osl⟩) (hcd : PySem.W.codeIn K cdv qual = true) (S : FnScope N ps scope)
    (len : ∀ vs H Q E, sp vs H Q E → vs.length = ps.length)
    (hbody : ∀ (A : Around) (outer : List Env) (s : Shared) (H : Hp) (vs : List V) (Q : VK) (E : XK), Room k (A.deeper (envOfC qual scope s.heap.objs.size f cdv)) → sp vs H Q E →
      ∃ t, PSs (cxOf CX P w K mg base N qual scope f cdv A outer s H E) body t ∧ t { nx := fun _ H' => Q .non H', rt := Q } (start N vs) H) :
    FnOk P w K mg base CX (k + 1) f (PySem.W.fnOf name qual params body scope dV kV doc pm an cdv ct) ps sp := by
  refine ⟨len, fun A outer s H args us vs Q E hr e0 hb r hsp => ?_⟩
  have hl := len _ _ _ _ hsp
  have KX : K.In s.heap := e0.mod.kin.keeps fun b o e => (e0.bs b o e).1
  have lim : s.heap.NoLimit := e0.mod.nolimit.keeps fun b o e => (e0.bs b o e).1
  have hkind : ∀ y ∈ ps.zip us, scope.names.lookup y.1 = some .local ∨ (scope.names.lookup y.1 = some .cell ∧ ((cellsFrom (s.heap.objs.size + 1) scope.names []).lookup y.1).isSome = true) := fun ⟨n, v⟩ hy => by
    rcases S.par n (List.of_mem_zip hy).1 with q | q
    · exact .inl q
    · exact .inr ⟨q, PySem.W.cellsFrom_some _ _ _ (.inl q)⟩
  refine codeAny_call_function hr.depth (KX _ _ lk) rfl S.co S.gen rfl (PySem.W.codeRec_of KX hcd) (hb _ _ _ _ ?_)
  refine wpAny_newFunctionEnv_cells S.kind hkind fun env he s1 x => ?_
  subst he
  refine ⟨lim.keeps x.toInCall.keep, codeAny_func ?_⟩
  obtain ⟨t, ht, hq⟩ := hbody A outer s H vs Q E (hr.deeper _) hsp
  have I : Inv (cxOf CX P w K mg base N qual scope f cdv A outer s H E) [] (start N vs) H s1 := inv_start S hr.hd e0 hl r x
  refine wpAny_mono (ht [] s1 (start N vs) H _ I hq) (fun fl s' hs => ?_) fun e s' hs => hs
  have fin : ∀ {σ' : St} {H' : Hp} {v : V} {u : Value}, Inv (cxOf CX P w K mg base N qual scope f cdv A outer s H E) [] σ' H' s' → RelV v u → Q v H' → CE outer P w H s Q u s' :=
    fun {σ' H' v u} J rv q => ⟨v, H', J.os, J.bare, J.base, J.hok, rv, q⟩
  cases fl with
  | ret u =>
    obtain ⟨v, σ', H', J, rv, q⟩ := hs
    exact fin J rv q
  | next =>
    obtain ⟨σ', H', J, q⟩ := hs
    exact fin (v := V.non) (u := Value.none) J rfl q
  | brk =>
    obtain ⟨_, _, _, q⟩ := hs
    exact False.elim q
  | cont =>
    obtain ⟨_, _, _, q⟩ := hs
    exact False.elim q
end L2

namespace L2
open PySem PySem.Spec PyProof.Rows
section
variable {X : Cx} {x : Str} {p pos : Pos} {e : Expr} {es : List Expr} {t : TA} {id T : String} {r : List V → Hp → VK → Prop}

def tCB (r : List V → Hp → VK → Prop) (t : TA) : TE := fun σ H Q => t σ H fun vs H1 => r vs H1 Q
/-- f(e, ..), f a built-in function -/
theorem pe_callB (hc : CallR X (.builtin id) r) (hg : Gl X x) (hm : X.mg x = none) (hv : bootBuiltins x = some (.builtin id)) (ha : PA X (e :: es) t) (hn : x ≠ "__name__" := by decide) (hdb : (x == ("__debug__" : Str)) = false := by decide)
    (he : starEach (e :: es) X.env = (false, eval e X.env) :: starEach es X.env := by rfl) (hpl : (backTo pos (starEach es X.env)).any (·.1) = false := by rfl) : PE X (.Call (.Name x p) (e :: es) [] pos) (tCB r t) := by
  intro pins s σ H Q I h
  refine wpAny_Call_Name_kw (ld_blt I hg hm hv ?_ hn hdb)
  exact PyProof.Rows.callWith_builtin1 (thn (ha pos pins s σ H _ I h) fun us s1 ⟨vs, H1, I1, r1, q1⟩ => hc pins s1 σ H1 vs us Q I1 r1 q1) he hpl
/-- T(e, ..), T a built-in type -/
theorem pe_callTy (hc : CallR X (.type T) r) (hg : Gl X x) (hm : X.mg x = none) (hv : bootBuiltins x = some (.type T)) (ha : PA X (e :: es) t) (hn : x ≠ "__name__" := by decide) (hdb : (x == ("__debug__" : Str)) = false := by decide)
    (he : starEach (e :: es) X.env = (false, eval e X.env) :: starEach es X.env := by rfl) (hpl : (backTo pos (starEach es X.env)).any (·.1) = false := by rfl) : PE X (.Call (.Name x p) (e :: es) [] pos) (tCB r t) := by
  intro pins s σ H Q I h
  refine wpAny_Call_Name_kw (ld_blt I hg hm hv ?_ hn hdb)
  exact PyProof.Rows.callWith_type1 (thn (ha pos pins s σ H _ I h) fun us s1 ⟨vs, H1, I1, r1, q1⟩ => hc pins s1 σ H1 vs us Q I1 r1 q1) he hpl
end
end L2

namespace HT
open PySem PyProof.Rows

section
open PySem.SeqAt
open PySem.AutoSeq1 (wpAny_loadPart')
open PySem.MeetsSeq PySem.MeetsSeq2 PySem.MeetsSeq3

end

section
variable {prog : Program} {w : World} {A : Around} {E : Value → Shared → Prop} {s : Shared}

/-! ### t[a:b], not the whole -/
end
end HT

namespace L2
open PySem PySem.Spec PyProof.Rows

/-! ### the parts of a slice -/
abbrev TO := St → Hp → (Option Int → Hp → Prop) → Prop
/-- a slice's part (left out, or an int) -/
def PO (X : Cx) (e : Option Expr) (t : TO) : Prop :=
  ∀ (pins : List (Addr × Obj)) (s : Shared) (σ : St) (H : Hp) (Q : Option Int → Hp → Prop), Inv X pins σ H s → t σ H Q →
    wpAny (model X.prog X.w) X.A (evalPart e X.env) (fun u s' => ∃ o H', Inv X pins σ H' s' ∧ IsPart u o ∧ Q o H') X.xe s
theorem intsAre_of {ns : List Int} : ∀ {us : List Value}, Vals (ns.map V.int) us → IntsAre us ns := by
  induction ns with
  | nil => intro us r; rw [List.map_nil] at r; cases r; exact .nil
  | cons n ns ih =>
    intro us r
    rw [List.map_cons] at r
    cases r with
    | cons r1 r2 =>
      obtain ⟨t, e⟩ := r1
      subst e
      exact .cons n t (ih r2)

section
variable {X : Cx} {e : Expr} {te : TE} {lo hi : Option Expr} {tl th : TO} {pos p2 : Pos}

/-- what a slice of a value is, by values: the slice object stands at sl -/
def SlR (X : Cx) (r : V → Option Int → Option Int → Hp → VK → Prop) : Prop :=
  ∀ (pins : List (Addr × Obj)) (s : Shared) (σ : St) (H : Hp) (x : V) (v vl vu : Value) (lo hi : Option Int) (sl : Addr) (Q : VK), Inv X pins σ H s → RelV x v → s.heap.IsSliceOf sl vl vu .none → IsPart vl lo → IsPart vu hi → r x lo hi H Q →
    ∃ T id, typeLookup (.type T) "__getitem__" = pure (some (.builtin id)) ∧ s.TypeIs v T ∧ wpAny (model X.prog X.w) X.A (getItem v (.ref sl)) (EP X pins σ Q) X.xe s
theorem SlR.or {r r' : V → Option Int → Option Int → Hp → VK → Prop} (h : SlR X r) (h' : SlR X r') : SlR X (fun x lo hi H Q => r x lo hi H Q ∨ r' x lo hi H Q) := by
  intro pins s σ H x v vl vu lo hi sl Q I rx hs pl pu q
  rcases q with q | q
  · exact h pins s σ H x v vl vu lo hi sl Q I rx hs pl pu q
  · exact h' pins s σ H x v vl vu lo hi sl Q I rx hs pl pu q
/-! ### t < u, t + u -/
end
end L2

namespace L2
open PySem PySem.Spec PyProof.Rows

/-! ### places -/
/-- the place that an index of any sign means -/
def ixN (n : Nat) (i : Int) : Option Nat := if 0 ≤ i then (if i < n then some i.toNat else none) else if -(n : Int) ≤ i then some (i + n).toNat else none
def atI {α : Type} (xs : List α) (i : Int) : Option α := (ixN xs.length i).bind fun j => xs[j]?
theorem ixN_seq {n : Nat} {i : Int} {j : Nat} (h : ixN n i = some j) : seqIndex? i n = some j ∧ j < n ∧ -(n : Int) ≤ i ∧ i < n := by
  unfold ixN at h
  by_cases h0 : 0 ≤ i
  · rw [if_pos h0] at h
    by_cases h1 : i < n
    · rw [if_pos h1] at h
      have e : i.toNat = j := Option.some.inj h
      exact ⟨by rw [seqIndex_of h0 h1, e], by omega, by omega, h1⟩
    · rw [if_neg h1] at h; cases h
  · rw [if_neg h0] at h
    by_cases h1 : -(n : Int) ≤ i
    · rw [if_pos h1] at h
      have e : (i + n).toNat = j := Option.some.inj h
      exact ⟨by rw [seqIndex_neg (by omega) h1, e], by omega, h1, by omega⟩
    · rw [if_neg h1] at h; cases h
theorem atI_get {α : Type} {xs : List α} {i : Int} {v : α} (h : atI xs i = some v) : ∃ j, seqIndex? i xs.length = some j ∧ xs[j]? = some v ∧ j < xs.length ∧ -(xs.length : Int) ≤ i ∧ i < xs.length := by
  unfold atI at h
  cases e : ixN xs.length i with
  | none => rw [e] at h; cases h
  | some j =>
    rw [e] at h
    obtain ⟨h1, h2, h3, h4⟩ := ixN_seq e
    exact ⟨j, h1, h, h2, h3, h4⟩
theorem atI_nat {α : Type} {xs : List α} {j : Nat} {v : α} (h : xs[j]? = some v) : atI xs (j : Int) = some v := by
  have hj : j < xs.length := (List.getElem?_eq_some_iff.mp h).1
  have e : ixN xs.length (j : Int) = some j := by
    unfold ixN
    rw [if_pos (by omega), if_pos (by omega)]; simp
  unfold atI; rw [e]; exact h
/-! ### what may be subscripted -/
/-- what stands as an index of a plain subscript -/
def PlainIx (b : Expr) : Prop := ∀ o i, subscripted b false o i = operate [o, i] (getItem o i)
/-- a subscript by values -/
def IxR (X : Cx) (r : R2) : Prop :=
  ∀ (value slice : Expr) (pins : List (Addr × Obj)) (s : Shared) (σ : St) (H : Hp) (x y : V) (v u : Value) (Q : VK), Inv X pins σ H s → RelV x v → RelV y u → r x y H Q →
    subscripted slice false v u = operate [v, u] (getItem v u) → wpAny (model X.prog X.w) X.A (subscriptTail value slice v u) (EP X pins σ Q) X.xe s
/-- a call of a builtin's method by values: the receiver, the arguments -/
def MtR (X : Cx) (id : String) (r : V → List V → Hp → VK → Prop) : Prop :=
  ∀ (pins : List (Addr × Obj)) (s : Shared) (σ : St) (H : Hp) (x : V) (xs : List V) (v : Value) (us : List Value) (Q : VK), Inv X pins σ H s → RelV x v → Vals xs us → r x xs H Q →
    wpAny (model X.prog X.w) X.A (call (.builtin id) (v :: us)) (EP X pins σ Q) X.xe s
section
variable {X : Cx} {a b : Expr} {ta tb : TE} {pos : Pos}
theorem IxR.or {r r' : R2} (h : IxR X r) (h' : IxR X r') : IxR X (fun x y H Q => r x y H Q ∨ r' x y H Q) := by
  intro value slice pins s σ H x y v u Q I rx ry q hs
  rcases q with q | q
  · exact h value slice pins s σ H x y v u Q I rx ry q hs
  · exact h' value slice pins s σ H x y v u Q I rx ry q hs
theorem MtR.or {id : String} {r r' : V → List V → Hp → VK → Prop} (h : MtR X id r) (h' : MtR X id r') : MtR X id (fun x xs H Q => r x xs H Q ∨ r' x xs H Q) := by
  intro pins s σ H x xs v us Q I rx rs q
  rcases q with q | q
  · exact h pins s σ H x xs v us Q I rx rs q
  · exact h' pins s σ H x xs v us Q I rx rs q
/-- a[b] -/
theorem pe_ix {r : R2} (hr : IxR X r) (ha : PE X a ta) (hb : PE X b tb) (hs : PlainIx b) : PE X (.Subscript a b pos) (tOp r ta tb) := by
  intro pins s σ H Q I h
  exact Subscript_ (binT ha hb I h fun v u s2 x y H2 I2 rx ry q => hr a b pins s2 σ H2 x y v u Q I2 rx ry q (hs _ _))

def rIxL (K : PySem.W.Frag) : R2 := fun x y H Q => ∃ p xs i v, x = .ref p ∧ y = .int i ∧ SqL K H p xs ∧ atI xs i = some v ∧ Q v H
def rIxT (K : PySem.W.Frag) : R2 := fun x y H Q => ∃ p xs i v, x = .ref p ∧ y = .int i ∧ SqT K H p xs ∧ atI xs i = some v ∧ Q v H
def rIxS : R2 := fun x y H Q => ∃ z i c, x = .str z ∧ y = .int i ∧ z.length ≤ sizeLine ∧ atI z.cps.toList i = some c ∧ Q (.str ⟨#[c]⟩) H
theorem ix_list : IxR X (rIxL X.K) := by
  intro value slice pins s σ H x y v u Q I rx ry h hs
  obtain ⟨p, xs, i, z, rfl, rfl, hq, he, q⟩ := h
  cases rx
  obtain ⟨t, rfl⟩ := ry
  obtain ⟨its, r, pl, hz⟩ := I.list hq
  obtain ⟨j, h1, h2, h3, h4, h5⟩ := atI_get he
  obtain ⟨w, ew, rw'⟩ := r.get h2
  have hl := r.length
  have hn := line63
  have fin : EP X pins σ Q w s := ⟨z, H, I, rw', q⟩
  by_cases h0 : 0 ≤ i
  · have hj : i.toNat = j := by
      rw [seqIndex_of h0 h5] at h1
      exact Option.some.inj h1
    exact item_listR pl.isList h0 (by omega) (by rw [hj]; simpa using ew) fin hs
  · have hj : (i + (its.toArray.size : Int)).toNat = j := by
      rw [seqIndex_neg (by omega) h4] at h1
      rw [List.size_toArray, ← hl]
      exact Option.some.inj h1
    exact subscriptTail_builtinR (x := w) pl.isList.typeIs slot_list_getitem.lookup
      (wpAny_getItem_list_neg (Q := fun r s' => r = w ∧ EP X pins σ Q r s') pl.isList (by omega) (by rw [List.size_toArray] <;> omega) (by omega) (by rw [hj]; simpa using ew) ⟨rfl, fin⟩) hs
theorem ix_tup : IxR X (rIxT X.K) := by
  intro value slice pins s σ H x y v u Q I rx ry h hs
  obtain ⟨p, xs, i, z, rfl, rfl, hq, he, q⟩ := h
  cases rx
  obtain ⟨t, rfl⟩ := ry
  obtain ⟨its, r, pl, hz⟩ := I.tuple hq
  obtain ⟨j, h1, h2, h3, h4, h5⟩ := atI_get he
  obtain ⟨w, ew, rw'⟩ := r.get h2
  have hl := r.length
  have hn := line63
  have fin : EP X pins σ Q w s := ⟨z, H, I, rw', q⟩
  exact subscriptTail_builtinR (x := w) pl.typeIs slot_tuple_getitem.lookup
    (getItem_tuple (j := j) (Q := fun r s' => r = w ∧ EP X pins σ Q r s') pl (by omega) (by omega) (by rw [List.size_toArray, ← hl]; exact h1) (by simpa using ew) ⟨rfl, fin⟩) hs
theorem ix_str : IxR X rIxS := by
  intro value slice pins s σ H x y v u Q I rx ry h hs
  obtain ⟨z, i, c, rfl, rfl, hz, he, q⟩ := h
  obtain ⟨t, rfl⟩ := rx
  obtain ⟨t', rfl⟩ := ry
  obtain ⟨j, h1, h2, h3, h4, h5⟩ := atI_get he
  have hl : z.cps.toList.length = z.length := by simp [Str.length]
  rw [hl] at h1 h4 h5
  have hn := line63
  exact tail_any (typeIs_str s z t) slot_str_getitem.lookup (getItem_str (c := c) (by
    have e1 : decide (i < -(2 ^ 63 : Int)) = false := decide_eq_false (by omega)
    have e2 : decide (i ≥ 2 ^ 63) = false := decide_eq_false (by omega)
    rw [e1, e2, Bool.or_false]) (by rw [h1]; simpa using h2) ⟨.str ⟨#[c]⟩, H, I.tok _, ⟨_, rfl⟩, q⟩) hs
/-- list, tuple or str -/
def rIx (K : PySem.W.Frag) : R2 := fun x y H Q => rIxL K x y H Q ∨ rIxT K x y H Q ∨ rIxS x y H Q
theorem ix_seq : IxR X (rIx X.K) := ix_list.or (ix_tup.or ix_str)

/-! ### xs[i] = v, any sign -/
/-- the list's object behind a store -/
theorem mapSeq_set (its : List Value) (n j : Nat) (u : Value) : Obj.mapSeq (·.setIfInBounds j u) { cls := .type "list", data := .seq its.toArray n } = { cls := .type "list", data := .seq (its.set j u).toArray n } := by
  simp [Obj.mapSeq]
theorem Inv.lst {pins : List (Addr × Obj)} {σ : St} {H : Hp} {s : Shared} {p : Addr} {xs : List V} (I : Inv X pins σ H s) (h : H p = some (.lst xs)) :
    ∃ (its : List Value) (n : Nat), Vals xs its ∧ s.heap.get? p = some { cls := .type "list", data := .seq its.toArray n } ∧ xs.length ≤ sizeLine := by
  obtain ⟨z, its, n, r, e⟩ := I.hok p _ h
  exact ⟨its, n, r, e, z⟩
/-- the list at p is written by an update of its object -/
theorem Inv.lstUpd {pins : List (Addr × Obj)} {σ : St} {H : Hp} {s : Shared} {p : Addr} {xs ys : List V} {its its' : List Value} {n n' : Nat} {f : Obj → Obj} (I : Inv X pins σ H s) (h : H p = some (.lst xs))
    (ho : s.heap.get? p = some { cls := .type "list", data := .seq its.toArray n }) (hf : f { cls := .type "list", data := .seq its.toArray n } = { cls := .type "list", data := .seq its'.toArray n' }) (r : Vals ys its') (hz : ys.length ≤ sizeLine) (t : Nat) :
    Inv X pins σ (upd H p (.lst ys)) { s with heap := s.heap.update p f, toks := t } := by
  have e : (s.heap.update p f).get? p = some { cls := .type "list", data := .seq its'.toArray n' } := by
    rw [Heap.get?_update_self f ho (by rw [hf] <;> rfl), hf]
  refine I.write (x := p) (e := p) (by rw [h]; trivial) (.inl rfl) (fun b u hb q => (Heap.get?_update_other _ _ (Ne.symm hb)).trans q) ⟨_, e⟩ ?_
  exact ⟨hz, its', n', r, e⟩
def rSetL : V → V → V → Hp → (Hp → Prop) → Prop := fun o i v H Q => ∃ p xs k j, o = .ref p ∧ i = .int k ∧ H p = some (.lst xs) ∧ ixN xs.length k = some j ∧ Q (upd H p (.lst (xs.set j v)))
theorem set_list : PSet X rSetL := by
  intro pins s σ H o i v ov iv u Q I ro ri rv h
  obtain ⟨p, xs, k, j, rfl, rfl, hp, hj, q⟩ := h
  cases ro
  obtain ⟨t, rfl⟩ := ri
  obtain ⟨its, n, r, ho, hz⟩ := I.lst hp
  obtain ⟨h1, h2, h3, h4⟩ := ixN_seq hj
  have hl := r.length
  have hn := line63
  have I' : Inv X pins σ (upd H p (.lst (xs.set j v))) { s with heap := s.heap.update p (Obj.mapSeq (·.setIfInBounds j u)) } :=
    I.lstUpd hp ho (mapSeq_set its n j u) (r.set rv j) (by rw [List.length_set]; exact hz) s.toks
  by_cases h0 : 0 ≤ k
  · have hk : k.toNat = j := by
      rw [seqIndex_of h0 h4] at h1
      exact Option.some.inj h1
    exact PySem.W.ki_setAt ho h0 (by omega) (by rw [List.size_toArray, ← hl]; exact h4) (by rw [hk]; exact ⟨_, I', q⟩)
  · have hk : (k + (its.toArray.size : Int)).toNat = j := by
      rw [seqIndex_neg (by omega) h3] at h1
      rw [List.size_toArray, ← hl]
      exact Option.some.inj h1
    exact PySem.W.ki_setBack ho (by omega) (by rw [List.size_toArray, ← hl]; exact h3) (by omega) (by rw [hk]; exact ⟨_, I', q⟩)

/-! ### slices -/
/-! ### in, not in: flat items -/
def flatV : V → Bool
  | .non => true
  | .bl _ => true
  | .int _ => true
  | .str _ => true
  | _ => false
/-- == of flat values -/
def eqV : V → V → Bool
  | .non, .non => true
  | .bl a, .bl b => a == b
  | .bl a, .int b => (if a then 1 else 0) == b
  | .int a, .bl b => a == (if b then 1 else 0)
  | .int a, .int b => a == b
  | .str a, .str b => a == b
  | _, _ => false
theorem eqAt_V {A : Around} {s : Shared} {y x : V} {u v : Value} (ry : RelV y u) (rx : RelV x v) (fy : flatV y = true) (fx : flatV x = true) : SeqAt.EqAt A s u v (eqV y x) := by
  cases y with
  | non =>
    cases ry
    cases x with
    | non => cases rx; exact SeqAt.EqAt.same _
    | bl b => cases rx; exact SeqAt.EqAt.none_bool b
    | int b => obtain ⟨t, rfl⟩ := rx; exact SeqAt.EqAt.none_int b t
    | str b => obtain ⟨t, rfl⟩ := rx; exact SeqAt.EqAt.none_str b t
    | _ => exact absurd (show false = true from fx) Bool.false_ne_true
  | bl a =>
    cases ry
    cases x with
    | non => cases rx; exact SeqAt.EqAt.bool_none a
    | bl b => cases rx; exact SeqAt.EqAt.bool_bool a b
    | int b => obtain ⟨t, rfl⟩ := rx; exact SeqAt.EqAt.bool_int a b t
    | str b => obtain ⟨t, rfl⟩ := rx; exact SeqAt.EqAt.bool_str a b t
    | _ => exact absurd (show false = true from fx) Bool.false_ne_true
  | int a =>
    obtain ⟨t', rfl⟩ := ry
    cases x with
    | non => cases rx; exact SeqAt.EqAt.int_none a t'
    | bl b => cases rx; exact SeqAt.EqAt.int_bool a t' b
    | int b => obtain ⟨t, rfl⟩ := rx; exact SeqAt.EqAt.int_int a t' b t
    | str b => obtain ⟨t, rfl⟩ := rx; exact SeqAt.EqAt.int_str a t' b t
    | _ => exact absurd (show false = true from fx) Bool.false_ne_true
  | str a =>
    obtain ⟨t', rfl⟩ := ry
    cases x with
    | non => cases rx; exact SeqAt.EqAt.str_none a t'
    | bl b => cases rx; exact SeqAt.EqAt.str_bool a t' b
    | int b => obtain ⟨t, rfl⟩ := rx; exact SeqAt.EqAt.str_int a t' b t
    | str b => obtain ⟨t, rfl⟩ := rx; exact SeqAt.EqAt.str_str a t' b t
    | _ => exact absurd (show false = true from fx) Bool.false_ne_true
  | _ => exact absurd (show false = true from fy) Bool.false_ne_true
/-! ### len, list(x), tuple(x) of any list or tuple that is read -/
theorem call_len_seq : CallR X (.builtin "len") (fun xs H Q => ∃ p ys, xs = [.ref p] ∧ (SqL X.K H p ys ∨ SqT X.K H p ys) ∧ Q (.int ys.length) H) := by
  intro pins s σ H xs us Q I r h
  obtain ⟨p, ys, rfl, hq, q⟩ := h
  obtain ⟨u, rfl, rx⟩ := vals1 r
  cases rx
  have hn := line63
  rcases hq with hq | hq
  · obtain ⟨its, r', pl, hz⟩ := I.list hq
    have hlen := r'.length
    exact Calls.call_len_list pl.isList (by simp only [List.size_toArray] <;> omega) ⟨.int ys.length, H, I.tok _, ⟨s.toks + 1, by rw [List.size_toArray, hlen]⟩, q⟩
  · obtain ⟨its, r', pl, hz⟩ := I.tuple hq
    have hlen := r'.length
    exact len_tuple pl (by simp only [List.size_toArray] <;> omega) ⟨.int ys.length, H, I.tok _, ⟨s.toks + 1, by rw [List.size_toArray, hlen]⟩, q⟩
theorem call_len_str : CallR X (.builtin "len") (fun xs H Q => ∃ z, xs = [.str z] ∧ z.length ≤ sizeLine ∧ Q (.int z.length) H) := by
  intro pins s σ H xs us Q I r h
  obtain ⟨z, rfl, hz, q⟩ := h
  obtain ⟨u, rfl, t, rfl⟩ := vals1 r
  have hn := line63
  exact len_str (by omega) ⟨.int z.length, H, I.tok _, ⟨_, rfl⟩, q⟩
theorem CallR.or {f : Value} {r r' : List V → Hp → VK → Prop} (h : CallR X f r) (h' : CallR X f r') : CallR X f (fun xs H Q => r xs H Q ∨ r' xs H Q) := by
  intro pins s σ H xs us Q I rs q
  rcases q with q | q
  · exact h pins s σ H xs us Q I rs q
  · exact h' pins s σ H xs us Q I rs q
theorem call_list_of : CallR X (.type "list") (fun xs H Q => ∃ p ys, xs = [.ref p] ∧ (SqL X.K H p ys ∨ SqT X.K H p ys) ∧ ∀ l, H l = none → Q (.ref l) (upd H l (.lst ys))) := by
  intro pins s σ H xs us Q I r h
  obtain ⟨p, ys, rfl, hq, q⟩ := h
  obtain ⟨u, rfl, rx⟩ := vals1 r
  cases rx
  have fin : ∀ (its : List Value), Vals ys its → ys.length ≤ sizeLine → ∀ (h' : Heap) (c' : Nat), (∀ b o', s.heap.get? b = some o' → h'.get? b = some o') →
      h'.get? s.heap.objs.size = some { cls := .type "list", dict := none, data := .seq its.toArray c', slots := #[] } → EP X pins σ Q (.ref s.heap.objs.size) { s with heap := h' } := fun its r' hz h' c' kp e =>
    ⟨.ref s.heap.objs.size, _, I.laid (t' := s.toks) kp (Nat.le_refl _) (show ObjOk X.prog X.w _ h' _ (.lst ys) from ⟨hz, its, c', r', e⟩), rfl, q _ (I.hok.fresh (Nat.le_refl _))⟩
  rcases hq with hq | hq
  · obtain ⟨its, r', pl, hz⟩ := I.list hq
    have hlen := r'.length
    obtain ⟨o, ho, hc, n, hd⟩ := pl.isList
    exact call_list_seq p (.inl rfl) ho hc hd (fun h' c' kp e => fin its r' hz h' c' kp e) (by simp only [List.size_toArray] <;> omega)
  · obtain ⟨its, r', pl, hz⟩ := I.tuple hq
    have hlen := r'.length
    obtain ⟨o, ho, hc, n, hd⟩ := pl
    exact call_list_seq p (.inr rfl) ho hc hd (fun h' c' kp e => fin its r' hz h' c' kp e) (by simp only [List.size_toArray] <;> omega)
theorem call_tuple_of : CallR X (.type "tuple") (fun xs H Q => ∃ p ys, xs = [.ref p] ∧ ((SqL X.K H p ys ∧ ∀ l, H l = none → Q (.ref l) (upd H l (.tup ys))) ∨ (SqT X.K H p ys ∧ Q (.ref p) H))) := by
  intro pins s σ H xs us Q I r h
  obtain ⟨p, ys, rfl, h⟩ := h
  obtain ⟨u, rfl, rx⟩ := vals1 r
  cases rx
  rcases h with ⟨hq, q⟩ | ⟨hq, q⟩
  · obtain ⟨its, r', pl, hz⟩ := I.list hq
    have hlen := r'.length
    refine call_tuple_list pl.isList (fun h' kp => ?_) (by simp only [List.size_toArray] <;> omega)
    have I1 : Inv X pins σ H { s with heap := h' } := I.kept (t' := s.toks) kp
    have I2 : Inv X pins σ (upd H h'.objs.size (.tup ys)) { s with heap := h'.push { cls := .type "tuple", data := .seq its.toArray } } :=
      I1.laid (t' := s.toks) (fun b o e => Heap.get?_push_of_some _ e) (Nat.le_refl _) (show ObjOk X.prog X.w _ _ _ (.tup ys) from ⟨hz, its, r', IsTup.new _ _⟩)
    exact ⟨.ref h'.objs.size, _, I2, rfl, q _ (I1.hok.fresh (Nat.le_refl _))⟩
  · obtain ⟨its, r', pl, hz⟩ := I.tuple hq
    exact call_tuple_same pl ⟨.ref p, H, I, rfl, q⟩

/-! ### the call of a builtin's method: o.m(..) -/
/-- the value is of that builtin type -/
def tyV (K : PySem.W.Frag) (T : String) (x : V) (H : Hp) : Prop := match x with
  | .str _ => T = "str"
  | .int _ => T = "int"
  | .ref p => (T = "list" ∧ ∃ xs, SqL K H p xs) ∨ (T = "tuple" ∧ ∃ o, K.lookup p = some o ∧ o.cls = .type "tuple" ∧ o.dict = none) ∨
      (T = "dict" ∧ ((∃ kvs, H p = some (.dK kvs)) ∨ ∃ kvs, H p = some (.dT kvs))) ∨ (T = "set" ∧ ∃ S n, H p = some (.set S n))
  | _ => False
theorem tyV_is {pins : List (Addr × Obj)} {σ : St} {H : Hp} {s : Shared} {T : String} {x : V} {v : Value} (I : Inv X pins σ H s) (r : RelV x v) (ty : tyV X.K T x H) :
    s.TypeIs v T ∧ ∀ a, v = .ref a → ∃ ob, s.heap.get? a = some ob ∧ ob.dict = none := by
  cases x with
  | str z =>
    obtain ⟨t, rfl⟩ := r
    cases (show T = "str" from ty)
    exact ⟨typeIs_str s z t, fun _ e => nomatch e⟩
  | int i =>
    obtain ⟨t, rfl⟩ := r
    cases (show T = "int" from ty)
    exact ⟨typeIs_int s i t, fun _ e => nomatch e⟩
  | ref p =>
    cases r
    rcases ty with ⟨rfl, xs, hq⟩ | ⟨rfl, o, hk, hc, hd⟩ | ⟨rfl, hk⟩ | ⟨rfl, S, n, hk⟩
    · obtain ⟨its, _, pl, _⟩ := I.list hq
      refine ⟨pl.isList.typeIs, fun a e => ?_⟩
      cases e
      obtain ⟨o, n, e, c, hd, _⟩ := pl
      exact ⟨o, e, hd⟩
    · refine ⟨⟨o, I.kIn p o hk, hc⟩, fun a e => ?_⟩
      cases e
      exact ⟨o, I.kIn _ o hk, hd⟩
    · have z : ∃ o, s.heap.get? p = some o ∧ o.ExactDict := by
        rcases hk with ⟨kvs, hk⟩ | ⟨kvs, hk⟩
        · obtain ⟨_, _, _, _, o, _, _, e, ex, _⟩ := I.hok p _ hk
          exact ⟨o, e, ex⟩
        · obtain ⟨_, _, _, _, o, _, _, e, ex, _⟩ := I.hok p _ hk
          exact ⟨o, e, ex⟩
      obtain ⟨o, e, ex⟩ := z
      refine ⟨⟨o, e, ex.1⟩, fun a e2 => ?_⟩
      cases e2
      exact ⟨o, e, ex.2.1⟩
    · obtain ⟨o, _, _, _, e, ex, _⟩ := I.hok p _ hk
      refine ⟨⟨o, e, ex.1⟩, fun a e2 => ?_⟩
      cases e2
      exact ⟨o, e, ex.2.1⟩
  | _ => exact False.elim ty
def tBM (K : PySem.W.Frag) (T : String) (r : V → List V → Hp → VK → Prop) (to : TE) (t : TA) : TE := fun σ H Q => to σ H fun x H1 => tyV K T x H1 ∧ t σ H1 fun xs H2 => r x xs H2 Q
variable {o e : Expr} {es : List Expr} {to : TE} {t : TA} {name : Str} {apos cpos : Pos} {T id : String} {r : V → List V → Hp → VK → Prop}
theorem pe_bm (pa : PlainAttrs T) (slot : Slot T name id) (hty : typeOf (.builtin id) = pure (.type "method_descriptor")) (hm : MtR X id r) (ho : PE X o to) (ha : PA X (e :: es) t)
    (hbase : attributeBase o name X.env (eval o X.env) = eval o X.env := by rfl)
    (hfew : ((backTo cpos (starEach (e :: es) X.env)).all (fun x => !x.1) && (backToKw cpos (keywordEach [] X.env)).all (fun x => x.1.isSome)
      && decide ((e :: es).length + ([] : List Keyword).length + (if ([] : List Keyword).isEmpty then 0 else 1) < 30)) = true := by rfl)
    (hline : (apos.endLine == cpos.line) = true := by rfl) (hs : starEach (e :: es) X.env = (false, eval e X.env) :: starEach es X.env := by rfl) (hplain : (backTo cpos (starEach es X.env)).any (·.1) = false := by rfl) :
    PE X (.Call (.Attribute o name apos) (e :: es) [] cpos) (tBM X.K T r to t) := by
  intro pins s σ H Q I h
  refine wpAny_Call_method_late hbase hfew hline rfl (thn (ho pins s σ H _ I h) fun v s1 ⟨x, H1, I1, r1, ty, q1⟩ => ?_)
  obtain ⟨h1, h2⟩ := tyV_is I1 r1 ty
  refine ⟨T, id, pa, slot, hty, h1, h2, ?_⟩
  have hA := ha cpos pins s1 σ H1 _ I1 q1
  rw [hs] at hA ⊢
  refine Calls.callWith_builtin (by show (false || (backTo cpos (starEach es X.env)).any (·.1)) = false; rw [hplain] <;> rfl) (Calls.evalArgs_plain ?_)
  exact thn hA fun us s2 ⟨vs, H2, I2, r2, q2⟩ => hm pins s2 σ H2 x vs v us Q I2 r1 r2 q2
/- xs.append(e), list.index on a module's tuple .. are MtR facts of 06m -/
end
end L2

namespace L2
open PySem PySem.Spec PyProof.Rows

def MtM (X : Cx) (id : String) (r : V → List V → Hp → VK → Prop) : Prop :=
  ∀ (pins : List (Addr × Obj)) (s : Shared) (σ : St) (H : Hp) (x : V) (xs : List V) (v : Value) (us : List Value) (Q : VK), Inv X pins σ H s → RelV x v → Vals xs us → r x xs H Q →
    wpAny (model X.prog X.w) X.A (call (.builtin id) (v :: us)) (EP X pins σ Q) X.xe s

/-! ### lists of values -/
theorem Vals.one : ∀ {x : V} {us : List Value}, Vals [x] us → ∃ u, us = [u] ∧ RelV x u
  | _, _, .cons r .nil => ⟨_, rfl, r⟩
theorem Vals.two : ∀ {x y : V} {us : List Value}, Vals [x, y] us → ∃ u v, us = [u, v] ∧ RelV x u ∧ RelV y v
  | _, _, _, .cons r (.cons q .nil) => ⟨_, _, rfl, r, q⟩
theorem Vals.zero : ∀ {us : List Value}, Vals [] us → us = []
  | _, .nil => rfl
section
variable {X : Cx} {pins : List (Addr × Obj)} {σ : St} {H : Hp} {s : Shared} {l b : Addr} {xs ys zs : List V}

/-! ### the two steps: a tracked list is rewritten, a new list is laid -/
theorem Inv.lset {its its' : List Value} {n : Nat} {f : Array Value → Array Value} {t' : Nat} (I : Inv X pins σ H s) (hH : H l = some (.lst xs))
    (e : s.heap.get? l = some { cls := .type "list", data := .seq its.toArray n }) (hf : f its.toArray = its'.toArray) (hv : Vals ys its') (hz : ys.length ≤ sizeLine) :
    Inv X pins σ (upd H l (.lst ys)) { s with heap := s.heap.update l (Obj.mapSeq f), toks := t' } := by
  have q := PySem.IsL.update e f
  rw [hf] at q
  refine I.write (x := l) (e := l) (by rw [hH]; exact trivial) (.inl rfl) (fun b' u hb hu => (Heap.get?_update_other s.heap (Obj.mapSeq f) (Ne.symm hb)).trans hu) ⟨_, q⟩ ?_
  exact ⟨hz, its', _, hv, q⟩
theorem Inv.lnew {its : List Value} {t' : Nat} (I : Inv X pins σ H s) (hv : Vals ys its) (hz : ys.length ≤ sizeLine) :
    Inv X pins σ (upd H s.heap.objs.size (.lst ys)) { s with heap := s.heap.push { cls := .type "list", data := .seq its.toArray }, toks := t' } :=
  I.laid (fun _ _ q => Heap.get?_push_of_some _ q) (Nat.le_refl _) ⟨hz, its, 0, hv, Heap.get?_push_size _ rfl⟩
theorem Inv.fresh (I : Inv X pins σ H s) : H s.heap.objs.size = none := I.hok.fresh (Nat.le_refl _)
theorem Inv.lstM (I : Inv X pins σ H s) (hH : H l = some (.lst xs)) : xs.length ≤ sizeLine ∧ ∃ (its : List Value) (n : Nat), Vals xs its ∧ xs.length = its.length ∧ s.heap.get? l = some { cls := .type "list", data := .seq its.toArray n } := by
  obtain ⟨z, its, n, r, e⟩ := I.hok l _ hH
  exact ⟨z, its, n, r, r.length, e⟩

end

section
variable {X : Cx}

/-! ### methods -/
def rAppend : V → List V → Hp → VK → Prop := fun x vs H Q => ∃ l xs y, x = .ref l ∧ vs = [y] ∧ H l = some (.lst xs) ∧ xs.length < sizeLine ∧ Q .non (upd H l (.lst (xs ++ [y])))
theorem mt_append : MtM X "list.append" rAppend := by
  intro pins s σ H x vs v us Q I rx rv h
  obtain ⟨l, xs, y, rfl, rfl, hH, hz, q⟩ := h
  cases rx
  obtain ⟨u, rfl, ru⟩ := rv.one
  obtain ⟨z, its, n, r, hl, e⟩ := I.lstM hH
  refine call_meets F.slot_list_append ⟨_, e, rfl⟩ F.entry_list_append (F.args_list_append_2 _ _) (PySem.list_append l its.toArray n u (by rw [List.size_toArray]; omega)) ⟨e, ?_⟩
  refine ⟨.non, _, I.lset (its' := its ++ [u]) hH e (by simp) (r.append (.cons ru .nil)) ?_, rfl, q⟩
  rw [List.length_append, List.length_singleton]
  omega

/-! ### list + list, list += list, list * int -/
def rCat : R2 := fun x y H Q => ∃ l b xs zs, x = .ref l ∧ y = .ref b ∧ H l = some (.lst xs) ∧ H b = some (.lst zs) ∧ xs.length + zs.length ≤ sizeLine ∧ ∀ p, H p = none → Q (.ref p) (upd H p (.lst (xs ++ zs)))
theorem op_cat : OpR X (binaryOp .Add) rCat := by
  intro pins s σ H x y v u Q I rx ry h
  obtain ⟨l, b, xs, zs, rfl, rfl, hH, hB, hz, q⟩ := h
  cases rx
  cases ry
  obtain ⟨z, its, n, r, hl, e⟩ := I.lstM hH
  obtain ⟨z2, its2, n2, r2, hl2, e2⟩ := I.lstM hB
  refine PySem.P.add_list e e2 ?_ (by rw [List.size_toArray, List.size_toArray]; omega)
  have ea : its.toArray ++ its2.toArray = (its ++ its2).toArray := by simp
  rw [ea]
  exact ⟨.ref _, _, I.lnew (t' := s.toks) (r.append r2) (by rw [List.length_append]; omega), rfl, q _ I.fresh⟩
/-! ### del xs[i] -/
end

/-! ### xs[a:b] = ys -/
section
variable {prog : Program} {w : World} {A : Around} {E : Value → Shared → Prop} {s : Shared}
end

section
variable {X : Cx}
end
end L2

namespace L2
open PySem PySem.Spec PyProof.Rows

/-! ### lists of pairs as tables -/
section
variable {κ : Type} [DecidableEq κ]
def valV (kvs : List (κ × V)) (k : κ) : Option V := (kvs.find? fun kv => decide (kv.1 = k)).map (·.2)
/-- in its place, or at the end -/
def putK (kvs : List (κ × V)) (k : κ) (v : V) : List (κ × V) :=
  if (kvs.any fun kv => decide (kv.1 = k)) = true then kvs.map (fun kv => if kv.1 = k then (kv.1, v) else kv) else kvs ++ [(k, v)]
def dropK (kvs : List (κ × V)) (k : κ) : List (κ × V) := kvs.filter fun kv => decide (kv.1 ≠ k)

theorem valV_pos {p : κ × V} {r : List (κ × V)} {k : κ} (e : p.1 = k) : valV (p :: r) k = some p.2 := by simp [valV, List.find?_cons, e]
theorem valV_neg {p : κ × V} {r : List (κ × V)} {k : κ} (e : ¬ p.1 = k) : valV (p :: r) k = valV r k := by simp [valV, List.find?_cons, e]
theorem valV_any (k : κ) : ∀ kvs : List (κ × V), (kvs.any fun kv => decide (kv.1 = k)) = (valV kvs k).isSome
  | [] => rfl
  | p :: r => by
    rw [List.any_cons]
    by_cases e : p.1 = k
    · simp only [valV_pos e, decide_eq_true e, Bool.true_or, Option.isSome_some]
    · rw [valV_neg e, decide_eq_false e, Bool.false_or]; exact valV_any k r
theorem length_putK (kvs : List (κ × V)) (k : κ) (v : V) : (putK kvs k v).length ≤ kvs.length + 1 := by
  unfold putK
  split
  · rw [List.length_map]; omega
  · rw [List.length_append, List.length_cons, List.length_nil]; omega
theorem RelO.isSome_eq {o : Option V} {u : Option Value} (r : RelO o u) : o.isSome = u.isSome := by
  cases o with
  | none => cases u with
    | none => rfl
    | some _ => exact (show False from r).elim
  | some _ => cases u with
    | none => exact (show False from r).elim
    | some _ => rfl
theorem RelO.getD {o : Option V} {u : Option Value} {d : V} {d' : Value} (r : RelO o u) (rd : RelV d d') : RelV (o.getD d) (u.getD d') := by
  cases o with
  | none => cases u with
    | none => exact rd
    | some _ => exact (show False from r).elim
  | some _ => cases u with
    | none => exact (show False from r).elim
    | some _ => exact r

/-- raw tables of the same keys -/
theorem KV.val {kvs : List (κ × V)} {vs : List (κ × Value)} (r : KV kvs vs) (k : κ) : RelO (valV kvs k) (valueAt vs k) := by
  unfold KV at r
  induction r with
  | nil => exact True.intro
  | @cons p q ps qs h t ih =>
    obtain ⟨h1, h2⟩ := h
    by_cases e : p.1 = k
    · have e' : q.1 = k := h1.symm.trans e
      have b : valueAt (q :: qs) k = some q.2 := by simp [valueAt, List.find?_cons, e']
      rw [valV_pos e, b]; exact h2
    · have e' : ¬ q.1 = k := fun z => e (h1.trans z)
      have b : valueAt (q :: qs) k = valueAt qs k := by simp [valueAt, List.find?_cons, e']
      rw [valV_neg e, b]; exact ih
theorem KV.any {kvs : List (κ × V)} {vs : List (κ × Value)} (r : KV kvs vs) (k : κ) : (kvs.any fun kv => decide (kv.1 = k)) = vs.any fun kv => decide (kv.1 = k) := by
  unfold KV at r
  induction r with
  | nil => rfl
  | cons h t ih => rw [List.any_cons, List.any_cons, ih, h.1]
theorem KV.repl {kvs : List (κ × V)} {vs : List (κ × Value)} (r : KV kvs vs) (k : κ) {y : V} {u : Value} (ry : RelV y u) :
    KV (kvs.map fun kv => if kv.1 = k then (kv.1, y) else kv) (vs.map fun kv => if kv.1 = k then (kv.1, u) else kv) := by
  unfold KV at r ⊢
  induction r with
  | nil => exact .nil
  | @cons p q ps qs h t ih =>
    rw [List.map_cons, List.map_cons]
    refine .cons ?_ ih
    obtain ⟨h1, h2⟩ := h
    by_cases e : p.1 = k
    · rw [if_pos e, if_pos (h1.symm.trans e)]; exact ⟨h1, ry⟩
    · rw [if_neg e, if_neg (fun z => e (h1.trans z))]; exact ⟨h1, h2⟩
theorem KV.put {kvs : List (κ × V)} {vs : List (κ × Value)} (r : KV kvs vs) (k : κ) {y : V} {u : Value} (ry : RelV y u) : KV (putK kvs k y) (stored vs k u) := by
  unfold putK stored
  rw [r.any k]
  by_cases e : (vs.any fun kv => decide (kv.1 = k)) = true
  · rw [if_pos e, if_pos e]; exact r.repl k ry
  · rw [if_neg e, if_neg e]; exact Paired.snoc r ⟨rfl, ry⟩
theorem KV.drop {kvs : List (κ × V)} {vs : List (κ × Value)} (r : KV kvs vs) (k : κ) : KV (dropK kvs k) (without vs k) := by
  unfold KV at r ⊢
  unfold dropK without
  induction r with
  | nil => exact .nil
  | @cons p q ps qs h t ih =>
    obtain ⟨h1, h2⟩ := h
    rw [List.filter_cons, List.filter_cons]
    by_cases e : p.1 = k
    · have a : ¬ decide (p.1 ≠ k) = true := by simp [e]
      have b : ¬ decide (q.1 ≠ k) = true := by simp [h1.symm.trans e]
      rw [if_neg a, if_neg b]; exact ih
    · have e' : ¬ q.1 = k := fun z => e (h1.trans z)
      have a : decide (p.1 ≠ k) = true := by simp [e]
      have b : decide (q.1 ≠ k) = true := by simp [e']
      rw [if_pos a, if_pos b]; exact .cons ⟨h1, h2⟩ ih
theorem KV.keys {kvs : List (κ × V)} {vs : List (κ × Value)} (r : KV kvs vs) : kvs.map (·.1) = vs.map (·.1) := by
  unfold KV at r
  induction r with
  | nil => rfl
  | cons h t ih => rw [List.map_cons, List.map_cons, ih, h.1]
theorem KV.length {kvs : List (κ × V)} {vs : List (κ × Value)} (r : KV kvs vs) : kvs.length = vs.length := Paired.length r
end


/-! ### a tracked dict, its keys ints and texts or tuples of these -/
theorem kV_is {P : Program} {w : World} {k : Key} {u : Value} (r : RelV (kV k) u) : (mixKind P w).is k u = true := by
  cases k with
  | inl i => obtain ⟨t, e⟩ := (show ∃ t, u = Value.int i t from r); subst e; exact mixKind_int P w i t
  | inr x => obtain ⟨t, e⟩ := (show ∃ t, u = Value.str x t from r); subst e; exact mixKind_str P w x t
theorem items_are {P : Program} {w : World} : ∀ {ks : List Key} {us : List Value}, Vals (ks.map kV) us → ItemsAre (mixKind P w) ks us
  | [], _, r => by rw [List.map_nil] at r; cases r; exact .nil
  | k :: ks, _, r => by
    rw [List.map_cons] at r
    cases r with
    | cons h t => exact .cons (kV_is h) (items_are t)

/-- raw entries of a dict with tuple keys -/
abbrev KT (H : Hp) : List (List Key × V) → List (List Key × Addr × Value) → Prop := Paired fun p q => p.1 = q.1 ∧ H q.2.1 = some (.tup (p.1.map kV)) ∧ RelV p.2 q.2.2
theorem KT.val {H : Hp} {kvs : List (List Key × V)} {xs : List (List Key × Addr × Value)} (r : KT H kvs xs) (k : List Key) : RelO (valV kvs k) ((atKey xs k).map (·.2)) := by
  induction r with
  | nil => exact True.intro
  | @cons p q ps qs h t ih =>
    obtain ⟨h1, _, h2⟩ := h
    by_cases e : p.1 = k
    · have e' : q.1 = k := h1.symm.trans e
      have b : atKey (q :: qs) k = some q.2 := by simp [atKey, List.find?_cons, e']
      rw [valV_pos e, b]; exact h2
    · have e' : ¬ q.1 = k := fun z => e (h1.trans z)
      have b : atKey (q :: qs) k = atKey qs k := by simp [atKey, List.find?_cons, e']
      rw [valV_neg e, b]; exact ih
theorem KT.repl {H : Hp} {kvs : List (List Key × V)} {xs : List (List Key × Addr × Value)} (r : KT H kvs xs) (k : List Key) {y : V} {u : Value} (ry : RelV y u) :
    KT H (kvs.map fun kv => if kv.1 = k then (kv.1, y) else kv) (xs.map (putAt k u)) := by
  induction r with
  | nil => exact .nil
  | @cons p q ps qs h t ih =>
    rw [List.map_cons, List.map_cons]
    refine .cons ?_ ih
    obtain ⟨h1, h2, h3⟩ := h
    unfold putAt
    by_cases e : p.1 = k
    · rw [if_pos e, if_pos (h1.symm.trans e)]; exact ⟨h1, h2, ry⟩
    · rw [if_neg e, if_neg (fun z => e (h1.trans z))]; exact ⟨h1, h2, h3⟩
theorem KT.put {H : Hp} {kvs : List (List Key × V)} {xs : List (List Key × Addr × Value)} (r : KT H kvs xs) (k : List Key) {b : Addr} {y : V} {u : Value} (hb : H b = some (.tup (k.map kV))) (ry : RelV y u) :
    KT H (putK kvs k y) (storedH xs k b u) := by
  have e : (kvs.any fun kv => decide (kv.1 = k)) = (atKey xs k).isSome := by
    rw [valV_any, (r.val k).isSome_eq, Option.isSome_map]
  unfold putK storedH
  rw [e]
  by_cases q : (atKey xs k).isSome = true
  · rw [if_pos q, if_pos q]; exact r.repl k ry
  · rw [if_neg q, if_neg q]; exact Paired.snoc r ⟨rfl, hb, ry⟩
theorem KT.keeps {H H' : Hp} {kvs : List (List Key × V)} {xs : List (List Key × Addr × Value)} (r : KT H kvs xs) (ht : ∀ b ys, H b = some (.tup ys) → H' b = some (.tup ys)) : KT H' kvs xs :=
  Paired.mapP r fun _ _ z => ⟨z.1, ht _ _ z.2.1, z.2.2⟩

section
variable {P : Program} {w : World} {H : Hp} {h : Heap} {a : Addr}
theorem rd_of {u : HO} (ok : HOk P w H h) (e : Rd H a u) : ObjOk P w H h a u := e.ok ok
theorem dk_rd {kvs : List (Key × V)} (ok : HOk P w H h) (e : Rd H a (.dK kvs)) : kvs.length ≤ sizeLine ∧ (a == sysModules) = false ∧ ∃ vs, KV kvs vs ∧ h.DictOf (mixKind P w) a vs :=
  show ObjOk P w H h a (.dK kvs) from rd_of ok e
theorem dk_of {kvs : List (Key × V)} (ok : HOk P w H h) (e : H a = some (.dK kvs)) : kvs.length ≤ sizeLine ∧ (a == sysModules) = false ∧ ∃ vs, KV kvs vs ∧ h.DictOf (mixKind P w) a vs := dk_rd ok (.inl e)
/-- a tracked tuple of ints and texts is a key -/
theorem key_of {ks : List Key} (ok : HOk P w H h) (e : H a = some (.tup (ks.map kV))) : (tupleKind (mixKind P w)).is h ks a := by
  obtain ⟨_, its, r, o, h1, h2, n, h3⟩ := (show ObjOk P w H h a (.tup (ks.map kV)) from ok a _ e)
  exact ⟨o, its.toArray, n, h1, h2, h3, by simpa using items_are r⟩
theorem dt_rd {kvs : List (List Key × V)} (ok : HOk P w H h) (e : Rd H a (.dT kvs)) : kvs.length ≤ sizeLine ∧ (a == sysModules) = false ∧
    ∃ xs, KT H kvs xs ∧ h.DictOfH (tupleKind (mixKind P w)) a xs := by
  obtain ⟨z, y, xs, r, o, es, ep, h1, h2, h3, h4, h5⟩ := (show ObjOk P w H h a (.dT kvs) from rd_of ok e)
  refine ⟨z, y, xs, r, o, es, ep, h1, h2, h3, h4, fun x hx => ?_, h5⟩
  have all : ∀ {l : List (List Key × V)} {m : List (List Key × Addr × Value)}, KT H l m → ∀ x ∈ m, (tupleKind (mixKind P w)).is h x.1 x.2.1 := by
    intro l m q
    induction q with
    | nil => intro x hx; exact nomatch hx
    | @cons p q ps qs hq t ih =>
      intro x hx
      rcases List.mem_cons.mp hx with e | hx
      · subst e
        exact key_of ok (by rw [← hq.1]; exact hq.2.1)
      · exact ih x hx
  exact all r x hx
theorem dt_of {kvs : List (List Key × V)} (ok : HOk P w H h) (e : H a = some (.dT kvs)) : kvs.length ≤ sizeLine ∧ (a == sysModules) = false ∧
    ∃ xs, KT H kvs xs ∧ h.DictOfH (tupleKind (mixKind P w)) a xs := dt_rd ok (.inl e)
end

/-- what the dict at a holds at the key y -/
def DGet (H : Hp) (a : Addr) (y : V) (r : Option V) : Prop :=
  (∃ kvs k, Rd H a (.dK kvs) ∧ y = kV k ∧ r = valV kvs k) ∨ ∃ kvs k b, Rd H a (.dT kvs) ∧ y = .ref b ∧ H b = some (.tup (k.map kV)) ∧ r = valV kvs k
/-- the heap behind a[y] = v -/
def DPut (H : Hp) (a : Addr) (y v : V) (H' : Hp) : Prop :=
  (∃ kvs k, H a = some (.dK kvs) ∧ y = kV k ∧ kvs.length < sizeLine ∧ H' = upd H a (.dK (putK kvs k v))) ∨
  ∃ kvs k b, H a = some (.dT kvs) ∧ y = .ref b ∧ H b = some (.tup (k.map kV)) ∧ kvs.length < sizeLine ∧ H' = upd H a (.dT (putK kvs k v))
theorem DGet.k {H : Hp} {a : Addr} {kvs : List (Key × V)} {k : Key} (e : H a = some (.dK kvs)) : DGet H a (kV k) (valV kvs k) := .inl ⟨kvs, k, .inl e, rfl, rfl⟩
theorem DGet.t {H : Hp} {a b : Addr} {kvs : List (List Key × V)} {k : List Key} (e : H a = some (.dT kvs)) (eb : H b = some (.tup (k.map kV))) : DGet H a (.ref b) (valV kvs k) := .inr ⟨kvs, k, b, .inl e, rfl, eb, rfl⟩
theorem DPut.k {H : Hp} {a : Addr} {kvs : List (Key × V)} {k : Key} {v : V} (e : H a = some (.dK kvs)) (hl : kvs.length < sizeLine) : DPut H a (kV k) v (upd H a (.dK (putK kvs k v))) := .inl ⟨kvs, k, e, rfl, hl, rfl⟩
theorem DPut.t {H : Hp} {a b : Addr} {kvs : List (List Key × V)} {k : List Key} {v : V} (e : H a = some (.dT kvs)) (eb : H b = some (.tup (k.map kV))) (hl : kvs.length < sizeLine) :
    DPut H a (.ref b) v (upd H a (.dT (putK kvs k v))) := .inr ⟨kvs, k, b, e, rfl, eb, hl, rfl⟩


section
variable {X : Cx} {pins : List (Addr × Obj)} {σ : St} {H : Hp} {s : Shared} {a : Addr} {y v : V} {u r : Value} {o : Option V} {A : Around} {E : Value → Shared → Prop}

theorem Inv.big (I : Inv X pins σ H s) : sysModules < s.heap.objs.size := by
  have h : mainGlobals < s.heap.objs.size := (I.mod.glob.keeps I.bk).lt
  exact Nat.lt_trans (by decide) h

theorem d_notIn {Q : Value → Shared → Prop} (hu : A.units + 1 < cLine) (I : Inv X pins σ H s) (g : DGet H a y o) (ry : RelV y u) (h : ∀ s', Inv X pins σ H s' → Q (.bool (!o.isSome)) s') :
    wpAny (model X.prog X.w) A (compareOp .NotIn u (.ref a)) Q E s := by
  rcases g with ⟨kvs, k, e, ey, l⟩ | ⟨kvs, k, b, e, ey, eb, l⟩
  · subst ey
    obtain ⟨z, hd, vs, rel, dd⟩ := dk_rd I.hok e
    refine wpAny_notIn_of (kV_is ry) hd dd.mapOf ?_
    rw [← (rel.val k).isSome_eq, ← l]
    exact h _ (I.tok _)
  · subst ey
    cases (show u = Value.ref b from ry)
    obtain ⟨z, hd, xs, rel, dd⟩ := dt_rd I.hok e
    refine wpAny_notIn_heap (tupleKind_room_in1 hu) (key_of I.hok eb) hd dd ?_
    have q := (rel.val k).isSome_eq
    rw [Option.isSome_map] at q
    rw [← q, ← l]
    exact h _ (I.tok _)
/-- a dict's object is replaced -/
theorem d_write {h' : Heap} {t' : Nat} {ob : HO} (I : Inv X pins σ H s) (mu : Mut (H a)) (hs : Heap.SameBut a s.heap h') (he : ∃ q, h'.get? a = some q) (new : ObjOk X.prog X.w (upd H a ob) h' a ob) :
    Inv X pins σ (upd H a ob) { s with heap := h', toks := t' } :=
  I.write (x := a) (e := a) mu (.inl rfl) (fun b q hb z => (hs.2 b hb).trans z) he new
theorem dk_new {P : Program} {w : World} {H' : Hp} {h' : Heap} {kvs : List (Key × V)} {vs : List (Key × Value)} (z : kvs.length ≤ sizeLine) (hd : (a == sysModules) = false) (rel : KV kvs vs) (dd : h'.DictOf (mixKind P w) a vs) :
    ObjOk P w H' h' a (.dK kvs) := ⟨z, hd, vs, rel, dd⟩
/-- d[y] = v -/
theorem d_setItem {H' : Hp} {Q : Unit → Shared → Prop} (hu : A.units + 1 < cLine) (I : Inv X pins σ H s) (g : DPut H a y v H') (ry : RelV y u) (rv : RelV v r) (h : ∀ s', Inv X pins σ H' s' → Q () s') :
    wpAny (model X.prog X.w) A (setItem (.ref a) u r) Q E s := by
  rcases g with ⟨kvs, k, e, ey, l, eH⟩ | ⟨kvs, k, b, e, ey, eb, l, eH⟩
  · subst ey eH
    obtain ⟨z, hd, vs, rel, dd⟩ := dk_of I.hok e
    have hz : vs.length ≤ sizeLine := by rw [← rel.length]; exact z
    have hl : (putK kvs k v).length ≤ sizeLine := by have := length_putK kvs k v; omega
    refine wpAny_setItem_pairs (hsz := hz) (kV_is ry) dd fun h' dd' hs => h _ ?_
    have he : ∃ q, h'.get? a = some q := let ⟨q, _, _, hq, _⟩ := dd'; ⟨q, hq⟩
    exact d_write I (by rw [e]; exact True.intro) hs he (dk_new hl hd (rel.put k rv) dd')
  · subst ey eH
    cases (show u = Value.ref b from ry)
    obtain ⟨z, hd, xs, rel, dd⟩ := dt_of I.hok e
    have hz : xs.length ≤ sizeLine := by rw [← Paired.length rel]; exact z
    have hl : (putK kvs k v).length ≤ sizeLine := by have := length_putK kvs k v; omega
    refine wpAny_setItem_heap (hsz := hz) (tupleKind_room_in1 hu) (key_of I.hok eb) dd fun h' dd' hs => h _ ?_
    obtain ⟨q, es, ep, hq, h2, h3, h4, _, h5⟩ := dd'
    refine d_write I (by rw [e]; exact True.intro) hs ⟨q, hq⟩ ⟨hl, hd, _, (rel.put k eb rv).keeps fun c ys ec => ?_, q, es, ep, hq, h2, h3, h4, h5⟩
    rw [upd_ne (ne_of ec e (fun z => nomatch z))]
    exact ec
end

section
variable {X : Cx} {pins : List (Addr × Obj)} {σ : St} {H : Hp} {s : Shared} {a : Addr} {kvs : List (Key × V)} {k : Key} {u : Value} {A : Around} {E : Value → Shared → Prop}
end


/-! ### readings and rules -/
section
variable {X : Cx} {o i e value : Expr} {pos pos' tpos : Pos} {td ty tv : TE}
end


/-! ### displays -/
theorem dk_empty {P : Program} {w : World} {H : Hp} (h : Heap) (hb : sysModules < h.objs.size) : ObjOk P w H (h.push { cls := .type "dict", data := .dict #[] }) h.objs.size (.dK []) :=
  ⟨Nat.zero_le _, beq_eq_false_iff_ne.mpr (Ne.symm (Nat.ne_of_lt hb)), [], .nil, Heap.DictOf.new h⟩
/-- {}, to be a dict of the kind that is wanted -/
def tDNewK : TE := fun _ H Q => ∀ p, H p = none → Q (.ref p) (upd H p (.dK []))
section
variable {X : Cx} {pos : Pos}
theorem pe_dnewK : PE X (.Dict [] [] pos) tDNewK := fun pins s σ H Q I h =>
  wpAny_Dict_empty ⟨.ref s.heap.objs.size, _, I.laid (a := s.heap.objs.size) (o := .dK []) (t' := s.toks) (fun _ _ q => Heap.get?_push_of_some _ q) (Nat.le_refl _) (dk_empty s.heap I.big), rfl, h _ (I.hok.fresh (Nat.le_refl _))⟩
end

/-- the pairs of a display, from the left -/
def tPairs : List (TE × TE) → St → Hp → (List (V × V) → Hp → Prop) → Prop
  | [], _, H, Q => Q [] H
  | (tk, tv) :: r, σ, H, Q => tk σ H fun x H1 => tv σ H1 fun y H2 => tPairs r σ H2 fun ps H3 => Q ((x, y) :: ps) H3
abbrev VV : List (V × V) → List (Value × Value) → Prop := Paired fun p q => RelV p.1 q.1 ∧ RelV p.2 q.2
def PPs (X : Cx) (pos : Pos) (keys : List (Option Expr)) (values : List Expr) (trs : List (TE × TE)) : Prop :=
  ∀ (pins : List (Addr × Obj)) (s : Shared) (σ : St) (H : Hp) (Q : List (V × V) → Hp → Prop), Inv X pins σ H s → tPairs trs σ H Q →
    wpAny (model X.prog X.w) X.A (evalPairs (pairTrees keys values X.env pos)) (fun vs s' => ∃ ps H', Inv X pins σ H' s' ∧ VV ps vs ∧ Q ps H') X.xe s
theorem pps_nil {X : Cx} {pos : Pos} : PPs X pos [] [] [] := fun pins s σ H Q I h => pairTrees_nil_walk ⟨[], H, I, .nil, h⟩
theorem pps_cons {X : Cx} {pos : Pos} {k v : Expr} {ks : List (Option Expr)} {vs : List Expr} {tk tv : TE} {trs : List (TE × TE)} (hk : PE X k tk) (hv : PE X v tv) (hr : PPs X pos ks vs trs) :
    PPs X pos (some k :: ks) (v :: vs) ((tk, tv) :: trs) := fun pins s σ H Q I h =>
  pairTrees_cons_walk (thn (hk pins s σ H _ I h) fun u s1 ⟨x, H1, I1, rx, q1⟩ => thn (hv pins s1 σ H1 _ I1 q1) fun w2 s2 ⟨y, H2, I2, ry, q2⟩ =>
    thn (hr pins s2 σ H2 _ I2 q2) fun ws s3 ⟨ps, H3, I3, rel, q3⟩ => ⟨(x, y) :: ps, H3, I3, .cons ⟨rx, ry⟩ rel, q3⟩)

def mergeK (kvs more : List (Key × V)) : List (Key × V) := more.foldl (fun acc kv => putK acc kv.1 kv.2) kvs
theorem KV.merge : ∀ {more : List (Key × V)} {rs : List (Key × Value)} {kvs : List (Key × V)} {vs : List (Key × Value)}, KV more rs → KV kvs vs → KV (mergeK kvs more) (merged vs rs) := by
  intro more rs kvs vs r
  unfold KV at r
  induction r generalizing kvs vs with
  | nil => intro q; exact q
  | @cons p q ps qs h t ih =>
    intro r0
    have e : KV (putK kvs p.1 p.2) (stored vs q.1 q.2) := by
      have := r0.put p.1 h.2
      rw [← h.1]; exact this
    exact ih e
theorem length_mergeK : ∀ (more kvs : List (Key × V)), (mergeK kvs more).length ≤ kvs.length + more.length
  | [], kvs => by show kvs.length ≤ kvs.length + 0; omega
  | p :: r, kvs => by
    have h1 := length_mergeK r (putK kvs p.1 p.2)
    have h2 := length_putK kvs p.1 p.2
    show (mergeK (putK kvs p.1 p.2) r).length ≤ _
    rw [List.length_cons]; omega
theorem carries_of {P : Program} {w : World} : ∀ {kvs : List (Key × V)} {ws : List (Value × Value)}, VV (kvs.map fun kv => (kV kv.1, kv.2)) ws → ∃ rs, Carries (mixKind P w) ws rs ∧ KV kvs rs
  | [], _, r => by rw [List.map_nil] at r; cases r; exact ⟨[], True.intro, .nil⟩
  | p :: kvs, _, r => by
    rw [List.map_cons] at r
    cases r with
    | @cons a b as bs h t =>
      obtain ⟨rs, c, q⟩ := carries_of (P := P) (w := w) t
      obtain ⟨b1, b2⟩ := b
      exact ⟨(p.1, b2) :: rs, ⟨kV_is h.1, rfl, c⟩, .cons ⟨rfl, h.2⟩ q⟩
/-- {k: v, ..} with keys ints and texts; the new dict stands empty while the pairs are made -/
def tDisp (trs : List (TE × TE)) : TE := fun σ H Q => ∀ p, H p = none → tPairs trs σ (upd H p (.dK [])) fun ps H2 => H2 p = some (.dK []) ∧ ∃ kvs : List (Key × V), ps = kvs.map (fun kv => (kV kv.1, kv.2)) ∧ kvs.length ≤ 15 ∧ Q (.ref p) (upd H2 p (.dK (mergeK [] kvs)))
theorem pe_disp {X : Cx} {pos : Pos} {keys : List (Option Expr)} {values : List Expr} {trs : List (TE × TE)} (h : PPs X pos keys values trs) (hall : keys.all (·.isSome) = true) (hl : keys.length = values.length) (h0 : keys ≠ [])
    (h15 : keys.length ≤ 15) : PE X (.Dict keys values pos) (tDisp trs) := by
  intro pins s σ H Q I q
  have hn := I.hok.fresh (Nat.le_refl s.heap.objs.size)
  have I1 := I.laid (a := s.heap.objs.size) (o := .dK []) (h' := s.heap.push { cls := .type "dict", data := .dict #[] }) (t' := s.toks) (fun _ _ q => Heap.get?_push_of_some _ q) (Nat.le_refl _) (dk_empty s.heap I.big)
  refine wpAny_Dict_walk (knd := mixKind X.prog X.w) hall hl h0 h15 (thn (h pins _ σ _ _ I1 (q _ hn)) fun ws s2 ⟨ps, H2, I2, rel, e, kvs, ep, lk, q2⟩ => ?_)
  subst ep
  obtain ⟨rs, c, rk⟩ := carries_of (P := X.prog) (w := X.w) rel
  obtain ⟨z, hd, vs0, r0, dd⟩ := dk_of I2.hok e
  cases r0
  refine ⟨rs, c, dd, fun h' dd' hs => ⟨.ref s.heap.objs.size, _, ?_, rfl, q2⟩⟩
  have hz : (mergeK [] kvs).length ≤ sizeLine := by
    have h1 := length_mergeK kvs []
    rw [List.length_nil] at h1
    rw [sizeLine_eq]; omega
  have he : ∃ q, h'.get? s.heap.objs.size = some q := let ⟨q, _, _, hq, _⟩ := dd'; ⟨q, hq⟩
  exact d_write I2 (by rw [e]; exact True.intro) hs he (dk_new hz hd (rk.merge .nil) dd')


/-! ### methods -/
/-- a method call o.m(e) of a built-in, with one argument: what must be seen of the text -/
structure M1 (X : Cx) (o : Expr) (m : Str) (apos : Pos) (e : Expr) (cpos : Pos) : Prop where
  base : attributeBase o m X.env (eval o X.env) = eval o X.env
  few : ((backTo cpos (starEach [e] X.env)).all (fun x => !x.1) && (backToKw cpos (keywordEach [] X.env)).all (fun x => x.1.isSome)
    && decide (([e] : List Expr).length + ([] : List Keyword).length + (if ([] : List Keyword).isEmpty then 0 else 1) < 30)) = true
  line : (apos.endLine == cpos.line) = true
  trees : backTo cpos (starEach [e] X.env) = [(false, eval e X.env)]
structure M2 (X : Cx) (o : Expr) (m : Str) (apos : Pos) (e f : Expr) (cpos : Pos) : Prop where
  base : attributeBase o m X.env (eval o X.env) = eval o X.env
  few : ((backTo cpos (starEach [e, f] X.env)).all (fun x => !x.1) && (backToKw cpos (keywordEach [] X.env)).all (fun x => x.1.isSome)
    && decide (([e, f] : List Expr).length + ([] : List Keyword).length + (if ([] : List Keyword).isEmpty then 0 else 1) < 30)) = true
  line : (apos.endLine == cpos.line) = true
  trees : backTo cpos (starEach [e, f] X.env) = [(false, eval e X.env), (false, eval f X.env)]

section
variable {X : Cx} {pins : List (Addr × Obj)} {σ : St} {H : Hp} {s : Shared} {a : Addr} {y d : V} {u r : Value} {o : Option V} {A : Around} {E : Value → Shared → Prop}
end

section
variable {X : Cx} {o e f : Expr} {apos cpos : Pos} {td ty tx : TE}
end

/-! ### dict(d): a copy -/
section
variable {X : Cx} {pins : List (Addr × Obj)} {σ : St} {H : Hp} {s : Shared} {a : Addr} {kvs : List (Key × V)} {A : Around} {E : Value → Shared → Prop}
end


section
variable {X : Cx} {pins : List (Addr × Obj)} {σ : St} {H : Hp} {s : Shared} {a : Addr} {y : V} {u : Value} {A : Around} {E : Value → Shared → Prop}
end
end L2

namespace Att
open PySem PySem.W PySem.Calls PyProof.Rows

/-! ### the script -/
theorem ints_of_wellAll {P : Params} {h : Heap} : ∀ (ns : List Int) (vs : List Value), WellAll P h vs (ns.map WData.int) → IntsAre vs ns := by
  intro ns
  induction ns with
  | nil =>
    intro vs w
    rw [List.map_nil] at w
    cases w
    exact .nil
  | cons n ns ih =>
    intro vs w
    rw [List.map_cons] at w
    cases w with
    | cons a b =>
      cases a
      exact .cons _ _ (ih _ b)

theorem script_of {l : OpenLaw} {n : Nat} (hn : l.most = some n) {P : Params} {h : Heap} {args : List WData} {vals : List Value}
    (hpre : l.row.toRowW.claim.pre args = true) (hwl : WellAll P h vals args) :
    ∃ a vs ns, vals = [Value.ref a] ∧ args = [WData.list (ns.map WData.int)] ∧ h.get? a = some { cls := .type "list", data := .seq vs.toArray } ∧ IntsAre vs ns ∧ ns.length ≤ n := by
  have hsh : WShape.hasAll [] args [.list .int] = true := (pre_splitW hpre).1
  have hc : l.pre.holds [] { args := args } = true := (pre_splitW hpre).2
  obtain ⟨d, r, rfl, h1, h2⟩ := hasAllW_cons hsh
  obtain rfl := hasAllW_nil h2
  obtain ⟨xs, rfl, h3⟩ := hasW_list h1
  obtain ⟨ns, rfl⟩ := items_int h3
  have hlen : ns.length ≤ n := by
    unfold OpenLaw.pre at hc
    have h4 : (WTm.not (.lt (.lit (.int (n : Int))) (.len (.arg 0)))).holds [] { args := [.list (ns.map .int)] } = true := by
      have h4 := (holds_andW hc).1
      rw [hn] at h4
      exact h4
    have h5 := condW_of h4 (w_not (w_lt w_lit (w_len_list (w_arg rfl))))
    rw [List.length_map] at h5
    refine Nat.le_of_not_lt fun q => ?_
    have q' : (n : Int) < ((ns.length : Nat) : Int) := by omega
    first
      | (rw [decide_eq_true q'] at h5; exact absurd h5 (by decide))
      | (simp at h5; omega)
  cases hwl with
  | cons w1 w2 =>
    cases w2
    cases w1 with
    | list ho hall => exact ⟨_, _, ns, rfl, rfl, ho, ints_of_wellAll ns _ hall, hlen⟩

theorem post_true (l : OpenLaw) (args : List WData) : l.row.toRowW.claim.post args (.bool true) args = true :=
  postW_of (r := l.row.toRowW) (X := (true == true))
    (show WShape.has [] (.bool true) .bool = true by first | rfl | decide | simp [WShape.has, WShape.arms, WShape.armsAll])
    (show (WTm.eq .res (.lit (.bool true))).value [] { args := args, res := some (.bool true), after := args } = some (.bool (true == true)) from w_eq_bool (w_res rfl) w_lit) rfl

/-! ### the attachment: holds_open's last premise (the goal 'hc' behind k_head) from a wpAny of the law's body -/
/-- the same from a codeAny of the CALL (for a layer whose function contracts speak of calls) -/
theorem attach_call {l : OpenLaw} {n : Nat} {q : Program} {loose : List Str} {XP : (Str → Option Value) → Heap → Prop} {YP : World → Heap → Prop} {d : DefRec}
    (hn : l.most = some n) (hdf : d.params.defaults = [])
    (call : ∀ (w : World) (s₀ s₁ : Shared) (mg mb : Str → Option Value) (fa : Addr) (o : Obj) (pm cd doc : Value) (a : Addr) (vs : List Value) (ns : List Int),
      Ground q loose [] XP w s₀ mg mb s₁.heap → YP w s₁.heap →
      s₁.heap.get? fa = some o → o.data = .func (docDef d.name d.params d.body d.scope pm cd doc) → s₁.heap.CodeRec cd d.name → mg d.name = some (.ref fa) →
      s₁.heap.get? a = some { cls := .type "list", data := .seq vs.toArray } → IntsAre vs ns → ns.length ≤ n → s₁.gens = #[] →
      codeAny (model l.prog w) callerA (.call (.ref fa) ⟨[.ref a], []⟩) (fun r s' => r = .ok (.ret (.bool true)) ∧ OldK s₁.heap s'.heap ∧ s'.os = s₁.os ∧ AllBare s'.gens) s₁) :
    WalkO q loose XP YP l.row.toRowW d [] (fun f vs => PySem.call f vs) := by
  intro w s₀ s₁ mg mb G Y fa o pm cd doc dV kV ho hd hcd hD hmg hg args vals as hpre hlay hrd hwl hlo
  obtain rfl : dV = .none := Dflts.none hD hdf
  obtain rfl : kV = .none := Dflts.noKw hD
  obtain ⟨a, vs, ns, rfl, rfl, hobj, hints, hlen⟩ := script_of hn hpre hwl
  refine enter_call (codeAny_mono (call w s₀ s₁ mg mb fa o pm cd doc a vs ns G Y ho (fd_plain hd) hcd hmg hobj hints hlen hg) fun r s' hq => ?_)
  obtain ⟨rfl, h2, h3, h4⟩ := hq
  exact ⟨.inl ⟨.bool true, .bool true, [], rfl, fun _ => rfl, .bool true, post_true l _, fun _ => ⟨List.Pairwise.nil, fun _ hm => (nomatch hm)⟩⟩, h2, h3, h4⟩

/-! ### rules over ANY heap (no ledger) from facts about the written part K: the library's own take a ledger (News) for what they write -/
section
variable {prog : Program} {w : World} {A : Around} {E : Value → Shared → Prop} {s : Shared} {K : Frag}

/-! the whole heap as the ledger: makes every rule that writes through a ledger a rule over any heap -/
end
end Att

namespace L2
open PySem PySem.Spec PyProof.Rows

theorem vals_ints : ∀ {vs : List Value} {ns : List Int}, IntsAre vs ns → Vals (ns.map V.int) vs
  | _, _, .nil => .nil
  | _, _, .cons n t h => .cons ⟨t, rfl⟩ (vals_ints h)

/-- nothing is tracked but the script, known to the object (or it is an object of the module) -/
def Only (H : Hp) : Prop := ∀ b, H b = none ∨ ∃ o xs, H b = some (.frz o (.lst xs))

/-- THE HEAD: the law's promise, at the heap behind the top. F, the promise of the law's def, may use that base is part of the heap (so K.In base, base.Ns mainGlobals mg stand in Mod) -/
theorem law_call {P : Program} {w : World} {K : PySem.W.Frag} {mg mb : Str → Option Value} {CX : CXT} {k : Nat} {fa a : Addr} {fd : FuncData} {x : Str} {sp : Sp} {s₁ : Shared} {vs : List Value} {ns : List Int}
    (KX : K.In s₁.heap) (hns : s₁.heap.Ns mainGlobals mg) (hb : s₁.heap.Ns builtinsNs mb) (hbb : ∀ x : Str, x ≠ "__name__" → mb x = bootBuiltins x) (hlim : s₁.heap.NoLimit) (hg : s₁.gens = #[])
    (ha : s₁.heap.get? a = some { cls := .type "list", data := .seq vs.toArray }) (hi : IntsAre vs ns) (hl : ns.length ≤ sizeLine) (hr : Room k callerA)
    (F : ∀ base : Heap, K.In base → base.Ns mainGlobals mg → FnOk P w K mg base CX k fa fd [x] sp) (hbind : ∀ (s : Shared) (u : Value), BindsTo s fd ⟨[u], []⟩ [(x, u)])
    (hsp : ∀ H : Hp, Only H → SqL K H a (ns.map V.int) → sp [.ref a] H (fun v _ => v = .bl true) fun _ _ _ => False)
    (hCX : ∀ H e s', CX [] H s₁ (fun _ _ _ => False) e s' → False) :
    codeAny (model P w) callerA (.call (.ref fa) ⟨[.ref a], []⟩) (fun r s' => r = .ok (.ret (.bool true)) ∧ OldK s₁.heap s'.heap ∧ s'.os = s₁.os ∧ AllBare s'.gens) s₁ := by
  have rv := vals_ints hi
  have lenV := hi.length
  -- from an abstract heap in which nothing but the script may be tracked
  have core : ∀ H : Hp, Only H → SqL K H a (ns.map V.int) → HOk P w H s₁.heap → (∀ b, H b ≠ none → b = a) → (H a ≠ none → K.lookup a = none) →
      codeAny (model P w) callerA (.call (.ref fa) ⟨[.ref a], []⟩) (fun r s' => r = .ok (.ret (.bool true)) ∧ OldK s₁.heap s'.heap ∧ s'.os = s₁.os ∧ AllBare s'.gens) s₁ := by
    intro H hO hS hok hA hK
    have base_of : ∀ {b : Addr} {o : Obj}, s₁.heap.get? b = some o → H b = none → (hidT s₁.heap H).get? b = some o := fun e n => hidT_get e n
    have noA : ∀ {b : Addr} {o : Obj} {es : Array DictEntry} {ep : Nat}, s₁.heap.get? b = some o → o.data = .dict es ep → H b = none := fun {b o es ep} e d => by
      cases q : H b with
      | none => rfl
      | some u =>
        have e' : b = a := hA b (by rw [q]; simp)
        subst e'
        rw [ha] at e; cases e
        have d' : Data.seq vs.toArray _ = Data.dict es ep := d
        cases d'
    have nsK : ∀ {b : Addr} {m : Str → Option Value}, s₁.heap.Ns b m → (hidT s₁.heap H).Ns b m := fun {b m} ⟨o, es, ep, e, d, r⟩ => ⟨o, es, ep, base_of e (noA e d), d, r⟩
    have hKb : K.In (hidT s₁.heap H) := fun b o e => base_of (KX b o e) (by
      cases q : H b with
      | none => rfl
      | some u =>
        have e' : b = a := hA b (by rw [q]; simp)
        subst e'
        rw [hK (by rw [q]; simp)] at e; cases e)
    have hM : Mod K mg (hidT s₁.heap H) := ⟨hKb, nsK hns, ⟨mb, nsK hb, hbb⟩, let ⟨mc, h1, h2⟩ := hlim; ⟨mc, nsK h1, h2⟩⟩
    have e0 : Env0 P w K mg (hidT s₁.heap H) callerA [] s₁ H := ⟨rfl, hM, fun b o e => of_hidT e, Nat.le_of_eq (hidT_size _ _), trivial, fun b hb => absurd (show b ∈ ([] : List Addr) from hb) (by simp), hok, .of_eq hg⟩
    refine codeAny_mono ((F _ hKb (nsK hns)).run callerA [] s₁ H ⟨[.ref a], []⟩ [.ref a] [.ref a] _ _ hr e0 (hbind s₁ (.ref a)) (.cons rfl .nil) (hsp H hO hS)) fun r s' h => ?_
    cases r with
    | error e => exact (hCX H e s' h).elim
    | ok fl =>
      cases fl with
      | next => exact False.elim h
      | brk => exact False.elim h
      | cont => exact False.elim h
      | ret u =>
        obtain ⟨v, H', os, bare, un, hok', r', q⟩ := h
        have q' : v = .bl true := q
        subst q'
        obtain rfl : u = Value.bool true := r'
        refine ⟨rfl, OldK.of_keep fun b o e => ?_, os, bare⟩
        cases q : H b with
        | none => exact un.keep b o e q (by intro z; exact absurd (show b ∈ ([] : List Addr) from z) (by simp)) (by simp)
        | some u =>
          rcases hO b with z | ⟨ob, xs, z⟩
          · rw [q] at z; cases z
          · have z2 := un.frzs b ob _ z
            obtain ⟨e1, _⟩ := hok b _ z
            obtain ⟨e2, _⟩ := hok' b _ z2
            rw [e] at e1; cases e1
            exact e2
  cases hk : K.lookup a with
  | some o =>
    -- the script is one of the module's own objects
    have e := KX a o hk
    rw [ha] at e
    cases e
    refine core (fun _ => none) (fun _ => .inl rfl) (.inr ⟨_, vs.toArray, _, hk, rfl, rfl, rfl, by rw [List.size_toArray, lenV]; exact hl, by simpa using rv⟩) (fun b u z => by have z' : (none : Option HO) = some u := z; cases z') (fun b z => absurd rfl z) fun z => absurd rfl z
  | none =>
    refine core (fun b => if b = a then some (.frz { cls := .type "list", data := .seq vs.toArray } (.lst (ns.map V.int))) else none) (fun b => ?_) (.inl (.inr ⟨{ cls := .type "list", data := .seq vs.toArray }, if_pos rfl⟩)) (fun b u z => ?_) (fun b z => ?_) fun _ => hk
    · by_cases hb : b = a
      · exact .inr ⟨_, _, if_pos hb⟩
      · exact .inl (if_neg hb)
    · by_cases hb : b = a
      · have z' := (if_pos hb).symm.trans z
        cases z'
        subst hb
        exact ⟨ha, by rw [List.length_map]; exact hl, vs, _, rv, ha⟩
      · have z' := (if_neg hb).symm.trans z
        cases z'
    · by_cases hb : b = a
      · exact hb
      · exact absurd (if_neg hb) z
end L2

namespace L2
open PySem PySem.Spec PyProof.Rows

abbrev KOf {K : PySem.W.Frag} {h : Heap} (_ : K.In h) : PySem.W.Frag := K

/-- the goal that k_head leaves (case hc), from the law's promise. F gives the function object fd (K's own) once, then the promise over every base -/
theorem walk_of {l : PySem.W.OpenLaw} {n k : Nat} {q : Program} {loose : List Str} {XP : (Str → Option Value) → Heap → Prop} {YP : World → Heap → Prop} {d : DefRec} {K : Params → PySem.W.Frag} {CX : World → CXT} {sp : World → Sp} {x : Str}
    (hn : l.most = some n) (hn2 : n ≤ sizeLine) (hdf : d.params.defaults = []) (hr : Room k callerA)
    (hY : ∀ (w : World) (h : Heap), YP w h → (K w.params).In h)
    (F : ∀ (w : World) (mg : Str → Option Value) (fa : Addr) (h : Heap), (K w.params).In h → h.Ns mainGlobals mg → mg d.name = some (.ref fa) →
      ∃ fd : FuncData, (∀ (s : Shared) (u : Value), BindsTo s fd ⟨[u], []⟩ [(x, u)]) ∧
        ∀ base : Heap, (K w.params).In base → base.Ns mainGlobals mg → FnOk l.prog w (K w.params) mg base (CX w) k fa fd [x] (sp w))
    (hsp : ∀ (w : World) (H : Hp) (a : Addr) (ns : List Int), ns.length ≤ n → Only H → SqL (K w.params) H a (ns.map V.int) → sp w [.ref a] H (fun v _ => v = .bl true) fun _ _ _ => False)
    (hCX : ∀ (w : World) (H : Hp) (s : Shared) (e : Value) (s' : Shared), CX w [] H s (fun _ _ _ => False) e s' → False) :
    PySem.W.WalkO q loose XP YP l.row.toRowW d [] (fun f vs => PySem.call f vs) := by
  refine Att.attach_call hn hdf fun w s₀ s₁ mg mb fa o pm cd doc a vs ns G Y ho hd hcd hmg hobj hints hlen hg => ?_
  have KX := hY w _ Y
  obtain ⟨fd, hb, hF⟩ := F w mg fa _ KX G.T.g hmg
  exact law_call KX G.T.g G.T.b G.T.builtins G.T.nolimit hg hobj hints (Nat.le_trans hlen hn2) hr hF hb (fun H hO hS => hsp w H a ns hlen hO hS) fun H e s' => hCX w H s₁ e s'
end L2

/- THE LAST THEOREM (shape; LID, My.* are yours):
   My.Adr: a structure of the addresses that your layer names (classes, functions); My.Txt K t: a structure (Prop) of the equations over K;
   My.txt_mk : {K} {implicit addresses ..} (e1 : nsIn K mainGlobals "law" = some (some (.ref f))) (e2 : K.lookup f = some ⟨oc, od, .func (fnOf "law" "law" params body scope dV kV doc pm an cdv ct), sl⟩) (e3 : codeIn K cdv "law" = true) .. : ∃ t, My.Txt K t

set_option maxRecDepth 100000 in
set_option maxHeartbeats 0 in
theorem PySem.Challenge.cw_LID_holds : PySem.Challenge.rw_LID.Holds := by
  w_on; o_law; k_head; (case hw => w_witness2)
  k_fill
  refine L2.walk_of (l := PySem.Challenge.rw_LID) (n := 63) (k := 40) (x := "script") (CX := fun w => ..) (sp := fun _ => My.sp_law) rfl (by decide) rfl ⟨rfl, by decide, by decide⟩ (fun w h Y => PySem.W.kIn_of Y) ?F ?S ?C
  case F =>
    intro w mg fa h KX G hmg
    have T : ∃ t, My.Txt (L2.KOf KX) t := by
      dsimp only [L2.KOf]                          -- K must stand as «<heap const> w.params» for k_is
      refine' My.txt_mk ?e1 ?e2 ?e3 ..
      (case e1 => PySem.W.k_is)                    -- in the order: a name -> its address -> its object -> its parts
      (case e2 => PySem.W.k_is)
      ..
    obtain ⟨t, T⟩ := T
    have e0 := hmg.symm.trans (PySem.W.mg_of KX G T.law)
    cases e0                                       -- fa is the law's own address
    exact ⟨_, fun s u => .of_eq rfl, fun base kb nb => My.law_fn T kb nb⟩     -- if «.of_eq rfl» comes too early: refine' ⟨_, ?b, fun base kb nb => My.law_fn T kb nb⟩; exact fun s u => .of_eq rfl
  case S => exact fun w H a ns hl hO hS => ..
  case C => exact ..
(the tactic k_is has no namespace: write k_is) -/

/-! SHORT WORDS over the layer: a def of the text, its body, what a loop and a test want. -/
namespace L2
open PySem PySem.Spec PyProof.Rows

/-! ### the text by places -/
def defArgs (s : Stmt) : Arguments := match s with
  | .FunctionDef _ a _ _ _ _ _ _ _ _ => a
  | _ => { posonlyargs := [], args := [], vararg := none, kwonlyargs := [], kw_defaults := [], kwarg := none, defaults := [] }
def defBody (s : Stmt) : List Stmt := match s with
  | .FunctionDef _ _ b _ _ _ _ _ _ _ => b
  | _ => []
def defScope (s : Stmt) : Scope := match s with
  | .FunctionDef _ _ _ _ _ _ sc _ _ _ => sc
  | _ => { kind := .function, names := [], isGenerator := false, isCoroutine := false }

/-! ### no exception leaves a def -/
abbrev CX0 : CXT := fun _ _ _ _ _ _ => False
abbrev E0 : XK := fun _ _ _ => False
theorem pass0 {X : Cx} : Passes CX0 X E0 := fun _ _ _ _ _ _ _ h => h.elim

/-! ### a def (or method) of the text as it stands behind the top -/
structure Fun (K : PySem.W.Frag) (x qual : Str) (st : Stmt) (f : Addr) (fd : FuncData) : Prop where
  ex : ∃ (oc : Value) (od : Option Addr) (kV doc pm : Value) (an : Option Addr) (cdv ct : Value) (osl : Array (Option Value)),
    fd = PySem.W.fnOf x qual (defArgs st) (defBody st) (defScope st) .none kV doc pm an cdv ct ∧ K.lookup f = some ⟨oc, od, .func fd, osl⟩ ∧ PySem.W.codeIn K cdv qual = true
  kp : PySem.W.keepIn K (.ref f) = true
section
variable {P : Program} {w : World} {K : PySem.W.Frag} {mg : Str → Option Value} {base : Heap}
/-- THE RULE for a def: its body as a term of rules, and the reading of that term -/
theorem Fun.ok {x qual : Str} {st : Stmt} {f : Addr} {fd : FuncData} {N ps : List Str} {k : Nat} {sp : Sp} (F : Fun K x qual st f fd) (S : FnScope N ps (defScope st)) (len : ∀ vs H Q E, sp vs H Q E → vs.length = ps.length)
    (hbody : ∀ (cdv : Value) (A : Around) (outer : List Env) (s : Shared) (H : Hp) (vs : List V) (Q : VK) (E : XK), Room k (A.deeper (envOfC qual (defScope st) s.heap.objs.size f cdv)) → sp vs H Q E →
      ∃ t, PSs (cxOf CX0 P w K mg base N qual (defScope st) f cdv A outer s H E).nox (defBody st) t ∧ t { nx := fun _ H' => Q .non H', rt := Q } (start N vs) H) : FnOk P w K mg base CX0 (k + 1) f fd ps sp := by
  obtain ⟨oc, od, kV, doc, pm, an, cdv, ct, osl, rfl, lk, hcd⟩ := F.ex
  refine fn_of lk hcd S len fun A outer s H vs Q E hr hsp => ?_
  obtain ⟨t, h, q⟩ := hbody cdv A outer s H vs Q E hr hsp
  exact ⟨t, h.nox, q⟩
/-- how its arguments bind (no defaults): h is «fun _ _ _ _ _ _ us hl => match us, hl with | [_, _], _ => rfl», one _ a parameter -/
theorem Fun.binds {x qual : Str} {st : Stmt} {f : Addr} {fd : FuncData} {ps : List Str} (F : Fun K x qual st f fd)
    (h : ∀ (kV doc pm : Value) (an : Option Addr) (cdv ct : Value) (us : List Value), us.length = ps.length → bindArgs (PySem.W.fnOf x qual (defArgs st) (defBody st) (defScope st) .none kV doc pm an cdv ct) ⟨us, []⟩ = pure (ps.zip us)) : Binds K fd ps [] := by
  obtain ⟨oc, od, kV, doc, pm, an, cdv, ct, osl, rfl, lk, hcd⟩ := F.ex
  exact .all (h kV doc pm an cdv ct)
theorem fun_mk {x qual : Str} {st : Stmt} {f : Addr} {oc : Value} {od an : Option Addr} {osl : Array (Option Value)} {kV doc pm cdv ct : Value} (l : K.lookup f = some ⟨oc, od, .func (PySem.W.fnOf x qual (defArgs st) (defBody st) (defScope st) .none kV doc pm an cdv ct), osl⟩)
    (c : PySem.W.codeIn K cdv qual = true) (k : PySem.W.keepIn K (.ref f) = true) : Fun K x qual st f (PySem.W.fnOf x qual (defArgs st) (defBody st) (defScope st) .none kV doc pm an cdv ct) := ⟨⟨oc, od, kV, doc, pm, an, cdv, ct, osl, rfl, l, c⟩, k⟩
end
/-! ### expressions in short: the name that stands in the i-th slot -/
section
variable {X : Cx}
theorem pv (i : Nat) {x : Str} {pos : Pos} (hN : X.N[i]? = some x := by rfl) (hv : Vis X.env.scope x := by first | exact Or.inl rfl | exact Or.inr (Or.inl rfl) | exact Or.inr (Or.inr rfl)) (hd : (x == ("__debug__" : Str)) = false := by decide)
    (hcd : (x == ("__classdict__" : Str)) = false := by decide) : PE X (.Name x pos) (tVar i) := pe_var hN hv hd hcd
end

/-! ### tests -/
theorem ite2 {c A B : Prop} [Decidable c] (h1 : c → A) (h2 : ¬ c → B) : if c then A else B := by
  by_cases h : c
  · rw [if_pos h]
    exact h1 h
  · rw [if_neg h]
    exact h2 h
/-! ### heaps -/
/-- all that was tracked is as it was -/
def Same (H H' : Hp) : Prop := ∀ b o, H b = some o → H' b = some o
theorem Same.refl (H : Hp) : Same H H := fun _ _ h => h
theorem Same.trans {H H1 H2 : Hp} (a : Same H H1) (b : Same H1 H2) : Same H H2 := fun c o h => b c o (a c o h)
theorem Same.free {H H' : Hp} (e : Same H H') {l : Addr} (h : H' l = Option.none) : H l = Option.none := by
  cases q : H l with
  | none => rfl
  | some o =>
    rw [e l o q] at h
    cases h
theorem Same.seq {K : PySem.W.Frag} {H H' : Hp} {a : Addr} {xs : List V} (e : Same H H') (h : SqL K H a xs) : SqL K H' a xs := by
  rcases h with (h | ⟨o, h⟩) | h
  · exact .inl (.inl (e _ _ h))
  · exact .inl (.inr ⟨o, e _ _ h⟩)
  · exact .inr h

/-! ### len of a dict -/
/-! ### a dict's pairs: keys that differ -/
section
variable {κ : Type} [DecidableEq κ]
end
end L2

set_option Elab.async false
set_option linter.all false
set_option maxRecDepth 100000
namespace L2
open PySem PySem.Spec PyProof.Rows

/-! ### a list comprehension of one clause: the block's closure -/
def closOf (cells : List (Str × Addr)) : List (Str × NameKind) → List (Str × Addr) → List (Str × Addr)
  | [], acc => acc
  | (n, k) :: r, acc => closOf cells r (if k == .free then (n, (cells.lookup n).getD 0) :: acc else acc)
theorem clos_for {env : Env} {f : (Str × NameKind) → List (Str × Addr) → Sem (ForInStep (List (Str × Addr)))}
    (hf : ∀ n k cs, f (n, k) cs = if (k == NameKind.free) = true then (cellOf env n >>= fun c => pure (ForInStep.yield ((n, c) :: cs))) else pure (ForInStep.yield cs)) :
    ∀ (names : List (Str × NameKind)) (acc : List (Str × Addr)), (∀ x ∈ names, x.2 = .free → ∃ c, env.cells.lookup x.1 = some c) →
    forIn names acc f = (pure (closOf env.cells names acc) : Sem _)
  | [], acc, _ => rfl
  | (n, k) :: r, acc, h => by
    rw [List.forIn_cons, hf]
    have ih := fun acc => clos_for hf r acc fun x hx => h x (List.mem_cons_of_mem _ hx)
    by_cases hk : (k == NameKind.free) = true
    · rw [if_pos hk]
      obtain ⟨c, hc⟩ := h (n, k) List.mem_cons_self (by simpa using hk)
      have e : cellOf env n = pure c := by unfold cellOf; rw [hc]
      rw [e, pure_bind, pure_bind]
      show forIn r ((n, c) :: acc) f = _
      rw [ih]
      show _ = pure (closOf env.cells r (if (k == NameKind.free) = true then (n, (env.cells.lookup n).getD 0) :: acc else acc))
      rw [if_pos hk, hc]; rfl
    · rw [if_neg hk, pure_bind]
      show forIn r acc f = _
      rw [ih]
      show _ = pure (closOf env.cells r (if (k == NameKind.free) = true then (n, (env.cells.lookup n).getD 0) :: acc else acc))
      rw [if_neg hk]
theorem closureFor_eq {env : Env} {scope : Scope} (h : ∀ x ∈ scope.names, x.2 = .free → ∃ c, env.cells.lookup x.1 = some c) : closureFor scope env = pure (closOf env.cells scope.names []) := by
  unfold closureFor
  show (forIn scope.names ([] : List (Str × Addr)) _ >>= fun cs => pure cs) = _
  rw [clos_for (env := env) (fun n k cs => ?_) _ _ h]
  · rfl
  · rfl
theorem closOf_some {cells : List (Str × Addr)} : ∀ {names : List (Str × NameKind)} {acc : List (Str × Addr)} {x : Str} {c : Addr}, (∀ y ∈ names, y.2 = .free → ∃ c, cells.lookup y.1 = some c) →
    (∀ y c, acc.lookup y = some c → cells.lookup y = some c) → (closOf cells names acc).lookup x = some c → cells.lookup x = some c
  | [], acc, x, c, _, ha, h => ha x c h
  | (n, k) :: r, acc, x, c, hn, ha, h => by
    refine closOf_some (names := r) (fun y hy => hn y (List.mem_cons_of_mem _ hy)) ?_ h
    intro y d hy
    by_cases hk : (k == NameKind.free) = true
    · rw [if_pos hk] at hy
      obtain ⟨e, he⟩ := hn (n, k) List.mem_cons_self (by simpa using hk)
      have he' : cells.lookup n = some e := he
      rw [List.lookup_cons] at hy
      by_cases hyn : (y == n) = true
      · rw [hyn] at hy
        have hy' : (cells.lookup n).getD 0 = d := Option.some.inj hy
        rw [he'] at hy'
        have e1 : y = n := by simpa using hyn
        rw [e1, he', ← hy']; rfl
      · have hf : (y == n) = false := by simpa using hyn
        rw [hf] at hy
        exact ha y d hy
    · rw [if_neg hk] at hy
      exact ha y d hy
theorem closOf_acc {cells : List (Str × Addr)} : ∀ {names : List (Str × NameKind)} {acc : List (Str × Addr)} {x : Str}, (∃ c, acc.lookup x = some c) → ∃ c, (closOf cells names acc).lookup x = some c
  | [], _, _, h => h
  | (n, k) :: r, acc, x, h => by
    refine closOf_acc (names := r) ?_
    by_cases hk : (k == NameKind.free) = true
    · rw [if_pos hk, List.lookup_cons]
      cases hx : (x == n) with
      | true => exact ⟨_, rfl⟩
      | false => exact h
    · rw [if_neg hk]; exact h
theorem closOf_has {cells : List (Str × Addr)} : ∀ {names : List (Str × NameKind)} {acc : List (Str × Addr)} {x : Str}, (x, NameKind.free) ∈ names → ∃ c, (closOf cells names acc).lookup x = some c
  | (n, k) :: r, acc, x, h => by
    rcases List.mem_cons.mp h with e | h
    · have e1 : x = n := congrArg (·.1) e
      have e2 : NameKind.free = k := congrArg (·.2) e
      subst e1 e2
      refine closOf_acc (names := r) ?_
      rw [if_pos (by rfl), List.lookup_cons]
      rw [beq_self_eq_true]
      exact ⟨_, rfl⟩
    · exact closOf_has (names := r) h
/-- a name of the block that is no local is one of its free ones -/
theorem relabel_free {env : Env} : ∀ {names : List (Str × NameKind)} {x : Str} {k : NameKind}, (∀ y ∈ names, y.2 ≠ .cell) →
    (names.map fun (n, k) => if (k == NameKind.free && env.scope.kind == .function && env.kindOf n == some .cell) then (n, NameKind.cell) else (n, k)).lookup x = some k → (k = .cell ∨ k = .free) → (x, NameKind.free) ∈ names
  | [], _, _, _, h, _ => by simp at h
  | (n, k0) :: r, x, k, hc, h, hk => by
    have ih := @relabel_free env r x k (fun y hy => hc y (List.mem_cons_of_mem _ hy))
    rw [List.map_cons] at h
    by_cases hf : (k0 == NameKind.free && env.scope.kind == .function && env.kindOf n == some .cell) = true
    · have hk0 : k0 = .free := by
        have : (k0 == NameKind.free) = true := by
          rw [Bool.and_eq_true, Bool.and_eq_true] at hf; exact hf.1.1
        simpa using this
      dsimp only at h
      rw [if_pos hf, List.lookup_cons] at h
      cases hx : (x == n) with
      | true =>
        have : x = n := by simpa using hx
        rw [this, hk0]; exact List.mem_cons_self
      | false => rw [hx] at h; exact List.mem_cons_of_mem _ (ih h hk)
    · dsimp only at h
      rw [if_neg hf, List.lookup_cons] at h
      cases hx : (x == n) with
      | true =>
        rw [hx] at h
        have e : k0 = k := Option.some.inj h
        have : x = n := by simpa using hx
        rcases hk with z | z
        · exact absurd (e.trans z) (hc (n, k0) List.mem_cons_self)
        · rw [this, e, z]; exact List.mem_cons_self
      | false => rw [hx] at h; exact List.mem_cons_of_mem _ (ih h hk)

/-! ### the block's context -/
def cxComp (X : Cx) (N0 T : List Str) (scope : Scope) (C : Addr) (fp : List Addr) (s : Shared) (H : Hp) : Cx :=
  { X with N := N0 ++ T, s₀ := s, H₀ := H, env := compEnvC scope (closOf X.env.cells scope.names []) C X.env, outer := X.stack, stack := X.stack, ex := fp, fn := fun _ => false, pn := [], xe := fun _ _ => False }
/-- what the scope of a block must be: no cells of its own, its free names are the def's cells, its locals are none of the tracked names -/
structure CompScope (X : Cx) (N0 T : List Str) (scope : Scope) : Prop where
  kind : scope.kind = .function
  nocell : ∀ y ∈ scope.names, y.2 ≠ .cell
  names : ∀ y ∈ scope.names, y.2 = .local → scope.names.lookup y.1 = some .local
  free : ∀ y ∈ scope.names, y.2 = .free → X.env.kindOf y.1 = some .cell ∨ X.env.kindOf y.1 = some .free
  apart : ∀ y ∈ scope.names, y.2 = .local → y.1 ∉ N0
  len0 : N0.length = X.N.length
  same : ∀ (i : Nat) (x : Str) (k : NameKind), N0[i]? = some x → (x, k) ∈ scope.names → X.N[i]? = some x
/-- a loop of one clause, with what is done ahead of the store -/
theorem codeAny_compLoop_go {prog : Program} {w : World} {A : Around} {R : Result → Shared → Prop} {s : Shared} {elt target iter : Expr} {ifs : List Expr} {scope : Scope} {pos : Pos} {it acc : Value} {env : Env} (I : Nat → Shared → Prop)
    (turn : ∀ n s, I n s → wpAny (model prog w) A (pyNext it) (fun r s₁ => match r with
      | none => R (.ok .next) s₁
      | some v => wpAny (model prog w) A (letOwnedTupleGo target it v) (fun _ s₀ => wpAny (model prog w) A (assign target env v) (fun _ s₂ =>
          wpAny (model prog w) A (forIn ifs true fun c r => if r = true then do let ok ← isTrue c env (eval c env); pure (ForInStep.yield ok) else pure (ForInStep.yield r)) (fun ok s₃ =>
            if ok = true then wpAny (model prog w) A (eval elt env) (fun x s₄ =>
              wpAny (model prog w) A (call (.builtin "list.append") [acc, x]) (fun _ s₅ => ∃ m, m < n ∧ I m s₅) (fun _ _ => False) s₄) (fun _ _ => False) s₃
            else ∃ m, m < n ∧ I m s₃) (fun _ _ => False) s₂) (fun _ _ => False) s₀) (fun _ _ => False) s₁) (fun _ _ => False) s)
    (n : Nat) (h : I n s) :
    codeAny (model prog w) A (.compLoop (.ListComp elt [⟨target, iter, ifs, 0⟩] scope pos) 0 it acc env) R s := by
  refine codeAny_loop rfl I (fun n s hI => ?_) n h
  show wpAny _ A ((compTurn (.ListComp elt [⟨target, iter, ifs, 0⟩] scope pos) 0 it acc env).onRaise (fun x => do noteFrame x env; theTreesLotGoes x)) _ _ s
  refine wpAny_noted ?_
  rw [compTurn_list]
  refine wpAny_bind (wpAny_standAt (wpAny_bind (wpAny_mono (turn n s hI) (fun r s₁ h₁ => ?_) fun _ _ h' => h'.elim)))
  cases r with
  | none => exact wpAny_pure h₁
  | some v =>
    refine wpAny_bind (wpAny_mono h₁ (fun _ s₀ h₀ => ?_) fun _ _ h' => h'.elim)
    refine wpAny_bind (wpAny_mono h₀ (fun _ s₂ h₂ => wpAny_bind (wpAny_mono h₂ (fun ok s₃ h₃ => ?_) fun _ _ h' => h'.elim)) fun _ _ h' => h'.elim)
    cases ok with
    | false => exact wpAny_pure ⟨rfl, h₃⟩
    | true =>
      exact wpAny_bind (wpAny_bind (wpAny_mono h₃ (fun x s₄ h₄ => wpAny_bind (wpAny_mono h₄ (fun _ s₅ h₅ => wpAny_pure (wpAny_pure ⟨rfl, h₅⟩)) fun _ _ h' => h'.elim)) fun _ _ h' => h'.elim))

/-- tests of a clause: none, or one -/
def PIfs (X : Cx) (ifs : List Expr) (tc : TT) : Prop :=
  ∀ (pins : List (Addr × Obj)) (s : Shared) (σ : St) (H : Hp) (Q : Bool → Hp → Prop), Inv X pins σ H s → tc σ H Q →
    wpAny (model X.prog X.w) X.A (forIn ifs true fun c r => if r = true then do let ok ← isTrue c X.env (eval c X.env); pure (ForInStep.yield ok) else pure (ForInStep.yield r)) (TP X pins σ Q) X.xe s
def tYes : TT := fun _ H Q => Q true H
theorem pifs_nil {X : Cx} : PIfs X [] tYes := fun _ _ _ H _ I h => wpAny_tests_nil ⟨H, I, h⟩
theorem pifs_one {X : Cx} {c : Expr} {tc : TT} (hc : PT X c tc) : PIfs X [c] tc := fun pins s σ H Q I h => wpAny_tests_one (hc pins s σ H Q I h)

/-- a target that stores into the slots from n on alone -/
def GFr (g : TG) (n : Nat) : Prop := ∀ x σ H Q, g x σ H Q → g x σ H fun σ' H' => Q σ' H' ∧ σ'.length = σ.length ∧ ∀ k, k < n → σ'[k]? = σ[k]?
def GsFr (g : TGs) (n : Nat) : Prop := ∀ x σ H Q, g x σ H Q → g x σ H fun σ' H' => Q σ' H' ∧ σ'.length = σ.length ∧ ∀ k, k < n → σ'[k]? = σ[k]?
theorem gfr_name {i n : Nat} (h : n ≤ i) : GFr (gName i) n := fun x σ H Q q => ⟨q, by simp, fun k hk => by rw [List.getElem?_set_ne (by omega)]⟩
theorem gsfr_nil {n : Nat} : GsFr gNil n := fun x σ H Q q => ⟨q.1, q.2, rfl, fun _ _ => rfl⟩
def GMono (g : TG) : Prop := ∀ x σ H Q Q', (∀ σ' H', Q σ' H' → Q' σ' H') → g x σ H Q → g x σ H Q'
def GsMono (g : TGs) : Prop := ∀ x σ H Q Q', (∀ σ' H', Q σ' H' → Q' σ' H') → g x σ H Q → g x σ H Q'
theorem gm_name {i : Nat} : GMono (gName i) := fun x σ H Q Q' h q => h _ _ q
theorem gsm_nil : GsMono gNil := fun x σ H Q Q' h q => ⟨q.1, h _ _ q.2⟩
theorem gsm_cons {t : TG} {u : TGs} (h1 : GMono t) (h2 : GsMono u) : GsMono (gCons t u) := fun x σ H Q Q' h ⟨v, r, e, q⟩ => ⟨v, r, e, h1 _ _ _ _ _ (fun σ' H' z => h2 _ _ _ _ _ h z) q⟩
theorem gsfr_cons {t : TG} {u : TGs} {n : Nat} (h1 : GFr t n) (m1 : GMono t) (h2 : GsFr u n) (m2 : GsMono u) : GsFr (gCons t u) n := fun x σ H Q ⟨v, r, e, q⟩ => by
  refine ⟨v, r, e, ?_⟩
  refine m1 _ _ _ _ _ (fun σ' H' z => ?_) (h1 _ _ _ _ q)
  obtain ⟨z, l1, k1⟩ := z
  exact m2 _ _ _ _ _ (fun σ2 H2 y => ⟨y.1, y.2.1.trans l1, fun k hk => (y.2.2 k hk).trans (k1 k hk)⟩) (h2 _ _ _ _ z)
theorem gfr_tup {K : PySem.W.Frag} {m n : Nat} {t : TGs} (h : GsFr t n) : GFr (gTup K m t) n := fun x σ H Q ⟨a, xs, e, q, l, z⟩ => ⟨a, xs, e, q, l, h _ _ _ _ z⟩

/-- the turns of a comprehension over J, its list at D: W by the turn, a measure, the items so far -/
def compW (J : It) (g : TG) (tc : TT) (te : TE) (nT : Nat) (σ : St) (D : Addr) (Q : VK) (H : Hp) : Prop :=
  ∃ W : Nat → Nat → List V → Hp → Prop, (∃ m, W 0 m [] H) ∧ ∀ i m ys H2, W i m ys H2 →
    (J.stop i H2 ∧ Q (.ref D) H2) ∨ (J.go i H2 ∧ ∀ x H', J.yld i H2 x H' → g x (σ ++ List.replicate nT none) H' fun σ2 H3 => tc σ2 H3 fun b H4 =>
      if b = true then te σ2 H4 fun y H5 => H5 D = some (.lst ys) ∧ ys.length < sizeLine ∧ ∃ m', m' < m ∧ W (i + 1) m' (ys ++ [y]) (upd H5 D (.lst (ys ++ [y]))) else ∃ m', m' < m ∧ W (i + 1) m' ys H4)
def tComp (wi : TI) (g : TG) (tc : TT) (te : TE) (nT : Nat) : TE := fun σ H Q => wi σ H fun J H1 => ∀ D, H1 D = none → compW J g tc te nT σ D Q (upd H1 D (.lst []))

theorem HOk.sameBut {P : Program} {w : World} {H : Hp} {h h' : Heap} {C : Addr} (x : HOk P w H h) (hs : Heap.SameBut C h h') (hC : H C = none) : HOk P w H h' := fun a o e =>
  (x a o e).stay (fun b u hb q => (hs.2 b (by
    rintro rfl
    rcases hb with z | z
    · rw [z] at hC; rw [hC] at e; cases e
    · rw [hC] at z; cases z)).trans q) (fun _ q => q) fun _ _ q => q

section
variable {X : Cx} {N0 T : List Str} {scope : Scope} {tg elt iter : Expr} {ifs : List Expr} {pos : Pos} {wi : TI} {g : TG} {tc : TT} {te : TE}

theorem comp_core {pins : List (Addr × Obj)} {σ : St} {H : Hp} {s : Shared} {E : Value → Shared → Prop} {it : Addr} {fp : List Addr} {tn : Nat → Heap → Prop} {J : It} {Q : VK} {RR : Value → Addr → Result → Shared → Prop}
    (S : CompScope X N0 T scope) (hc : X.calm = true)
    (hg : ∀ C fp s H, PG (cxComp X N0 T scope C fp s H) tg g) (hfr : GFr g X.N.length) (hi : ∀ C fp s H, PIfs (cxComp X N0 T scope C fp s H) ifs tc) (he : ∀ C fp s H, PE (cxComp X N0 T scope C fp s H) elt te)
    (I : Inv X pins σ H s) (Tn : Turn X.prog X.w X.K tg J fp it tn) (st : tn 0 s.heap) (hf : ∀ b ∈ fp, FpOk X pins H b)
    (h : ∀ D, H D = none → compW J g tc te T.length σ D Q (upd H D (.lst [])))
    (hRR : ∀ D C s' H' m, s'.heap.Ns C m → H' C = none → C ≠ X.env.locals → (∀ x c, X.env.cells.lookup x = some c → c ≠ C) → (∀ p ∈ X.pn ++ pins, p.1 ≠ C) → X.s₀.heap.objs.size ≤ C → Inv X pins σ H' s' →
      (∀ h', Heap.SameBut C s'.heap h' → Inv X pins σ H' { s' with heap := h' }) → Q (.ref D) H' → RR (.ref D) C (.ok .next) s') :
    wpAny (model X.prog X.w) X.A (newList []) (fun acc s₃ => wpAny (model X.prog X.w) X.A (newFunctionEnv scope X.env.globals (closOf X.env.cells scope.names []) [] X.env.qual none .none (some X.env)) (fun cenv s₄ =>
      codeAny (model X.prog X.w) X.A (.compStart (.ListComp elt [⟨tg, iter, ifs, 0⟩] scope pos) 0 (.ref it) acc { cenv with scope := relabel scope X.env }) (RR acc cenv.locals) s₄) E s₃) E s := by
  refine wpAny_newObj_type (wpAny_newFunctionEnv S.nocell (by intro y hy; simp at hy) (fun h₁ hns₁ hsb₁ => ?_) S.kind)
  dsimp only at hns₁ hsb₁ ⊢
  generalize hH2 : s.heap.push { cls := .type "list", dict := none, data := .seq ([] : List Value).toArray } = P2 at hns₁ hsb₁ ⊢
  have hC : P2.objs.size = s.heap.objs.size + 1 := by rw [← hH2, Heap.size_push]
  -- the new list D, the block's names C
  obtain ⟨D, hD⟩ : ∃ D : Nat, D = s.heap.objs.size := ⟨_, rfl⟩
  obtain ⟨C, hCC⟩ : ∃ C : Nat, C = P2.objs.size := ⟨_, rfl⟩
  rw [← hCC] at hns₁ hsb₁ hC ⊢
  rw [← hD] at hC ⊢
  have hDC : D ≠ C := by omega
  have hDlt : D < C := by omega
  have neD : ∀ b o, s.heap.get? b = some o → b ≠ D := fun b o e => hD ▸ Nat.ne_of_lt (Heap.lt_size e)
  have neC : ∀ b o, s.heap.get? b = some o → b ≠ C := fun b o e => Nat.ne_of_lt (Nat.lt_trans (hD ▸ Heap.lt_size e) hDlt)
  have old : ∀ b o, s.heap.get? b = some o → h₁.get? b = some o := fun b o e => hsb₁.extBut b o (neC b o e) (Heap.get?_push_of_some _ (hH2 ▸ Heap.get?_push_of_some _ e))
  have hHD : H D = none := I.hok.fresh (by omega)
  have hHC : H C = none := I.hok.fresh (by omega)
  have dat : h₁.get? D = some { cls := .type "list", data := .seq ([] : List Value).toArray 0 } := by
    refine hsb₁.extBut _ _ hDC (Heap.get?_push_of_some _ ?_)
    rw [← hH2, hD]
    exact Heap.get?_push_size _ rfl
  -- the block's context stands
  have hcl : ∀ x c, (closOf X.env.cells scope.names []).lookup x = some c → X.env.cells.lookup x = some c := fun x c e =>
    closOf_some (fun y hy hk => I.ok.has y.1 (S.free y hy hk)) (fun y c z => by simp at z) e
  have okC : (cxComp X N0 T scope C fp s H).Ok := by
    refine ⟨I.ok.mod, ?_, I.ok.glob, I.ok.blt, ?_, fun x y c e1 e2 => I.ok.inj x y c (hcl x c e1) (hcl y c e2), fun x hx => ?_, fun x c z _ => (by cases z), I.ok.hd, I.ok.frames, .inl rfl, fun b hb => ⟨?_, fun x c e => (hf b hb).2.2.2.2.1 x c (hcl x c e)⟩,
      I.bs, ?_, fun b o e hb => ?_, fun b hb z => ?_, I.stack, I.stkFree⟩
    · show (relabel scope X.env).kind = .function
      exact S.kind
    · show s.heap.objs.size ≤ C
      omega
    · have hx' : (relabel scope X.env).names.lookup x = some .cell ∨ (relabel scope X.env).names.lookup x = some .free := hx
      have m : (x, NameKind.free) ∈ scope.names := by
        rcases hx' with z | z
        · exact relabel_free S.nocell z (.inl rfl)
        · exact relabel_free S.nocell z (.inr rfl)
      exact closOf_has m
    · show b ≠ C
      obtain ⟨o, e, _⟩ := Tn.obj 0 _ st b hb
      exact neC b o e
    · exact Nat.le_trans I.ok.bsz I.sz
    · obtain ⟨_, _, _, z, _⟩ := hf b hb
      rcases z with z | z
      · exact I.ok.noex b o e z
      · exact absurd (Nat.lt_of_lt_of_le (Nat.lt_of_lt_of_le (Heap.lt_size e) I.ok.bsz) z) (Nat.lt_irrefl _)
    · obtain ⟨_, z1, z2, _⟩ := hf b hb
      rcases List.mem_cons.mp (I.stkSub b z) with q | q
      · exact z1 q
      · exact z2 q
  have I1 : Inv (cxComp X N0 T scope C fp s H) [] (σ ++ List.replicate T.length none) (upd H D (.lst [])) { s with heap := h₁, toks := s.toks + ([] : List (Str × Value)).length } := by
    refine ⟨okC, rfl, I.bare, Un.laid (h := s.heap) old (by omega) hHD, ⟨_, hns₁, fun i x v e1 e2 e3 => ?_⟩, fun x c e => ?_, ?_, fun x c e => ?_, fun p hp => (by simp [cxComp] at hp), I.hok.laid old (by omega) ?_, ?_⟩
    · have e1' : (N0 ++ T)[i]? = some x := e1
      have hl := I.len
      have hl0 := S.len0
      have hi : i < σ.length := by
        rcases Nat.lt_or_ge i σ.length with z | z
        · exact z
        · rw [List.getElem?_append_right z] at e2
          rw [List.getElem?_replicate] at e2
          split at e2 <;> cases e2
      rw [List.getElem?_append_left hi] at e2
      rw [List.getElem?_append_left (by omega)] at e1'
      have hxN : x ∈ N0 := List.mem_of_getElem? e1'
      have e3' : (relabel scope X.env).names.lookup x = some .local ∨ (relabel scope X.env).names.lookup x = some .cell ∨ (relabel scope X.env).names.lookup x = some .free := e3
      have fr : (relabel scope X.env).names.lookup x = some .cell ∨ (relabel scope X.env).names.lookup x = some .free := by
        rcases e3' with z | z | z
        · exfalso
          -- a local of the block is no tracked name
          have key : ∀ (names : List (Str × NameKind)), (names.map fun (n, k) => if (k == NameKind.free && X.env.scope.kind == .function && X.env.kindOf n == some .cell) then (n, NameKind.cell) else (n, k)).lookup x = some .local → (x, NameKind.local) ∈ names := by
            intro names
            induction names with
            | nil => intro z; simp at z
            | cons y r ih =>
              obtain ⟨n, k⟩ := y
              intro z
              rw [List.map_cons] at z
              dsimp only at z
              by_cases hfk : (k == NameKind.free && X.env.scope.kind == .function && X.env.kindOf n == some .cell) = true
              · rw [if_pos hfk, List.lookup_cons] at z
                cases hx : (x == n) with
                | true => rw [hx] at z; cases z
                | false => rw [hx] at z; exact List.mem_cons_of_mem _ (ih z)
              · rw [if_neg hfk, List.lookup_cons] at z
                cases hx : (x == n) with
                | true =>
                  rw [hx] at z
                  have ek : k = .local := Option.some.inj z
                  have en : x = n := by simpa using hx
                  rw [ek, en]; exact List.mem_cons_self
                | false => rw [hx] at z; exact List.mem_cons_of_mem _ (ih z)
          exact S.apart (x, .local) (key _ z) rfl hxN
        · exact .inl z
        · exact .inr z
      have m : (x, NameKind.free) ∈ scope.names := by
        rcases fr with z | z
        · exact relabel_free S.nocell z (.inl rfl)
        · exact relabel_free S.nocell z (.inr rfl)
      have kX := S.free _ m rfl
      obtain ⟨mm, hn, hl'⟩ := I.loc
      obtain ⟨u, r, lk⟩ := hl' i x v (S.same i x _ e1' m) e2 (.inr kX)
      refine ⟨u, r, .inr ⟨fr, ?_⟩⟩
      rcases lk with ⟨z, _⟩ | ⟨_, c, ec, cc⟩
      · rcases kX with q | q
        · rw [q] at z; cases z
        · rw [q] at z; cases z
      · obtain ⟨c', ec'⟩ := closOf_has (cells := X.env.cells) (acc := []) m
        have := hcl x c' ec'
        rw [ec] at this; cases this
        exact ⟨c, ec', cc.keeps old⟩
    · obtain ⟨v, z⟩ := I.cell x c (hcl x c e)
      exact ⟨v, z.keeps old⟩
    · show upd H D (.lst []) C = none
      rw [upd_ne (Ne.symm hDC)]; exact hHC
    · have q := I.freeC x c (hcl x c e)
      obtain ⟨v, o, z, _⟩ := I.cell x c (hcl x c e)
      rw [upd_ne (neD c o z)]; exact q
    · exact ⟨Nat.zero_le _, [], 0, .nil, dat⟩
    · show (σ ++ List.replicate T.length none).length = (N0 ++ T).length
      rw [List.length_append, List.length_append, List.length_replicate, I.len, S.len0]
  have st1 : tn 0 h₁ := Tn.keep _ _ _ st fun b _ o e => old b o e
  have fp1 : ∀ {H' : Hp}, (∀ b ∈ fp, H' b = none) → ∀ b ∈ fp, FpOk (cxComp X N0 T scope C fp s H) [] H' b := fun hn b hb =>
    ⟨hn b hb, (okC.exf b hb).1, okC.exfs b hb, .inl hb, (okC.exf b hb).2, fun p hp => (by simp [cxComp] at hp)⟩
  have fp0 : ∀ b ∈ fp, upd H D (.lst []) b = none := fun b hb => by
    obtain ⟨o, e, _⟩ := Tn.obj 0 _ st b hb
    rw [upd_ne (neD b o e)]; exact (hf b hb).1
  obtain ⟨W, ⟨m0, w0⟩, turn⟩ := h D hHD
  have loop : ∀ s₃ : Shared, s₃ = { s with heap := h₁, toks := s.toks + ([] : List (Str × Value)).length } →
      codeAny (model X.prog X.w) X.A (.compLoop (.ListComp elt [⟨tg, iter, ifs, 0⟩] scope pos) 0 (.ref it) (.ref D) (compEnvC scope (closOf X.env.cells scope.names []) C X.env)) (RR (.ref D) C) s₃ := by
    rintro s₃ rfl
    refine codeAny_compLoop_go (fun n s' => ∃ i H' ys, Inv (cxComp X N0 T scope C fp s H) [] (σ ++ List.replicate T.length none) H' s' ∧ tn i s'.heap ∧ (∀ b ∈ fp, H' b = none) ∧ W i n ys H') ?_ m0 ⟨0, _, [], I1, st1, fp0, w0⟩
    rintro n s3 ⟨i, H3, ys, I3, st3, fr3, w3⟩
    rcases turn i n ys H3 w3 with ⟨stop, qn⟩ | ⟨go, step⟩
    · refine thn (Tn.done (cxComp X N0 T scope C fp s H) rfl rfl rfl hc i [] s3 _ H3 (fun _ _ => False) I3 (fp1 fr3) st3 stop) fun r s4 ⟨hr, I4⟩ => ?_
      subst hr
      obtain ⟨m, hm, _⟩ := I4.loc
      have hch : ∀ b ∈ fp, (b ∈ X.ex ∨ X.s₀.heap.objs.size ≤ b) ∧ b ≠ X.env.locals ∧ (∀ x c, X.env.cells.lookup x = some c → c ≠ b) ∧ ∀ p ∈ X.pn ++ pins, p.1 ≠ b := fun b hb =>
        ⟨(hf b hb).2.2.2.1, (hf b hb).2.1, (hf b hb).2.2.2.2.1, (hf b hb).2.2.2.2.2⟩
      have u4 : Un (frs X.stack) fp H H3 s.heap s4.heap := I4.base
      refine hRR D C s4 H3 m hm I4.free (Ne.symm (Nat.ne_of_lt (Nat.lt_trans (hD ▸ I.lt) hDlt))) (fun x c e => ?_) (fun p hp => ?_) (Nat.le_trans (hD ▸ I.sz) (Nat.le_of_lt hDlt)) (I.call' (ch := fp) I4.os u4 I4.hok I4.bare hch) (fun h' hs' => ?_) qn
      · obtain ⟨v, o, q, _⟩ := I.cell x c e
        exact neC c o q
      · exact neC _ _ (I.pin p hp).1
      · refine I.call' (ch := fp) (s' := { s4 with heap := h' }) I4.os ⟨fun b o q n' hb hx => (hs'.2 b (neC b o q)).trans (u4.keep b o q n' hb hx), fun b o q n' hb hx => ?_, u4.free, fun b o q hx => ?_, u4.tups, u4.frzs, u4.tbls⟩ (I4.hok.sameBut hs' I4.free) I4.bare hch
        · obtain ⟨sl, e⟩ := u4.slot b o q n' hb hx
          exact ⟨sl, (hs'.2 b (neC b o q)).trans e⟩
        · obtain ⟨o', e⟩ := u4.there b o q hx
          exact ⟨o', (hs'.2 b (neC b o q)).trans e⟩
    · refine thn (Tn.item (cxComp X N0 T scope C fp s H) rfl rfl rfl hc i [] s3 _ H3 (fun _ _ => False) I3 (fp1 fr3) st3 go) fun r s4 ⟨u, hr, h4⟩ => ?_
      subst hr
      refine thn h4 fun _ s5 ⟨x, H5, I5, r5, y5, st5, fr5⟩ => ?_
      have I5' := I5.pinned (fp1 fr5) (Tn.obj _ _ st5)
      refine thn (hg C fp s H _ s5 _ H5 x u _ I5' r5 (hfr _ _ _ _ (step x H5 y5))) fun _ s6 ⟨σ6, H6, I6, q6, l6, k6⟩ => ?_
      have back : ∀ {H7 : Hp} {s7 : Shared}, Inv (cxComp X N0 T scope C fp s H) ([] ++ pinsAt fp s5.heap) σ6 H7 s7 → (∀ {m' : Nat} {zs : List V}, m' < n → W (i + 1) m' zs H7 → ∃ m, m < n ∧ ∃ i H' ys, Inv (cxComp X N0 T scope C fp s H) [] (σ ++ List.replicate T.length none) H' s7 ∧ tn i s7.heap ∧ (∀ b ∈ fp, H' b = none) ∧ W i m ys H') := fun {H7 s7} I7 {m' zs} hm w7 => by
        refine ⟨m', hm, i + 1, H7, zs, I7.unpinned.weak (by rw [l6]) (fun j v e => ?_), Tn.keep _ _ _ st5 fun b hb o e => (I7.pin (b, o) (List.mem_append_right _ (List.mem_append_right _ (mem_pinsAt hb e)))).1, fun b hb => ?_, w7⟩
        · have hj : j < σ.length := by
            rcases Nat.lt_or_ge j σ.length with z | z
            · exact z
            · rw [List.getElem?_append_right z, List.getElem?_replicate] at e
              split at e <;> cases e
          rw [k6 j (by rw [← I.len]; exact hj)]
          exact e
        · obtain ⟨o, e, d⟩ := Tn.obj _ _ st5 b hb
          exact (I7.pin (b, o) (List.mem_append_right _ (List.mem_append_right _ (mem_pinsAt hb e)))).2.1
      refine thn (hi C fp s H _ s6 σ6 H6 _ I6 q6) fun b s7 ⟨H7, I7, q7⟩ => ?_
      cases b with
      | false =>
        obtain ⟨m', hm, w7⟩ := (show ∃ m', m' < n ∧ W (i + 1) m' ys H7 from by simpa using q7)
        exact back I7 hm w7
      | true =>
        rw [if_pos rfl] at q7
        refine thn (he C fp s H _ s7 σ6 H7 _ I7 q7) fun v s8 ⟨y, H8, I8, r8, hD8, hz, m', hm, w8⟩ => ?_
        refine thn (mt_append (X := cxComp X N0 T scope C fp s H) _ s8 σ6 H8 (.ref D) [y] (.ref D) [v] (fun _ H9 => H9 = upd H8 D (.lst (ys ++ [y]))) I8 rfl (.cons r8 .nil) ⟨D, ys, y, rfl, rfl, hD8, hz, rfl⟩) fun v9 s9 ⟨y9, H9, I9, _, e9⟩ => ?_
        subst e9
        exact back I9 hm w8
  exact codeAny_compStart_list (loop _ rfl) (Tn.self X.A 0 _ _ _ st1 (loop _ rfl))

/-- [elt for tg in iter] -/
theorem pe_comp (S : CompScope X N0 T scope) (hc : X.calm = true) (hI : PI X tg iter wi)
    (hg : ∀ C fp s H, PG (cxComp X N0 T scope C fp s H) tg g) (hfr : GFr g X.N.length) (hi : ∀ C fp s H, PIfs (cxComp X N0 T scope C fp s H) ifs tc) (he : ∀ C fp s H, PE (cxComp X N0 T scope C fp s H) elt te)
    (hs : ∀ x, foldedSetIterable iter X.env x = pure x := by intro _; rfl) : PE X (.ListComp elt [⟨tg, iter, ifs, 0⟩] scope pos) (tComp wi g tc te T.length) := by
  intro pins s σ H Q I h
  rw [eval_ListComp]
  refine wpAny_comprehension_free (use := none) rfl hs (closureFor_eq fun x hx hk => I.ok.has x.1 (S.free x hx hk)) S.kind S.names (thn (hI pins s σ H _ I h) fun v s1 h1 => thn h1 fun itv s2 h2 => ?_)
  obtain ⟨it, fp, tn, J, H2, e, I2, Tn, st2, f2, q2⟩ := h2
  subst e
  refine comp_core (RR := fun acc C => compPost (model X.prog X.w) X.A X.xe none (EP X pins σ Q) acc C) S hc hg hfr hi he I2 Tn st2 f2 q2 ?_
  intro D C s' H' m hn hC hL hcells hpins hfresh I' hI' q
  exact ⟨m, hn, fun h' hs' => ⟨.ref D, H', hI' h' hs', rfl, q⟩⟩

/-- x = [elt for tg in iter] -/
theorem ps_setcomp {i : Nat} {x : Str} {pos' spos : Pos} (S : CompScope X N0 T scope) (hc : X.calm = true) (hN : X.N.Nodup) (hi' : X.N[i]? = some x) (hx : X.env.scope.names.lookup x = some .local) (hI : PI X tg iter wi)
    (hg : ∀ C fp s H, PG (cxComp X N0 T scope C fp s H) tg g) (hfr : GFr g X.N.length) (hi : ∀ C fp s H, PIfs (cxComp X N0 T scope C fp s H) ifs tc) (he : ∀ C fp s H, PE (cxComp X N0 T scope C fp s H) elt te)
    (hsw : swapsWith (.ListComp elt [⟨tg, iter, ifs, 0⟩] scope pos) (some (.Name x pos')) spos.line X.env = pure true := by rfl)
    (hs : ∀ x, foldedSetIterable iter X.env x = pure x := by intro _; rfl) : PS X (.Assign [.Name x pos'] (.ListComp elt [⟨tg, iter, ifs, 0⟩] scope pos) spos) (tAsg (tComp wi g tc te T.length) (gName i)) := by
  intro pins s σ H D I h
  rw [exec_Assign_Name_used _ _ _ _ hsw]
  refine wpAny_bind (wpAny_standAt (wpAny_bind ?_))
  show wpAny _ X.A (do let _ ← comprehension (.ListComp elt [⟨tg, iter, ifs, 0⟩] scope pos) scope X.env _ (newList []) false (eval iter X.env) (some (assign (.Name x pos') X.env))) _ _ s
  refine wpAny_bind (wpAny_mono (wpAny_comprehension_free (use := some (assign (.Name x pos') X.env)) (Q := fun _ s' => SP X pins D .next s') rfl hs (closureFor_eq fun x hx hk => I.ok.has x.1 (S.free x hx hk)) S.kind S.names
    (thn (hI pins s σ H _ I h) fun v s1 h1 => thn h1 fun itv s2 h2 => ?_)) (fun _ s' hq => wpAny_pure (wpAny_pure hq)) fun _ _ e => e)
  obtain ⟨it, fp, tn, J, H2, e, I2, Tn, st2, f2, q2⟩ := h2
  subst e
  refine comp_core (RR := fun acc C => compPost (model X.prog X.w) X.A X.xe (some (assign (.Name x pos') X.env)) (fun _ s' => SP X pins D .next s') acc C) S hc hg hfr hi he I2 Tn st2 f2 q2 ?_
  intro L C s' H' m hn hC hL hcells hpins hfresh I' hI' q
  show wpAny _ X.A (assign (.Name x pos') X.env (.ref L)) _ _ _
  refine wpAny_assign_Name (store_ok2 (v := .ref L) I' hN hi' (.inl hx) rfl (fun s'' I'' ⟨a, hsa, ha⟩ => ?_) (.inr hx))
  have hCa : C ≠ a := by
    rintro rfl
    rcases ha with z | z
    · exact hL z
    · exact hcells x C z rfl
  refine ⟨m, hn.sameBut hsa hCa, fun h' hs' => ?_⟩
  exact ⟨σ.set i (some (.ref L)), H', I''.turned (t' := s''.toks) (fun b o hb e => (hs'.2 b hb).trans e) hC hL (.inr hfresh) hcells hpins, q⟩
end
end L2

set_option Elab.async false
set_option linter.all false
set_option maxRecDepth 100000
namespace L2
open PySem PySem.Spec PyProof.Rows

/-! ### items of a list of values, the other way about -/
theorem Vals.of : ∀ {xs : List V} {us : List Value} {i : Nat} {u : Value}, Vals xs us → us[i]? = some u → ∃ x, xs[i]? = some x ∧ RelV x u
  | _, _, 0, u, .cons r _, e => ⟨_, rfl, by simp at e; subst e; exact r⟩
  | _, _, i + 1, u, .cons _ rr, e => by
    obtain ⟨x, hx, r⟩ := Vals.of (i := i) rr (by simpa using e)
    exact ⟨x, by simpa using hx, r⟩
theorem vals_strs : ∀ {ss : List Str} {us : List Value}, Vals (ss.map V.str) us → StrsAre us ss
  | [], _, .nil => .nil
  | s :: ss, _, .cons r rr => by
    obtain ⟨t, rfl⟩ := r
    exact .cons s t (vals_strs rr)
theorem strs_vals : ∀ {us : List Value} {ss : List Str}, StrsAre us ss → Vals (ss.map V.str) us
  | _, _, .nil => .nil
  | _, _, .cons y t h => .cons ⟨t, rfl⟩ (strs_vals h)

/-! ### all, any of a list of bools -/
theorem range_any (bs : List Bool) : (List.range bs.length).any (fun i => bs.getD i false) = bs.any id := by
  rw [Bool.eq_iff_iff, List.any_eq_true, List.any_eq_true]
  constructor
  · rintro ⟨i, hi, h⟩
    have hi' := List.mem_range.mp hi
    rw [List.getD_eq_getElem?_getD, List.getElem?_eq_getElem hi'] at h
    exact ⟨_, List.getElem_mem hi', h⟩
  · rintro ⟨b, hb, h⟩
    obtain ⟨i, hi, rfl⟩ := List.mem_iff_getElem.mp hb
    refine ⟨i, List.mem_range.mpr hi, ?_⟩
    rw [List.getD_eq_getElem?_getD, List.getElem?_eq_getElem hi]
    exact h
theorem bools_at {bs : List Bool} {us : List Value} (r : Vals (bs.map V.bl) us) {i : Nat} {v : Value} (e : us.toArray[i]? = some v) : v = .bool (bs.getD i false) := by
  obtain ⟨x, hx, rx⟩ := r.of (i := i) (by simpa using e)
  rw [List.getElem?_map] at hx
  cases hb : bs[i]? with
  | none => rw [hb] at hx; cases hx
  | some b =>
    rw [hb] at hx
    have hx' : V.bl b = x := Option.some.inj hx
    subst hx'
    rw [List.getD_eq_getElem?_getD, hb]
    exact rx
section
variable {X : Cx}
def rAny (K : PySem.W.Frag) : List V → Hp → VK → Prop := fun xs H Q => ∃ (p : Addr) (bs : List Bool), xs = [.ref p] ∧ SqL K H p (bs.map V.bl) ∧ Q (.bl (bs.any id)) H
theorem rAny_at {K : PySem.W.Frag} {H : Hp} {Q : VK} (p : Addr) : rAny K [.ref p] H Q = ∃ bs : List Bool, SqL K H p (bs.map V.bl) ∧ Q (.bl (bs.any id)) H := propext ⟨fun ⟨_, bs, e, q⟩ => by cases e; exact ⟨bs, q⟩, fun ⟨bs, q⟩ => ⟨p, bs, rfl, q⟩⟩
theorem call_anyL (hc : X.calm = true) : CallR X (.builtin "any") (rAny X.K) := by
  intro pins s σ H xs us Q I r h
  obtain ⟨p, bs, rfl, hq, q⟩ := h
  obtain ⟨u, rfl, ru⟩ := vals1 r
  cases ru
  obtain ⟨its, rv, pl, hz⟩ := I.list hq
  have hlen : its.length = bs.length := by rw [← rv.length, List.length_map]
  refine call_any_walk (wpAny_pyIter_list pl.isList ?_)
  refine ⟨_, _, _, _, _, _, fun i => bs.getD i false, rfl, Walks.list (A := X.A.in1) (I.ok.hd hc) s.heap.objs.size p (Nat.ne_of_lt pl.lt) its.toArray, ⟨⟨_, Heap.get?_push_size _ rfl, rfl, rfl⟩, (pl.keeps fun b o e => Heap.get?_push_of_some _ e).isList⟩, ?_, fun h' tk hk => ?_⟩
  · intro i v s' Q' E' hP hQ
    rw [bools_at rv hP]
    exact wpAny_truthy_bool hQ
  · refine ⟨.bl (bs.any id), H, I.kept (t' := tk) fun b o e => hk b o (fun z => ?_) (Heap.get?_push_of_some _ e), ?_, q⟩
    · exact Nat.ne_of_lt (Heap.lt_size e) (by simpa using z)
    · have e : (List.range its.toArray.size).any (fun i => bs.getD i false) = bs.any id := by rw [List.size_toArray, hlen, range_any]
      show Value.bool ((List.range its.toArray.size).any fun i => bs.getD i false) = Value.bool (bs.any id)
      rw [e]

/-! ### isinstance -/
/-- the built-in type that a value is of -/
def tyName (H : Hp) : V → Option String
  | .non => some "NoneType"
  | .bl _ => some "bool"
  | .int _ => some "int"
  | .str _ => some "str"
  | .ref a => match H a with
    | some (.lst _) => some "list"
    | some (.frz _ (.lst _)) => some "list"
    | some (.tup _) => some "tuple"
    | some (.dK _) => some "dict"
    | some (.dT _) => some "dict"
    | _ => none
  | _ => none
theorem tyOf_name {K : PySem.W.Frag} {H : Hp} : ∀ {x : V} {T : String}, tyName H x = some T → TyOf K H x (.type T)
  | .non, T, h => by cases h; exact .non
  | .bl b, T, h => by cases h; exact .bl b
  | .int i, T, h => by cases h; exact .int i
  | .str y, T, h => by cases h; exact .str y
  | .byt _, T, h => by cases h
  | .flt _, T, h => by cases h
  | .ty _, T, h => by cases h
  | .ref a, T, h => by
    cases e : H a with
    | none => simp [tyName, e] at h
    | some o =>
      cases o with
      | lst xs => simp [tyName, e] at h; subst h; exact .lst e
      | tup xs => simp [tyName, e] at h; subst h; exact .tup e
      | dK xs => simp [tyName, e] at h; subst h; exact .dK e
      | dT xs => simp [tyName, e] at h; subst h; exact .dT e
      | frz ob u =>
        cases u with
        | lst xs => simp [tyName, e] at h; subst h; exact .frz e
        | _ => simp [tyName, e] at h
      | _ => simp [tyName, e] at h
def isT (T C : String) : Bool := T == C || (T == "bool" && C == "int")
theorem kit_name (K : PySem.W.Frag) {T C : String} (hT : T ∈ ["NoneType", "bool", "int", "str", "list", "tuple", "dict"]) (hC : C ∈ ["bool", "int", "str", "list", "tuple"]) : PySem.W.kitOne K (.type T) (.type C) = some (isT T C) := by
  simp only [List.mem_cons, List.mem_nil_iff, or_false] at hT hC
  rcases hT with rfl | rfl | rfl | rfl | rfl | rfl | rfl <;> rcases hC with rfl | rfl | rfl | rfl | rfl <;> (with_unfolding_all rfl)
theorem tyName_mem {H : Hp} {x : V} {T : String} (h : tyName H x = some T) : T ∈ ["NoneType", "bool", "int", "str", "list", "tuple", "dict"] := by
  cases x with
  | ref a =>
    cases e : H a with
    | none => simp [tyName, e] at h
    | some o =>
      cases o with
      | frz ob u => cases u <;> simp [tyName, e] at h <;> subst h <;> decide
      | _ => simp [tyName, e] at h <;> subst h <;> decide
  | _ => first | (cases h; decide) | cases h
def rIsT : List V → Hp → VK → Prop := fun xs H Q => ∃ (x : V) (T C : String), xs = [x, .ty C] ∧ tyName H x = some T ∧ C ∈ ["bool", "int", "str", "list", "tuple"] ∧ Q (.bl (isT T C)) H
theorem rIsT_at {H : Hp} {Q : VK} (x : V) (C : String) : rIsT [x, .ty C] H Q = ∃ T, tyName H x = some T ∧ C ∈ ["bool", "int", "str", "list", "tuple"] ∧ Q (.bl (isT T C)) H :=
  propext ⟨fun ⟨_, T, _, e, q⟩ => by cases e; exact ⟨T, q⟩, fun ⟨T, q⟩ => ⟨x, T, C, rfl, q⟩⟩
theorem call_isT : CallR X (.builtin "isinstance") rIsT := by
  intro pins s σ H xs us Q I r h
  obtain ⟨x, T, C, rfl, hT, hC, q⟩ := h
  obtain ⟨u, w', rfl, ru, rw'⟩ := vals2 r
  cases rw'
  exact isinst_ok I ru (tyOf_name hT) (kit_name X.K (tyName_mem hT) hC) fun tk => ⟨.bl (isT T C), H, I.tok tk, rfl, q⟩

/-! ### sep.join(texts) -/
/-! ### a loop over a text's signs -/
end

/-! ### the turns of a comprehension, of a loop, over what is walked -/
/-- a for's turns -/
def forW (J : It) (g : TG) (tb : TS) (D : Ends) (σ : St) (H : Hp) : Prop := ∃ W : Nat → Nat → St → Hp → Prop, (∃ m, W 0 m σ H) ∧ ∀ i m σ H, W i m σ H →
  (J.stop i H ∧ D.nx σ H) ∨ (J.go i H ∧ ∃ N : St → Hp → Prop, (∀ σ' H', N σ' H' → ∃ m', m' < m ∧ W (i + 1) m' σ' H') ∧ ∀ x H', J.yld i H x H' → g x σ H' fun σ2 H2 => tb { D with nx := N, ct := N, bk := D.nx } σ2 H2)
theorem tFor_at (wi : TI) (g : TG) (tb : TS) (D : Ends) (σ : St) (H : Hp) : tFor wi g tb D σ H = wi σ H fun J H1 => forW J g tb D σ H1 := rfl
/-- n turns; what is yielded at the i-th by this heap -/
theorem forW_by {J : It} {g : TG} {tb : TS} {D : Ends} {σ : St} {H : Hp} (n : Nat) (Pv : Nat → St → Hp → Prop) (h0 : Pv 0 σ H) (hgo : ∀ i σ H, i < n → Pv i σ H → J.go i H) (hst : ∀ σ H, Pv n σ H → J.stop n H)
    (hs : ∀ i σ H x H', i < n → Pv i σ H → J.yld i H x H' → g x σ H' fun σ2 H2 => tb { D with nx := Pv (i + 1), ct := Pv (i + 1), bk := D.nx } σ2 H2) (hd : ∀ σ H, Pv n σ H → D.nx σ H) : forW J g tb D σ H := by
  refine ⟨fun i m σ H => m = n - i ∧ i ≤ n ∧ Pv i σ H, ⟨n, by simp, Nat.zero_le _, h0⟩, ?_⟩
  rintro i m σ H ⟨rfl, hi, p⟩
  by_cases hlt : i < n
  · exact .inr ⟨hgo i σ H hlt p, Pv (i + 1), fun σ' H' p' => ⟨n - (i + 1), by omega, rfl, hlt, p'⟩, fun x H' y => hs i σ H x H' hlt p y⟩
  · have e : i = n := by omega
    subst e
    exact .inl ⟨hst σ H p, hd σ H p⟩
theorem forW_list {K : PySem.W.Frag} {a : Addr} {xs : List V} {g : TG} {tb : TS} {D : Ends} {σ : St} {H : Hp} (Pv : Nat → St → Hp → Prop) (h0 : Pv 0 σ H) (hl : ∀ i σ H, i ≤ xs.length → Pv i σ H → SqL K H a xs)
    (hs : ∀ i x σ H, xs[i]? = some x → Pv i σ H → g x σ H fun σ2 H2 => tb { D with nx := Pv (i + 1), ct := Pv (i + 1), bk := D.nx } σ2 H2) (hd : ∀ σ H, Pv xs.length σ H → D.nx σ H) : forW (Itl K a) g tb D σ H :=
  for_list Pv h0 hl hs hd
theorem forW_range {lo : Int} {n : Nat} {g : TG} {tb : TS} {D : Ends} {σ : St} {H : Hp} (Pv : Nat → St → Hp → Prop) (h0 : Pv 0 σ H)
    (hs : ∀ i σ H, i < n → Pv i σ H → g (.int (lo + i)) σ H fun σ2 H2 => tb { D with nx := Pv (i + 1), ct := Pv (i + 1), bk := D.nx } σ2 H2) (hd : ∀ σ H, Pv n σ H → D.nx σ H) : forW (Itr lo n) g tb D σ H :=
  for_range Pv h0 hs hd
/-- behind the i-th item y of n: it goes onto the list at D -/
def CStep (n i : Nat) (Pv : Nat → List V → Hp → Prop) (D : Addr) (ys : List V) (y : V) (H : Hp) : Prop :=
  H D = some (.lst ys) ∧ ys.length < sizeLine ∧ ∃ m', m' < n - i ∧ (m' = n - (i + 1) ∧ i + 1 ≤ n ∧ Pv (i + 1) (ys ++ [y]) (upd H D (.lst (ys ++ [y]))))
theorem cstep {n i : Nat} {Pv : Nat → List V → Hp → Prop} {D : Addr} {ys : List V} {y : V} {H : Hp} (hi : i < n) (hlen : ys.length = i) (hz : n ≤ sizeLine) (h1 : H D = some (.lst ys)) (h2 : Pv (i + 1) (ys ++ [y]) (upd H D (.lst (ys ++ [y])))) : CStep n i Pv D ys y H :=
  ⟨h1, by omega, n - (i + 1), by omega, rfl, hi, h2⟩
def compK (n i : Nat) (Pv : Nat → List V → Hp → Prop) (D : Addr) (ys : List V) (te : TE) (σ : St) (H : Hp) : Prop :=
  if true = true then te σ H (CStep n i Pv D ys) else ∃ m', m' < n - i ∧ (m' = n - (i + 1) ∧ i + 1 ≤ n ∧ Pv (i + 1) ys H)
theorem compK_at {n i : Nat} {Pv : Nat → List V → Hp → Prop} {D : Addr} {ys : List V} {te : TE} {σ : St} {H : Hp} : compK n i Pv D ys te σ H = te σ H (CStep n i Pv D ys) := by
  unfold compK; rw [if_pos rfl]
/-- a comprehension without a test: n turns -/
theorem compW_by {J : It} {g : TG} {te : TE} {nT : Nat} {σ : St} {D : Addr} {Q : VK} {H : Hp} (n : Nat) (Pv : Nat → List V → Hp → Prop) (h0 : Pv 0 [] H) (hgo : ∀ i ys H, i < n → Pv i ys H → J.go i H) (hst : ∀ ys H, Pv n ys H → J.stop n H)
    (hs : ∀ i ys H x H', i < n → Pv i ys H → J.yld i H x H' → g x (σ ++ List.replicate nT none) H' (compK n i Pv D ys te))
    (hd : ∀ ys H, Pv n ys H → Q (.ref D) H) : compW J g tYes te nT σ D Q H := by
  refine ⟨fun i m ys H => m = n - i ∧ i ≤ n ∧ Pv i ys H, ⟨n, by simp, Nat.zero_le _, h0⟩, ?_⟩
  rintro i m ys H ⟨rfl, hi, p⟩
  by_cases hlt : i < n
  · exact .inr ⟨hgo i ys H hlt p, fun x H' y => hs i ys H x H' hlt p y⟩
  · have e : i = n := by omega
    subst e
    exact .inl ⟨hst ys H p, hd ys H p⟩
theorem compW_list {K : PySem.W.Frag} {a : Addr} {xs : List V} {g : TG} {te : TE} {nT : Nat} {σ : St} {D : Addr} {Q : VK} {H : Hp} (Pv : Nat → List V → Hp → Prop) (h0 : Pv 0 [] H) (hl : ∀ i ys H, i ≤ xs.length → Pv i ys H → SqL K H a xs)
    (hs : ∀ i ys H x, xs[i]? = some x → i < xs.length → Pv i ys H → g x (σ ++ List.replicate nT none) H (compK xs.length i Pv D ys te))
    (hd : ∀ ys H, Pv xs.length ys H → Q (.ref D) H) : compW (Itl K a) g tYes te nT σ D Q H := by
  refine compW_by xs.length Pv h0 (fun i ys H hi p => ⟨xs, xs[i], hl i ys H (Nat.le_of_lt hi) p, by simp [hi]⟩) (fun ys H p => ⟨xs, hl _ ys H (Nat.le_refl _) p, Nat.le_refl _⟩) (fun i ys H x H' hi p yl => ?_) hd
  obtain ⟨rfl, y⟩ := yl
  exact hs i ys _ x (y xs (hl i ys _ (Nat.le_of_lt hi) p)) hi p
theorem compW_range {lo : Int} {n : Nat} {g : TG} {te : TE} {nT : Nat} {σ : St} {D : Addr} {Q : VK} {H : Hp} (Pv : Nat → List V → Hp → Prop) (h0 : Pv 0 [] H)
    (hs : ∀ i ys H, i < n → Pv i ys H → g (.int (lo + i)) (σ ++ List.replicate nT none) H (compK n i Pv D ys te))
    (hd : ∀ ys H, Pv n ys H → Q (.ref D) H) : compW (Itr lo n) g tYes te nT σ D Q H := by
  refine compW_by n Pv h0 (fun i ys H hi p => hi) (fun ys H p => Nat.le_refl _) (fun i ys H x H' hi p yl => ?_) hd
  obtain ⟨rfl, rfl⟩ := yl
  exact hs i ys _ hi p
end L2

set_option Elab.async false
set_option linter.all false
set_option maxRecDepth 100000
namespace L2
open PySem PySem.Spec PyProof.Rows

/-! ### readings, applied -/
/-- the rest of a block, not yet read -/
def Rest (u : TS) (D : Ends) (σ : St) (H : Hp) : Prop := u D σ H
section
variable {D : Ends} {σ : St} {H : Hp} {Q : VK} {B : Bool → Hp → Prop} {L : List V → Hp → Prop} {R : It → Hp → Prop} {G : St → Hp → Prop}
theorem tSeq_at (t u : TS) : tSeq t u D σ H = t { D with nx := Rest u D } σ H := rfl
theorem rest_at (u : TS) : Rest u D σ H = u D σ H := rfl
theorem tNext_at : tNext D σ H = D.nx σ H := rfl
theorem tIfS_at (c : TT) (t u : TS) : tIfS c t u D σ H = c σ H fun b H1 => if b = true then t D σ H1 else u D σ H1 := rfl
theorem tRet_at (t : TE) : tRet t D σ H = t σ H D.rt := rfl
theorem tDrop_at (t : TE) : tDrop t D σ H = t σ H fun _ H1 => D.nx σ H1 := rfl
theorem tAsg_at (t : TE) (g : TG) : tAsg t g D σ H = t σ H fun x H1 => g x σ H1 D.nx := rfl
theorem gName_at (i : Nat) (v : V) : gName i v σ H G = G (σ.set i (some v)) H := rfl
theorem gNil_at (vs : List V) : gNil vs σ H G = (vs = [] ∧ G σ H) := rfl
theorem gCons_at (t : TG) (u : TGs) (vs : List V) : gCons t u vs σ H G = ∃ v r, vs = v :: r ∧ t v σ H fun σ' H' => u r σ' H' G := rfl
theorem gTup_at (K : PySem.W.Frag) (n : Nat) (t : TGs) (v : V) : gTup K n t v σ H G = ∃ a xs, v = .ref a ∧ SqT K H a xs ∧ xs.length = n ∧ t xs σ H G := rfl
theorem gSub_at (to ti : TE) (t : TSet) (v : V) : gSub to ti t v σ H G = to σ H fun o H1 => ti σ H1 fun i H2 => t o i v H2 fun H3 => G σ H3 := rfl
theorem tVar_at (i : Nat) : tVar i σ H Q = ∃ v, σ[i]? = some (some v) ∧ Q v H := rfl
theorem tC_at (v : V) : tC v σ H Q = Q v H := rfl
theorem tOp_at (r : R2) (ta tb : TE) : tOp r ta tb σ H Q = ta σ H fun x H1 => tb σ H1 fun y H2 => r x y H2 Q := rfl
theorem tTest_at (t : TE) : tTest t σ H B = t σ H fun x H' => ∃ k, x = .bl k ∧ B k H' := rfl
theorem tB_at (t : TE) : tB t σ H B = t σ H fun x H' => ∃ k, x = .bl k ∧ B k H' := rfl
theorem tAnd_at (t u : TT) : tAnd t u σ H B = t σ H fun c H1 => if c = true then u σ H1 B else B false H1 := rfl
theorem tOr_at (t u : TT) : tOr t u σ H B = t σ H fun c H1 => if c = true then B true H1 else u σ H1 B := rfl
theorem tNot_at (t : TT) : tNot t σ H B = t σ H fun c H1 => B (!c) H1 := rfl
theorem tAndV_at (ta tb : TE) : tAndV ta tb σ H Q = ta σ H fun x H1 => ∃ c, x = .bl c ∧ if c = true then tb σ H1 Q else Q (.bl false) H1 := rfl
theorem tNotV_at (ta : TE) : tNotV ta σ H Q = ta σ H fun x H1 => ∃ c, x = .bl c ∧ Q (.bl (!c)) H1 := rfl
theorem tIf_at (t : TT) (ta tb : TE) : tIf t ta tb σ H Q = t σ H fun c H1 => if c = true then ta σ H1 Q else tb σ H1 Q := rfl
theorem tCB_at (r : List V → Hp → VK → Prop) (t : TA) : tCB r t σ H Q = t σ H fun vs H1 => r vs H1 Q := rfl
theorem tCons_at (ta : TE) (tr : TA) : tCons ta tr σ H L = ta σ H fun x H1 => tr σ H1 fun xs H2 => L (x :: xs) H2 := rfl
theorem tNil_at : tNil σ H L = L [] H := rfl
theorem tTup_at (t : TA) : tTup t σ H Q = t σ H fun xs H1 => xs.length ≤ sizeLine ∧ ∀ p, H1 p = none → Q (.ref p) (upd H1 p (.tup xs)) := rfl
theorem tLst_at (t : TA) : tLst t σ H Q = t σ H fun xs H1 => xs.length ≤ sizeLine ∧ ∀ p, H1 p = none → Q (.ref p) (upd H1 p (.lst xs)) := rfl
theorem tCall_at (sp : Sp) (dvs : List V) (E : XK) (t : TA) : tCall sp dvs E t σ H Q = t σ H fun vs H1 => sp (vs ++ dvs) H1 Q E := rfl
theorem tBM_at (K : PySem.W.Frag) (T : String) (r : V → List V → Hp → VK → Prop) (to : TE) (t : TA) : tBM K T r to t σ H Q = to σ H fun x H1 => tyV K T x H1 ∧ t σ H1 fun xs H2 => r x xs H2 Q := rfl
theorem tComp_at (wi : TI) (g : TG) (tc : TT) (te : TE) (nT : Nat) : tComp wi g tc te nT σ H Q = wi σ H fun J H1 => ∀ D, H1 D = none → compW J g tc te nT σ D Q (upd H1 D (.lst [])) := rfl
theorem tYes_at : tYes σ H B = B true H := rfl
theorem iList_at (K : PySem.W.Frag) (tl : TE) : iList K tl σ H R = tl σ H fun x H1 => ∃ a, x = .ref a ∧ (∃ xs, SqL K H1 a xs) ∧ R (Itl K a) H1 := rfl
theorem iRng1_at (ta : TA) : iRng1 ta σ H R = ta σ H fun vs H1 => ∃ j : Int, vs = [.int j] ∧ -(2 ^ 62) ≤ j ∧ j < 2 ^ 62 ∧ R (Itr 0 j.toNat) H1 := rfl
theorem rI0_at (g : Int → Int → V) (i j : Int) : rI0 g (.int i) (.int j) H Q = Q (g i j) H := propext ⟨fun ⟨_, _, e1, e2, q⟩ => by cases e1; cases e2; exact q, fun q => ⟨i, j, rfl, rfl, q⟩⟩
theorem rI_at (C : Int → Int → Prop) (g : Int → Int → V) (i j : Int) : rI C g (.int i) (.int j) H Q = (C i j ∧ Q (g i j) H) := propext ⟨fun ⟨_, _, e1, e2, q⟩ => by cases e1; cases e2; exact q, fun q => ⟨i, j, rfl, rfl, q⟩⟩
end

/-! ### a def of the text that may be called; a name that the module binds -/
structure DefAt (K : PySem.W.Frag) (mg : Str → Option Value) (x : Str) (st : Stmt) : Prop where
  ex : ∃ f fd, Fun K x x st f fd ∧ mg x = some (.ref f)
structure Cal (P : Program) (w : World) (K : PySem.W.Frag) (mg : Str → Option Value) (base : Heap) (k : Nat) (x : Str) (ps : List Str) (sp : Sp) : Prop where
  ex : ∃ f fd, FnOk P w K mg base CX0 k f fd ps sp ∧ Binds K fd ps [] ∧ PySem.W.keepIn K (.ref f) = true ∧ mg x = some (.ref f)
section
variable {P : Program} {w : World} {K : PySem.W.Frag} {mg : Str → Option Value} {base : Heap}
theorem DefAt.cal {x : Str} {st : Stmt} {N ps : List Str} {k : Nat} {sp : Sp} (D : DefAt K mg x st) (S : FnScope N ps (defScope st))
    (hb : ∀ (kV doc pm : Value) (an : Option Addr) (cdv ct : Value) (us : List Value), us.length = ps.length → bindArgs (PySem.W.fnOf x x (defArgs st) (defBody st) (defScope st) .none kV doc pm an cdv ct) ⟨us, []⟩ = pure (ps.zip us))
    (len : ∀ vs H Q E, sp vs H Q E → vs.length = ps.length)
    (hbody : ∀ (f : Addr) (cdv : Value) (A : Around) (outer : List Env) (s : Shared) (H : Hp) (vs : List V) (Q : VK) (E : XK), Room k (A.deeper (envOfC x (defScope st) s.heap.objs.size f cdv)) → sp vs H Q E →
      ∃ t, PSs (cxOf CX0 P w K mg base N x (defScope st) f cdv A outer s H E).nox (defBody st) t ∧ t { nx := fun _ H' => Q .non H', rt := Q } (start N vs) H) : Cal P w K mg base (k + 1) x ps sp := by
  obtain ⟨f, fd, F, m⟩ := D.ex
  exact ⟨f, fd, F.ok S len fun cdv A outer s H vs Q E hr h => hbody f cdv A outer s H vs Q E hr h, F.binds hb, F.kp, m⟩
end
section
variable {X : Cx}
theorem pe_cal {j k : Nat} {x : Str} {ps : List Str} {sp : Sp} {p pos : Pos} {e : Expr} {es : List Expr} {t : TA} (c : Cal X.prog X.w X.K X.mg X.base j x ps sp) (hr : Room k X.A) (ha : PA X (e :: es) t) (hle : j ≤ k := by decide) (hg : Gl X x := by rfl)
    (hdb : (x == ("__debug__" : Str)) = false := by decide) (he : starEach (e :: es) X.env = (false, eval e X.env) :: starEach es X.env := by rfl) (hpl : (backTo pos (starEach es X.env)).any (·.1) = false := by rfl) :
    PE X (.Call (.Name x p) (e :: es) [] pos) (tCall sp [] E0 t) := by
  obtain ⟨f, fd, F, b, kp, m⟩ := c.ex
  exact pe_call F (hr.mono hle) hg m kp b .nil pass0 ha hdb he hpl
/-- a built-in type's name as a value -/
theorem pe_gty {x : Str} {T : String} {pos : Pos} (hm : X.mg x = none) (hv : bootBuiltins x = some (.type T)) (hg : Gl X x := by rfl) (hn : x ≠ "__name__" := by decide) (hd : (x == ("__debug__" : Str)) = false := by decide) : PE X (.Name x pos) (tC (.ty T)) :=
  pe_bltn hg hm hv rfl hn hd
/-- a call of a built-in -/
theorem pe_blt {x : Str} {p pos : Pos} {e : Expr} {es : List Expr} {t : TA} {id : String} {r : List V → Hp → VK → Prop} (hc : CallR X (.builtin id) r) (hm : X.mg x = none) (hv : bootBuiltins x = some (.builtin id)) (ha : PA X (e :: es) t) (hg : Gl X x := by rfl)
    (hn : x ≠ "__name__" := by decide) (hdb : (x == ("__debug__" : Str)) = false := by decide) (he : starEach (e :: es) X.env = (false, eval e X.env) :: starEach es X.env := by rfl) (hpl : (backTo pos (starEach es X.env)).any (·.1) = false := by rfl) :
    PE X (.Call (.Name x p) (e :: es) [] pos) (tCB r t) := pe_callB hc hg hm hv ha hn hdb he hpl
theorem pe_bty {x : Str} {p pos : Pos} {e : Expr} {es : List Expr} {t : TA} {T : String} {r : List V → Hp → VK → Prop} (hc : CallR X (.type T) r) (hm : X.mg x = none) (hv : bootBuiltins x = some (.type T)) (ha : PA X (e :: es) t) (hg : Gl X x := by rfl)
    (hn : x ≠ "__name__" := by decide) (hdb : (x == ("__debug__" : Str)) = false := by decide) (he : starEach (e :: es) X.env = (false, eval e X.env) :: starEach es X.env := by rfl) (hpl : (backTo pos (starEach es X.env)).any (·.1) = false := by rfl) :
    PE X (.Call (.Name x p) (e :: es) [] pos) (tCB r t) := pe_callTy hc hg hm hv ha hn hdb he hpl
end

/-! ### operations by the values' kinds -/
section
variable {X : Cx}
def rAddA : R2 := fun x y H Q => match x, y with
  | .int i, .int j => Q (.int (i + j)) H
  | .str a, .str b => a.length + b.length ≤ sizeLine ∧ Q (.str (a ++ b)) H
  | .ref l, .ref b => ∃ xs zs, H l = some (.lst xs) ∧ H b = some (.lst zs) ∧ xs.length + zs.length ≤ sizeLine ∧ ∀ p, H p = none → Q (.ref p) (upd H p (.lst (xs ++ zs)))
  | _, _ => False
theorem op_addA : OpR X (binaryOp .Add) rAddA := by
  intro pins s σ H x y v u Q I rx ry h
  cases x <;> cases y <;> first
    | exact (show False from h).elim
    | exact op_add pins s σ H _ _ v u Q I rx ry ⟨_, _, rfl, rfl, h⟩
    | exact op_add_str pins s σ H _ _ v u Q I rx ry ⟨_, _, rfl, rfl, h⟩
    | (obtain ⟨xs, zs, h1, h2, h3, h4⟩ := h; exact op_cat pins s σ H _ _ v u Q I rx ry ⟨_, _, xs, zs, rfl, rfl, h1, h2, h3, h4⟩)
def rLtA : R2 := fun x y H Q => match x, y with
  | .int i, .int j => Q (.bl (decide (i < j))) H
  | .str i, .str j => Q (.bl (decide (i.cps.toList < j.cps.toList))) H
  | _, _ => False
theorem op_ltA : OpR X (compareOp .Lt) rLtA := by
  intro pins s σ H x y v u Q I rx ry h
  cases x <;> cases y <;> first
    | exact (show False from h).elim
    | exact op_lt pins s σ H _ _ v u Q I rx ry ⟨_, _, rfl, rfl, h⟩
    | exact op_lt_str pins s σ H _ _ v u Q I rx ry ⟨_, _, rfl, rfl, h⟩
def rLenA (K : PySem.W.Frag) : List V → Hp → VK → Prop := fun xs H Q => match xs with
  | [.str z] => z.length ≤ sizeLine ∧ Q (.int z.length) H
  | [.ref p] => ∃ ys, (SqL K H p ys ∨ SqT K H p ys) ∧ Q (.int ys.length) H
  | _ => False
theorem call_lenA : CallR X (.builtin "len") (rLenA X.K) := by
  intro pins s σ H xs us Q I r h
  match xs, h with
  | [.str z], h => exact call_len_str pins s σ H _ us Q I r ⟨z, rfl, h⟩
  | [.ref p], h => obtain ⟨ys, h1, h2⟩ := h; exact call_len_seq pins s σ H _ us Q I r ⟨p, ys, rfl, h1, h2⟩
/-- a[b], a a list, a tuple or a text -/
def rIxA (K : PySem.W.Frag) : R2 := fun x y H Q => match x, y with
  | .ref p, .int i => ∃ xs v, (SqL K H p xs ∨ SqT K H p xs) ∧ atI xs i = some v ∧ Q v H
  | .str z, .int i => ∃ c, z.length ≤ sizeLine ∧ atI z.cps.toList i = some c ∧ Q (.str ⟨#[c]⟩) H
  | _, _ => False
theorem ix_A : IxR X (rIxA X.K) := by
  intro value slice pins s σ H x y v u Q I rx ry h hs
  refine ix_seq value slice pins s σ H x y v u Q I rx ry ?_ hs
  match x, y, h with
  | .ref p, .int i, h =>
    obtain ⟨xs, v', h1, h2, h3⟩ := h
    rcases h1 with h1 | h1
    · exact .inl ⟨p, xs, i, v', rfl, rfl, h1, h2, h3⟩
    · exact .inr (.inl ⟨p, xs, i, v', rfl, rfl, h1, h2, h3⟩)
  | .str z, .int i, h =>
    obtain ⟨c, h1, h2, h3⟩ := h
    exact .inr (.inr ⟨z, i, c, rfl, rfl, h1, h2, h3⟩)
end
section
variable {K : PySem.W.Frag} {H : Hp} {Q : VK}
theorem rAddA_int (i j : Int) : rAddA (.int i) (.int j) H Q = Q (.int (i + j)) H := rfl
theorem rAddA_str (a b : Str) : rAddA (.str a) (.str b) H Q = (a.length + b.length ≤ sizeLine ∧ Q (.str (a ++ b)) H) := rfl
theorem rAddA_ref (l b : Addr) : rAddA (.ref l) (.ref b) H Q = ∃ xs zs, H l = some (.lst xs) ∧ H b = some (.lst zs) ∧ xs.length + zs.length ≤ sizeLine ∧ ∀ p, H p = none → Q (.ref p) (upd H p (.lst (xs ++ zs))) := rfl
theorem rLtA_int (i j : Int) : rLtA (.int i) (.int j) H Q = Q (.bl (decide (i < j))) H := rfl
theorem rLtA_str (i j : Str) : rLtA (.str i) (.str j) H Q = Q (.bl (decide (i.cps.toList < j.cps.toList))) H := rfl
theorem rLenA_str (z : Str) : rLenA K [.str z] H Q = (z.length ≤ sizeLine ∧ Q (.int z.length) H) := rfl
theorem rLenA_ref (p : Addr) : rLenA K [.ref p] H Q = ∃ ys, (SqL K H p ys ∨ SqT K H p ys) ∧ Q (.int ys.length) H := rfl
theorem rIxA_ref (p : Addr) (i : Int) : rIxA K (.ref p) (.int i) H Q = ∃ xs v, (SqL K H p xs ∨ SqT K H p xs) ∧ atI xs i = some v ∧ Q v H := rfl
theorem rIxA_str (z : Str) (i : Int) : rIxA K (.str z) (.int i) H Q = ∃ c, z.length ≤ sizeLine ∧ atI z.cps.toList i = some c ∧ Q (.str ⟨#[c]⟩) H := rfl
theorem rSetL_at (p : Addr) (k : Int) (v : V) (G : Hp → Prop) : rSetL (.ref p) (.int k) v H G = ∃ xs j, H p = some (.lst xs) ∧ ixN xs.length k = some j ∧ G (upd H p (.lst (xs.set j v))) :=
  propext ⟨fun ⟨_, xs, _, j, e1, e2, q⟩ => by cases e1; cases e2; exact ⟨xs, j, q⟩, fun ⟨xs, j, q⟩ => ⟨p, xs, k, j, rfl, rfl, q⟩⟩
theorem rAppend_at (p : Addr) (y : V) : rAppend (.ref p) [y] H Q = ∃ xs, H p = some (.lst xs) ∧ xs.length < sizeLine ∧ Q .non (upd H p (.lst (xs ++ [y]))) :=
  propext ⟨fun ⟨_, xs, _, e1, e2, q⟩ => by cases e1; cases e2; exact ⟨xs, q⟩, fun ⟨xs, q⟩ => ⟨p, xs, y, rfl, rfl, q⟩⟩
theorem tyV_str (y : Str) : tyV K "str" (.str y) H = True := eq_true rfl
theorem tyV_lst (p : Addr) : (tyV K "list" (.ref p) H) = ∃ xs, SqL K H p xs := by
  refine propext ⟨fun h => ?_, fun h => .inl ⟨rfl, h⟩⟩
  rcases h with ⟨_, h⟩ | ⟨h, _⟩ | ⟨h, _⟩ | ⟨h, _⟩
  · exact h
  · exact absurd h (by decide)
  · exact absurd h (by decide)
  · exact absurd h (by decide)
end
theorem bt_len : bootBuiltins "len" = some (.builtin "len") := by decide +kernel
theorem bt_isinstance : bootBuiltins "isinstance" = some (.builtin "isinstance") := by decide +kernel
theorem bt_any : bootBuiltins "any" = some (.builtin "any") := by decide +kernel
theorem bt_min : bootBuiltins "min" = some (.builtin "min") := by decide +kernel
theorem bt_sorted : bootBuiltins "sorted" = some (.builtin "sorted") := by decide +kernel
theorem bt_str : bootBuiltins "str" = some (.type "str") := by decide +kernel
theorem bt_int : bootBuiltins "int" = some (.type "int") := by decide +kernel
theorem bt_bool : bootBuiltins "bool" = some (.type "bool") := by decide +kernel
theorem bt_list : bootBuiltins "list" = some (.type "list") := by decide +kernel
theorem bt_tuple : bootBuiltins "tuple" = some (.type "tuple") := by decide +kernel
/-- name = value -/
theorem ps_let {X : Cx} (i : Nat) {x : Str} {e : Expr} {te : TE} {pos pos' : Pos} (hN : X.N.Nodup) (he : PE X e te) (hi : X.N[i]? = some x := by rfl) (hx : Loc X.env.scope x := by first | exact Or.inl rfl | exact Or.inr rfl) (hs : swapsWith e (some (.Name x pos')) pos.line X.env = pure false := by rfl)
    (hf : X.fn x = true ∨ X.env.scope.names.lookup x = some .local := by first | exact .inl rfl | exact .inr rfl | assumption) : PS X (.Assign [.Name x pos'] e pos) (tAsg te (gName i)) := ps_set hN hi hx he hs hf
theorem pg_let {X : Cx} (i : Nat) {x : Str} {pos : Pos} (hN : X.N.Nodup) (hi : X.N[i]? = some x := by rfl) (hx : Loc X.env.scope x := by first | exact Or.inl rfl | exact Or.inr rfl)
    (hf : X.fn x = true ∨ X.env.scope.names.lookup x = some .local := by first | exact .inl rfl | exact .inr rfl | assumption) : PG X (.Name x pos) (gName i) := pg_name hN hi hx hf
/-- what the scope of a block must be, by closed parts -/
structure CompSc (fsc : Scope) (N N0 T : List Str) (scope : Scope) : Prop where
  kind : scope.kind = .function
  nocell : ∀ y ∈ scope.names, y.2 ≠ .cell
  names : ∀ y ∈ scope.names, y.2 = .local → scope.names.lookup y.1 = some .local
  free : ∀ y ∈ scope.names, y.2 = .free → fsc.names.lookup y.1 = some .cell ∨ fsc.names.lookup y.1 = some .free
  apart : ∀ y ∈ scope.names, y.2 = .local → y.1 ∉ N0
  len0 : N0.length = N.length
  same : ((N0.zip N).all fun p => p.1 == p.2 || !(scope.names.any fun y => y.1 == p.1)) = true
theorem CompSc.to {X : Cx} {fsc : Scope} {N N0 T : List Str} {scope : Scope} (S : CompSc fsc N N0 T scope) (h1 : X.env.scope = fsc) (h2 : X.N = N) : CompScope X N0 T scope := by
  subst h1 h2
  refine ⟨S.kind, S.nocell, S.names, S.free, S.apart, S.len0, fun i x k e m => ?_⟩
  have hl := S.len0
  have hi : i < N0.length := (List.getElem?_eq_some_iff.mp e).1
  have hN : X.N[i]? = some X.N[i] := List.getElem?_eq_getElem (by omega)
  have hz : (x, X.N[i]) ∈ N0.zip X.N := List.mem_of_getElem? (i := i) (by rw [List.getElem?_zip_eq_some]; exact ⟨e, hN⟩)
  have q := List.all_eq_true.mp S.same _ hz
  simp only [Bool.or_eq_true, beq_iff_eq, Bool.not_eq_true'] at q
  rcases q with q | q
  · rw [hN, ← q]
  · have : (scope.names.any fun y => y.1 == x) = true := List.any_eq_true.mpr ⟨_, m, by simp⟩
    rw [this] at q; cases q
/-! ### == of scalars (deep: elsewhere) -/
def rEqA : R2 := rEq
def rNeA : R2 := rNe
theorem op_eqA {X : Cx} : OpR X (compareOp .Eq) rEqA := op_eq
theorem op_neA {X : Cx} : OpR X (compareOp .NotEq) rNeA := op_ne
section
variable {K : PySem.W.Frag} {H : Hp} {Q : VK}
theorem rEqA_int (i j : Int) : rEqA (.int i) (.int j) H Q = Q (.bl (decide (i = j))) H := by
  have e : decide (V.int i = V.int j) = decide (i = j) := by by_cases h : i = j <;> simp [h]
  show (scal (.int i) (.int j) = true ∧ Q (.bl (decide (V.int i = V.int j))) H) = _
  rw [e]; exact propext ⟨fun h => h.2, fun h => ⟨rfl, h⟩⟩
theorem rEqA_bl (i j : Bool) : rEqA (.bl i) (.bl j) H Q = Q (.bl (i == j)) H := by
  show (scal (.bl i) (.bl j) = true ∧ Q (.bl (decide (V.bl i = V.bl j))) H) = _
  rw [dec_bl]; exact propext ⟨fun h => h.2, fun h => ⟨rfl, h⟩⟩
theorem rEqA_str (i j : Str) : rEqA (.str i) (.str j) H Q = Q (.bl (decide (i = j))) H := by
  have e : decide (V.str i = V.str j) = decide (i = j) := by by_cases h : i = j <;> simp [h]
  show (scal (.str i) (.str j) = true ∧ Q (.bl (decide (V.str i = V.str j))) H) = _
  rw [e]; exact propext ⟨fun h => h.2, fun h => ⟨rfl, h⟩⟩
theorem rNeA_int (i j : Int) : rNeA (.int i) (.int j) H Q = Q (.bl (!decide (i = j))) H := by
  have e : decide (V.int i = V.int j) = decide (i = j) := by by_cases h : i = j <;> simp [h]
  show (scal (.int i) (.int j) = true ∧ Q (.bl (!decide (V.int i = V.int j))) H) = _
  rw [e]; exact propext ⟨fun h => h.2, fun h => ⟨rfl, h⟩⟩
theorem rNeA_str (i j : Str) : rNeA (.str i) (.str j) H Q = Q (.bl (!decide (i = j))) H := by
  have e : decide (V.str i = V.str j) = decide (i = j) := by by_cases h : i = j <;> simp [h]
  show (scal (.str i) (.str j) = true ∧ Q (.bl (!decide (V.str i = V.str j))) H) = _
  rw [e]; exact propext ⟨fun h => h.2, fun h => ⟨rfl, h⟩⟩
end
theorem set_A {X : Cx} : PSet X rSetL := set_list
/-! ### the same rules with the text's part K named (inside a comprehension the context is a letter) -/
section
variable {X : Cx} (K : PySem.W.Frag)
theorem call_lenK (hK : X.K = K := by rfl) : CallR X (.builtin "len") (rLenA K) := hK ▸ call_lenA
theorem ix_K (hK : X.K = K := by rfl) : IxR X (rIxA K) := hK ▸ ix_A
theorem call_anyK (hK : X.K = K := by rfl) (hc : X.calm = true := by rfl) : CallR X (.builtin "any") (rAny K) := hK ▸ call_anyL hc
theorem pi_listK {tg l : Expr} {tl : TE} (hl : PE X l tl) (hK : X.K = K := by rfl) : PI X tg l (iList K tl) := hK ▸ pi_list hl
theorem pg_tupK {es : List Expr} {k n : Nat} {t : TGs} {pos : Pos} (h : PGs X es t) (hn : (assignEach es X.env).length = n := by rfl) (hst : (assignEach es X.env).findIdx? (·.1) = none := by rfl) (hK : X.K = K := by rfl) (hc : X.calm = true := by rfl) : PG X (.Tuple es k pos) (gTup K n t) := hK ▸ pg_tup hc h hn hst
theorem pe_bmK {o e : Expr} {es : List Expr} {to : TE} {t : TA} {name : Str} {apos cpos : Pos} {T id : String} {r : V → List V → Hp → VK → Prop} (pa : PlainAttrs T) (slot : Slot T name id) (hty : typeOf (.builtin id) = pure (.type "method_descriptor")) (hm : MtR X id r) (ho : PE X o to) (ha : PA X (e :: es) t)
    (hbase : attributeBase o name X.env (eval o X.env) = eval o X.env := by rfl)
    (hfew : ((backTo cpos (starEach (e :: es) X.env)).all (fun x => !x.1) && (backToKw cpos (keywordEach [] X.env)).all (fun x => x.1.isSome) && decide ((e :: es).length + ([] : List Keyword).length + (if ([] : List Keyword).isEmpty then 0 else 1) < 30)) = true := by rfl)
    (hline : (apos.endLine == cpos.line) = true := by rfl) (hs : starEach (e :: es) X.env = (false, eval e X.env) :: starEach es X.env := by rfl) (hplain : (backTo cpos (starEach es X.env)).any (·.1) = false := by rfl) (hK : X.K = K := by rfl) :
    PE X (.Call (.Attribute o name apos) (e :: es) [] cpos) (tBM K T r to t) := hK ▸ pe_bm pa slot hty hm ho ha hbase hfew hline hs hplain
theorem call_listK (hK : X.K = K := by rfl) : CallR X (.type "list") (fun xs H Q => ∃ p ys, xs = [.ref p] ∧ (SqL K H p ys ∨ SqT K H p ys) ∧ ∀ l, H l = none → Q (.ref l) (upd H l (.lst ys))) := hK ▸ call_list_of
theorem call_tupleK (hK : X.K = K := by rfl) : CallR X (.type "tuple") (fun xs H Q => ∃ p ys, xs = [.ref p] ∧ ((SqL K H p ys ∧ ∀ l, H l = none → Q (.ref l) (upd H l (.tup ys))) ∨ (SqT K H p ys ∧ Q (.ref p) H))) := hK ▸ call_tuple_of
end
theorem ex_one (n : Int) (P : Int → Prop) : (∃ j, [V.int n] = [V.int j] ∧ P j) = P n := propext ⟨fun ⟨_, e, h⟩ => by cases e; exact h, fun h => ⟨n, rfl, h⟩⟩
theorem ex_two (n m : Int) (P : Int → Int → Prop) : (∃ i j, [V.int n, V.int m] = [V.int i, V.int j] ∧ P i j) = P n m := propext ⟨fun ⟨_, _, e, h⟩ => by cases e; exact h, fun h => ⟨n, m, rfl, h⟩⟩
theorem ex_cons (x : V) (xs : List V) (P : V → List V → Prop) : (∃ v r, x :: xs = v :: r ∧ P v r) = P x xs := propext ⟨fun ⟨_, _, e, h⟩ => by cases e; exact h, fun h => ⟨x, xs, rfl, h⟩⟩
theorem ex_nil (P : Prop) : (([] : List V) = [] ∧ P) = P := propext ⟨fun h => h.2, fun h => ⟨rfl, h⟩⟩
/-! ### names of a block, by closed parts -/
def relabelS (scope fsc : Scope) : Scope := { scope with names := scope.names.map fun (n, k) => if (k == .free && fsc.kind == .function && fsc.names.lookup n == some .cell) then (n, .cell) else (n, k) }
section
variable {X : Cx} {N0 T : List Str} {scope : Scope} {C : Addr} {fp : List Addr} {s : Shared} {H : Hp} {x : Str}
theorem glC (fsc : Scope) (h : (relabelS scope fsc).names.lookup x = some .globalImplicit) (e : X.env.scope = fsc := by rfl) : Gl (cxComp X N0 T scope C fp s H) x := by subst e; exact h
theorem visC (fsc : Scope) (h : ((relabelS scope fsc).names.lookup x = some .local || (relabelS scope fsc).names.lookup x = some .cell || (relabelS scope fsc).names.lookup x = some .free) = true) (e : X.env.scope = fsc := by rfl) : Vis (cxComp X N0 T scope C fp s H).env.scope x := by
  subst e
  simp only [Bool.or_eq_true, decide_eq_true_eq] at h
  rcases h with (h | h) | h
  · exact .inl h
  · exact .inr (.inl h)
  · exact .inr (.inr h)
theorem locC (fsc : Scope) (h : (relabelS scope fsc).names.lookup x = some .local) (e : X.env.scope = fsc := by rfl) : Loc (cxComp X N0 T scope C fp s H).env.scope x := by subst e; exact .inl h
theorem fnC (fsc : Scope) (h : (relabelS scope fsc).names.lookup x = some .local) (e : X.env.scope = fsc := by rfl) : (cxComp X N0 T scope C fp s H).fn x = true ∨ (cxComp X N0 T scope C fp s H).env.scope.names.lookup x = some .local := by subst e; exact .inr h
end
theorem mt_appendA {X : Cx} : MtR X "list.append" rAppend := mt_append
theorem PW.pt' {X : Cx} {e : Expr} {t : TT} (h : PW X e t) : PT X e t := h.pt
/-- a block by what holds between two of its statements -/
theorem seq_by {t u : TS} {D : Ends} {σ : St} {H : Hp} (I : St → Hp → Prop) (h : ∀ k : St → Hp → Prop, (∀ σ' H', I σ' H' → k σ' H') → t { D with nx := k } σ H) (hu : ∀ σ' H', I σ' H' → Rest u D σ' H') : Rest (tSeq t u) D σ H := h _ hu
theorem tDisp_at {σ : St} {H : Hp} {Q : VK} (trs : List (TE × TE)) : tDisp trs σ H Q = ∀ p, H p = none → tPairs trs σ (upd H p (.dK [])) fun ps H2 => H2 p = some (.dK []) ∧ ∃ kvs : List (Key × V), ps = kvs.map (fun kv => (kV kv.1, kv.2)) ∧ kvs.length ≤ 15 ∧ Q (.ref p) (upd H2 p (.dK (mergeK [] kvs))) := rfl
theorem tPairs_nil {σ : St} {H : Hp} {Q : List (V × V) → Hp → Prop} : tPairs [] σ H Q = Q [] H := rfl
theorem tPairs_cons {σ : St} {H : Hp} {Q : List (V × V) → Hp → Prop} (tk tv : TE) (r : List (TE × TE)) : tPairs ((tk, tv) :: r) σ H Q = tk σ H fun x H1 => tv σ H1 fun y H2 => tPairs r σ H2 fun ps H3 => Q ((x, y) :: ps) H3 := rfl
theorem Same.upd {H H' : Hp} {p : Addr} (sm : Same H H') (h : H p = none) (o : HO) : Same H (upd H' p o) := fun b u q => by rw [upd_ne (ne_of_none q h)]; exact sm b u q
theorem fresh_upd {H : Hp} {p q : Addr} {o : HO} (h : upd H p o q = none) : q ≠ p ∧ H q = none := by
  by_cases e : q = p
  · rw [e, upd_same] at h; cases h
  · rw [upd_ne e] at h; exact ⟨e, h⟩
theorem same_new {H : Hp} {p : Addr} (h : H p = none) (o : HO) : Same H (upd H p o) := fun b u q => by rw [upd_ne (ne_of_none q h)]; exact q
end L2

set_option Elab.async false
set_option linter.all false
set_option maxRecDepth 100000
namespace L2
open PySem PySem.Spec PyProof.Rows PySem.SeqAt

/-! ### == of lists and tuples, as deep as n -/
def EqN (K : PySem.W.Frag) (H : Hp) : Nat → V → V → Bool → Prop
  | 0, x, y, b => flatV x = true ∧ flatV y = true ∧ b = eqV x y
  | n + 1, x, y, b => (flatV x = true ∧ flatV y = true ∧ b = eqV x y) ∨ ∃ a c xs ys, x = .ref a ∧ y = .ref c ∧ ((SqL K H a xs ∧ SqL K H c ys) ∨ (SqT K H a xs ∧ SqT K H c ys)) ∧
      ((∃ e : Nat → Bool, xs.length = ys.length ∧ (∀ (i : Nat) x y, xs[i]? = some x → ys[i]? = some y → EqN K H n x y (e i)) ∧ b = (List.range xs.length).all e) ∨
        (SqL K H a xs ∧ SqL K H c ys ∧ xs.length ≠ ys.length ∧ b = false))
theorem eqV_self : ∀ {x : V}, flatV x = true → eqV x x = true
  | .non, _ => rfl
  | .bl b, _ => by simp [eqV]
  | .int i, _ => by simp [eqV]
  | .str y, _ => by simp [eqV]
section
variable {X : Cx} {pins : List (Addr × Obj)} {σ : St} {H : Hp} {s : Shared}
theorem EqN.self (I : Inv X pins σ H s) : ∀ {n : Nat} {x : V} {b : Bool}, EqN X.K H n x x b → b = true
  | 0, x, b, h => by obtain ⟨h1, _, rfl⟩ := h; exact eqV_self h1
  | n + 1, x, b, h => by
    rcases h with ⟨h1, _, rfl⟩ | ⟨a, c, xs, ys, rfl, e, hq, h⟩
    · exact eqV_self h1
    · cases e
      have exy : xs = ys := by
        rcases hq with ⟨q1, q2⟩ | ⟨q1, q2⟩
        · exact I.list_inj q1 q2
        · exact I.tuple_inj q1 q2
      subst exy
      rcases h with ⟨e, _, he, rfl⟩ | ⟨_, _, z, _⟩
      · rw [List.all_eq_true]
        intro i hi
        have hi' := List.mem_range.mp hi
        have q := he i xs[i] xs[i] (List.getElem?_eq_getElem hi') (List.getElem?_eq_getElem hi')
        exact EqN.self I q
      · exact absurd rfl z
theorem EqN.rc (I : Inv X pins σ H s) {n : Nat} (ih : ∀ {A : Around} {x y : V} {b : Bool} {u v : Value}, A.units + n < cLine → EqN X.K H n x y b → RelV x u → RelV y v → EqAt A s u v b)
    {A : Around} {a c : Addr} {xs ys : List V} {b : Bool} (hu : A.units + (n + 1) < cLine) (hq : (SqL X.K H a xs ∧ SqL X.K H c ys) ∨ (SqT X.K H a xs ∧ SqT X.K H c ys))
    (h : (∃ e : Nat → Bool, xs.length = ys.length ∧ (∀ (i : Nat) x y, xs[i]? = some x → ys[i]? = some y → EqN X.K H n x y (e i)) ∧ b = (List.range xs.length).all e) ∨ (SqL X.K H a xs ∧ SqL X.K H c ys ∧ xs.length ≠ ys.length ∧ b = false)) :
    RcAt A s (.ref a) (.ref c) b ∧ RcNeAt A s (.ref a) (.ref c) (!b) := by
  have hin : A.in1.units + n < cLine := by
    have : A.in1.units = A.units + 1 := rfl
    omega
  rcases h with ⟨e, hl, he, rfl⟩ | ⟨q1, q2, hl, rfl⟩
  · rcases hq with ⟨q1, q2⟩ | ⟨q1, q2⟩
    · obtain ⟨i1, r1, p1, z1⟩ := I.list q1
      obtain ⟨i2, r2, p2, z2⟩ := I.list q2
      have l1 := r1.length
      have l2 := r2.length
      have hit : ∀ j (h1 : j < i1.toArray.size) (h2 : j < i2.toArray.size), EqAt A.in1 s i1.toArray[j] i2.toArray[j] (e j) := fun j h1 h2 => by
        obtain ⟨x, hx, rx⟩ := r1.of (i := j) (u := i1.toArray[j]) (by simp at h1 ⊢)
        obtain ⟨y, hy, ry⟩ := r2.of (i := j) (u := i2.toArray[j]) (by simp at h2 ⊢)
        exact ih hin (he j x y hx hy) rx ry
      have ez : xs.length = i1.toArray.size := by simp; omega
      rw [ez]
      exact ⟨RcAt.lists p1.isList p2.isList (by simp; omega) (by omega) hit, RcNeAt.lists p1.isList p2.isList (by simp; omega) (by omega) hit⟩
    · obtain ⟨i1, r1, p1, z1⟩ := I.tuple q1
      obtain ⟨i2, r2, p2, z2⟩ := I.tuple q2
      have l1 := r1.length
      have l2 := r2.length
      have hit : ∀ j (h1 : j < i1.toArray.size) (h2 : j < i2.toArray.size), EqAt A.in1 s i1.toArray[j] i2.toArray[j] (e j) := fun j h1 h2 => by
        obtain ⟨x, hx, rx⟩ := r1.of (i := j) (u := i1.toArray[j]) (by simp at h1 ⊢)
        obtain ⟨y, hy, ry⟩ := r2.of (i := j) (u := i2.toArray[j]) (by simp at h2 ⊢)
        exact ih hin (he j x y hx hy) rx ry
      have ez : (List.range xs.length).all e = ((List.range (min i1.toArray.size i2.toArray.size)).all e && i1.toArray.size == i2.toArray.size) := by
        have e1 : i1.toArray.size = xs.length := by simp; omega
        have e2 : i2.toArray.size = xs.length := by simp; omega
        rw [e1, e2, Nat.min_self]; simp
      rw [ez]
      exact ⟨RcAt.tuples (show s.heap.IsTuple a i1.toArray from p1) (show s.heap.IsTuple c i2.toArray from p2) (by omega) hit, RcNeAt.tuples (show s.heap.IsTuple a i1.toArray from p1) (show s.heap.IsTuple c i2.toArray from p2) (by omega) hit⟩
  · obtain ⟨i1, r1, p1, z1⟩ := I.list q1
    obtain ⟨i2, r2, p2, z2⟩ := I.list q2
    have l1 := r1.length
    have l2 := r2.length
    have hne : (i1.toArray.size != i2.toArray.size) = true := by
      rw [bne_iff_ne]; simp; omega
    exact ⟨RcAt.lists_lengths p1.isList p2.isList hne (by omega), RcNeAt.lists_lengths p1.isList p2.isList hne (by omega)⟩
theorem EqN.at (I : Inv X pins σ H s) : ∀ {n : Nat} {A : Around} {x y : V} {b : Bool} {u v : Value}, A.units + n < cLine → EqN X.K H n x y b → RelV x u → RelV y v → EqAt A s u v b
  | 0, A, x, y, b, u, v, _, h, rx, ry => by obtain ⟨h1, h2, rfl⟩ := h; exact eqAt_V rx ry h1 h2
  | n + 1, A, x, y, b, u, v, hu, h, rx, ry => by
    have h0 := h
    rcases h with ⟨h1, h2, rfl⟩ | ⟨a, c, xs, ys, rfl, rfl, hq, h⟩
    · exact eqAt_V rx ry h1 h2
    · cases rx
      cases ry
      by_cases hac : a = c
      · subst hac
        rw [EqN.self I h0]
        exact EqAt.same _
      · exact EqAt.of_refs hac (EqN.rc I (fun hu' q rx ry => EqN.at I hu' q rx ry) hu hq h).1
end
section
variable {X : Cx}
def rEqD (K : PySem.W.Frag) : R2 := fun x y H Q => ∃ (a c : Addr) (n : Nat) (b : Bool), x = .ref a ∧ y = .ref c ∧ n ≤ 100 ∧ EqN K H (n + 1) x y b ∧ Q (.bl b) H
def rNeD (K : PySem.W.Frag) : R2 := fun x y H Q => ∃ (a c : Addr) (n : Nat) (b : Bool), x = .ref a ∧ y = .ref c ∧ n ≤ 100 ∧ EqN K H (n + 1) x y b ∧ Q (.bl (!b)) H
theorem op_eqD (hu : X.A.units + 101 < cLine) : OpR X (compareOp .Eq) (rEqD X.K) := by
  intro pins s σ H x y v u Q I rx ry h
  obtain ⟨a, c, n, b, rfl, rfl, hn, he, q⟩ := h
  cases rx
  cases ry
  rcases he with ⟨h1, _⟩ | ⟨a', c', xs, ys, e1, e2, hq, h⟩
  · cases h1
  · cases e1
    cases e2
    exact (EqN.rc I (fun hu' q rx ry => EqN.at I hu' q rx ry) (by omega) hq h).1 _ _ _ _ ⟨.bl b, H, I, rfl, q⟩
theorem op_neD (hu : X.A.units + 101 < cLine) : OpR X (compareOp .NotEq) (rNeD X.K) := by
  intro pins s σ H x y v u Q I rx ry h
  obtain ⟨a, c, n, b, rfl, rfl, hn, he, q⟩ := h
  cases rx
  cases ry
  rcases he with ⟨h1, _⟩ | ⟨a', c', xs, ys, e1, e2, hq, h⟩
  · cases h1
  · cases e1
    cases e2
    exact (EqN.rc I (fun hu' q rx ry => EqN.at I hu' q rx ry) (by omega) hq h).2 _ _ _ _ ⟨.bl (!b), H, I, rfl, q⟩
theorem op_eqKD (K : PySem.W.Frag) {k : Nat} (hr : Room k X.A) (hK : X.K = K := by rfl) : OpR X (compareOp .Eq) (rEqD K) := by subst hK; exact op_eqD (by have := hr.un; omega)
theorem op_neKD (K : PySem.W.Frag) {k : Nat} (hr : Room k X.A) (hK : X.K = K := by rfl) : OpR X (compareOp .NotEq) (rNeD K) := by subst hK; exact op_neD (by have := hr.un; omega)
end
section
variable {K : PySem.W.Frag} {H : Hp} {Q : VK}
theorem rEqD_at (a c : Addr) : rEqD K (.ref a) (.ref c) H Q = ∃ (n : Nat) (b : Bool), n ≤ 100 ∧ EqN K H (n + 1) (.ref a) (.ref c) b ∧ Q (.bl b) H :=
  propext ⟨fun ⟨_, _, n, b, e1, e2, q⟩ => ⟨n, b, q⟩, fun ⟨n, b, q⟩ => ⟨a, c, n, b, rfl, rfl, q⟩⟩
theorem rNeD_at (a c : Addr) : rNeD K (.ref a) (.ref c) H Q = ∃ (n : Nat) (b : Bool), n ≤ 100 ∧ EqN K H (n + 1) (.ref a) (.ref c) b ∧ Q (.bl (!b)) H :=
  propext ⟨fun ⟨_, _, n, b, e1, e2, q⟩ => ⟨n, b, q⟩, fun ⟨n, b, q⟩ => ⟨a, c, n, b, rfl, rfl, q⟩⟩
theorem EqN.flat {n : Nat} {x y : V} (hx : flatV x = true) (hy : flatV y = true) : EqN K H n x y (eqV x y) := by
  cases n with
  | zero => exact ⟨hx, hy, rfl⟩
  | succ n => exact .inl ⟨hx, hy, rfl⟩
theorem EqN.refl {n : Nat} {x : V} (hx : flatV x = true) : EqN K H n x x true := by
  have q : EqN K H n x x (eqV x x) := EqN.flat hx hx
  rwa [eqV_self hx] at q
/-- two lists (tuples) whose items are equal -/
theorem EqN.seq {n : Nat} {a c : Addr} {xs ys : List V} (hq : (SqL K H a xs ∧ SqL K H c ys) ∨ (SqT K H a xs ∧ SqT K H c ys)) (hl : xs.length = ys.length) (he : ∀ (i : Nat) x y, xs[i]? = some x → ys[i]? = some y → EqN K H n x y true) : EqN K H (n + 1) (.ref a) (.ref c) true :=
  .inr ⟨a, c, xs, ys, rfl, rfl, hq, .inl ⟨fun _ => true, hl, he, by simp⟩⟩
theorem EqN.seqFlat {n : Nat} {a c : Addr} {xs : List V} (hq : (SqL K H a xs ∧ SqL K H c xs) ∨ (SqT K H a xs ∧ SqT K H c xs)) (hf : ∀ x ∈ xs, flatV x = true) : EqN K H (n + 1) (.ref a) (.ref c) true :=
  EqN.seq hq rfl fun i x y e1 e2 => by
    rw [e1] at e2; cases e2
    exact EqN.refl (hf x (List.mem_of_getElem? e1))
theorem EqN.strs {n : Nat} {a c : Addr} {ss ts : List Str} (h1 : SqL K H a (ss.map V.str)) (h2 : SqL K H c (ts.map V.str)) : EqN K H (n + 1) (.ref a) (.ref c) (decide (ss = ts)) := by
  refine .inr ⟨a, c, _, _, rfl, rfl, .inl ⟨h1, h2⟩, ?_⟩
  by_cases hl : ss.length = ts.length
  · refine .inl ⟨fun i => ss.getD i default == ts.getD i default, by simp [hl], fun i x y e1 e2 => ?_, ?_⟩
    · rw [List.getElem?_map] at e1 e2
      cases q1 : ss[i]? with
      | none => rw [q1] at e1; cases e1
      | some u =>
        cases q2 : ts[i]? with
        | none => rw [q2] at e2; cases e2
        | some v =>
          rw [q1] at e1; rw [q2] at e2
          cases e1; cases e2
          dsimp only
          rw [List.getD_eq_getElem?_getD, List.getD_eq_getElem?_getD, q1, q2]
          exact EqN.flat rfl rfl
    · rw [List.length_map]
      by_cases e : ss = ts
      · subst e
        rw [decide_eq_true rfl]
        symm
        rw [List.all_eq_true]
        intro i _
        simp
      · rw [decide_eq_false e]
        symm
        rw [List.all_eq_false]
        have : ∃ i : Nat, ss[i]? ≠ ts[i]? := by
          refine Classical.byContradiction fun hn => e (List.ext_getElem? fun i => ?_)
          exact Classical.byContradiction fun h => hn ⟨i, h⟩
        obtain ⟨i, hi⟩ := this
        have hlt : i < ss.length := by
          refine Classical.byContradiction fun hn => hi ?_
          rw [List.getElem?_eq_none (by omega), List.getElem?_eq_none (by omega)]
        refine ⟨i, List.mem_range.mpr hlt, ?_⟩
        rw [List.getD_eq_getElem?_getD, List.getD_eq_getElem?_getD, List.getElem?_eq_getElem hlt, List.getElem?_eq_getElem (by omega)]
        rw [List.getElem?_eq_getElem hlt, List.getElem?_eq_getElem (by omega)] at hi
        simpa using hi
  · have e : ss ≠ ts := fun e => hl (by rw [e])
    rw [decide_eq_false e]
    exact .inr ⟨h1, h2, by simpa using hl, rfl⟩
end

/-! ### sorted texts -/
section
variable {X : Cx}
def rSortS (K : PySem.W.Frag) : List V → Hp → VK → Prop := fun xs H Q => ∃ (p : Addr) (ss : List Str), xs = [.ref p] ∧ SqL K H p (ss.map V.str) ∧ ss.length < 64 ∧ ∀ (l : Addr) (ts : List Str), H l = none → ts.Perm ss → sortedS ts = true → Q (.ref l) (upd H l (.lst (ts.map V.str)))
theorem rSortS_at {K : PySem.W.Frag} {H : Hp} {Q : VK} (p : Addr) : rSortS K [.ref p] H Q = ∃ ss : List Str, SqL K H p (ss.map V.str) ∧ ss.length < 64 ∧ ∀ (l : Addr) (ts : List Str), H l = none → ts.Perm ss → sortedS ts = true → Q (.ref l) (upd H l (.lst (ts.map V.str))) :=
  propext ⟨fun ⟨_, ss, e, q⟩ => by cases e; exact ⟨ss, q⟩, fun ⟨ss, q⟩ => ⟨p, ss, rfl, q⟩⟩
theorem call_sortS (K : PySem.W.Frag) (hK : X.K = K := by rfl) : CallR X (.builtin "sorted") (rSortS K) := by
  subst hK
  intro pins s σ H xs us Q I r h
  obtain ⟨p, ss, rfl, hq, h64, q⟩ := h
  obtain ⟨u, rfl, ru⟩ := vals1 r
  cases ru
  obtain ⟨its, rv, pl, hz⟩ := I.list hq
  have hlen : its.length = ss.length := by rw [← rv.length, List.length_map]
  refine sorted_strs pl.isList (vals_strs rv) (by omega) fun out ts h1 h2 h3 => ?_
  obtain ⟨e, he⟩ := sortedAll_at s.heap its out
  have hl : ts.length = ss.length := h2.length_eq
  have hs : sizeLine = 16777216 := sizeLine_eq
  exact ⟨.ref (s.heap.objs.size + 1), _, I.laid (t' := s.toks) (fun b o e => sortedAll_old e) (Nat.le_succ _) (show ObjOk X.prog X.w _ _ _ (.lst (ts.map V.str)) from ⟨by rw [List.length_map]; omega, out.toList, e, strs_vals h1, by simpa using he⟩), rfl,
    q _ ts (I.hok.fresh (Nat.le_succ _)) h2 h3⟩

/-! ### words.index(text) -/
end

/-! ### more readings by name -/
section
variable {X : Cx}
def rIsN : R2 := fun x y H Q => y = .non ∧ Q (.bl (decide (x = .non))) H
def rNotN : R2 := fun x y H Q => y = .non ∧ Q (.bl (!decide (x = .non))) H
theorem op_isNA : OpR X (compareOp .Is) rIsN := op_isN
theorem op_notNA : OpR X (compareOp .IsNot) rNotN := op_notN
def rStrI : List V → Hp → VK → Prop := fun xs H Q => ∃ i, xs = [.int i] ∧ i.natAbs.log2 < 1920 ∧ Q (.str (toString i)) H
theorem call_strI : CallR X (.type "str") rStrI := call_str_int
def rInt1 : List V → Hp → VK → Prop := fun xs H Q => (∃ i, xs = [.int i] ∧ Q (.int i) H) ∨ ∃ k, xs = [.bl k] ∧ Q (.int (if k then 1 else 0)) H
theorem call_intA : CallR X (.type "int") rInt1 := call_int1
def rListOf (K : PySem.W.Frag) : List V → Hp → VK → Prop := fun xs H Q => ∃ p ys, xs = [.ref p] ∧ (SqL K H p ys ∨ SqT K H p ys) ∧ ∀ l, H l = none → Q (.ref l) (upd H l (.lst ys))
theorem call_listA (K : PySem.W.Frag) (hK : X.K = K := by rfl) : CallR X (.type "list") (rListOf K) := call_listK K hK
def rTupOf (K : PySem.W.Frag) : List V → Hp → VK → Prop := fun xs H Q => ∃ p ys, xs = [.ref p] ∧ ((SqL K H p ys ∧ ∀ l, H l = none → Q (.ref l) (upd H l (.tup ys))) ∨ (SqT K H p ys ∧ Q (.ref p) H))
theorem call_tupA (K : PySem.W.Frag) (hK : X.K = K := by rfl) : CallR X (.type "tuple") (rTupOf K) := call_tupleK K hK
def rMin2 : List V → Hp → VK → Prop := fun xs H Q => ∃ i j, xs = [.int i, .int j] ∧ Q (.int (if j < i then j else i)) H
theorem call_minA (hc : X.calm = true := by rfl) : CallR X (.builtin "min") rMin2 := call_min2 hc
/-- an int times an int, a text times an int -/
def rMulB : R2 := fun x y H Q => match x, y with
  | .int i, .int j => CMul i j ∧ Q (.int (i * j)) H
  | .str z, .int n => 0 ≤ n ∧ n ≤ 4096 ∧ z.length ≤ 4096 ∧ Q (.str (Txt.mul z n)) H
  | _, _ => False
theorem op_mulB : OpR X (binaryOp .Mult) rMulB := by
  intro pins s σ H x y v u Q I rx ry h
  match x, y, h with
  | .int i, .int j, h => exact op_mul pins s σ H _ _ v u Q I rx ry ⟨_, _, rfl, rfl, h⟩
  | .str z, .int n, h =>
    obtain ⟨t, rfl⟩ := rx
    obtain ⟨t', rfl⟩ := ry
    obtain ⟨h0, h1, h2, q⟩ := h
    exact SB.mul (mulOk_of 4096 4096 h2 (by omega) (by omega) (by decide) (by decide)) fun t' k => ⟨.str (Txt.mul z n), H, I.tok k, ⟨t', rfl⟩, q⟩
end
section
variable {K : PySem.W.Frag} {H : Hp} {Q : VK}
theorem rIsN_at (x : V) : rIsN x .non H Q = Q (.bl (decide (x = .non))) H := propext ⟨fun h => h.2, fun h => ⟨rfl, h⟩⟩
theorem rNotN_at (x : V) : rNotN x .non H Q = Q (.bl (!decide (x = .non))) H := propext ⟨fun h => h.2, fun h => ⟨rfl, h⟩⟩
theorem rStrI_at (i : Int) : rStrI [.int i] H Q = (i.natAbs.log2 < 1920 ∧ Q (.str (toString i)) H) := propext ⟨fun ⟨_, e, q⟩ => by cases e; exact q, fun q => ⟨i, rfl, q⟩⟩
theorem rInt1_int (i : Int) : rInt1 [.int i] H Q = Q (.int i) H := propext ⟨fun h => by rcases h with ⟨_, e, q⟩ | ⟨_, e, q⟩ <;> cases e; exact q, fun q => .inl ⟨i, rfl, q⟩⟩
theorem rInt1_bl (k : Bool) : rInt1 [.bl k] H Q = Q (.int (if k then 1 else 0)) H := propext ⟨fun h => by rcases h with ⟨_, e, q⟩ | ⟨_, e, q⟩ <;> cases e; exact q, fun q => .inr ⟨k, rfl, q⟩⟩
theorem rListOf_at (p : Addr) : rListOf K [.ref p] H Q = ∃ ys, (SqL K H p ys ∨ SqT K H p ys) ∧ ∀ l, H l = none → Q (.ref l) (upd H l (.lst ys)) := propext ⟨fun ⟨_, ys, e, q⟩ => by cases e; exact ⟨ys, q⟩, fun ⟨ys, q⟩ => ⟨p, ys, rfl, q⟩⟩
theorem rTupOf_at (p : Addr) : rTupOf K [.ref p] H Q = ∃ ys, ((SqL K H p ys ∧ ∀ l, H l = none → Q (.ref l) (upd H l (.tup ys))) ∨ (SqT K H p ys ∧ Q (.ref p) H)) := propext ⟨fun ⟨_, ys, e, q⟩ => by cases e; exact ⟨ys, q⟩, fun ⟨ys, q⟩ => ⟨p, ys, rfl, q⟩⟩
theorem rMin2_at (i j : Int) : rMin2 [.int i, .int j] H Q = Q (.int (if j < i then j else i)) H := propext ⟨fun ⟨_, _, e, q⟩ => by cases e; exact q, fun q => ⟨i, j, rfl, q⟩⟩
theorem rMulB_int (i j : Int) : rMulB (.int i) (.int j) H Q = (CMul i j ∧ Q (.int (i * j)) H) := rfl
theorem rMulB_str (z : Str) (n : Int) : rMulB (.str z) (.int n) H Q = (0 ≤ n ∧ n ≤ 4096 ∧ z.length ≤ 4096 ∧ Q (.str (Txt.mul z n)) H) := rfl
end
/-! ### small facts of use everywhere -/
theorem small' {n : Nat} (h : n ≤ 1000000) : n < sizeLine := by
  have : sizeLine = 16777216 := sizeLine_eq
  omega
theorem smallL {n : Nat} (h : n ≤ 1000000) : n ≤ sizeLine := Nat.le_of_lt (small' h)
/-- an item of a list of ints -/
theorem at_map {α : Type} {f : α → V} {xs : List α} {i : Int} {x : α} (h0 : 0 ≤ i) (h : xs[i.toNat]? = some x) : atI (xs.map f) i = some (f x) := by
  have q : (xs.map f)[i.toNat]? = some (f x) := by rw [List.getElem?_map, h]; rfl
  have q' := atI_nat q
  rwa [show ((i.toNat : Nat) : Int) = i by omega] at q'
theorem at_lst {α : Type} {xs : List α} {i : Int} (h0 : 0 ≤ i) (h : i < xs.length) : ∃ x, xs[i.toNat]? = some x ∧ atI xs i = some x := by
  have hk : i.toNat < xs.length := by omega
  refine ⟨xs[i.toNat], List.getElem?_eq_getElem hk, ?_⟩
  have q := atI_nat (List.getElem?_eq_getElem hk)
  rwa [show ((i.toNat : Nat) : Int) = i by omega] at q
theorem al_same {H H' : Hp} {p : Addr} {o : HO} (h : upd H p o = H') (hp : H p = none) : Same H H' := h ▸ same_new hp o
theorem al_at {H H' : Hp} {p : Addr} {o : HO} (h : upd H p o = H') : H' p = some o := h ▸ upd_same
theorem map_push {α β : Type} {f : α → β} (xs : List α) (x : α) : xs.map f ++ [f x] = (xs ++ [x]).map f := by rw [List.map_append]; rfl
theorem all_push {α : Type} {P : α → Prop} {xs : List α} {x : α} (h : ∀ y ∈ xs, P y) (hx : P x) : ∀ y ∈ xs ++ [x], P y := fun y hy => (List.mem_append.mp hy).elim (h y) fun z => by rw [List.mem_singleton.mp z]; exact hx
theorem len_push {α : Type} {xs : List α} {x : α} {n : Nat} (h : xs.length = n) : (xs ++ [x]).length = n + 1 := by simp [h]
end L2

set_option Elab.async false
set_option linter.all false
set_option maxRecDepth 100000
namespace L2
open PySem PySem.Spec PyProof.Rows

/-! ### several untracked records of ours have turned -/
theorem Inv.turnedL {X : Cx} {pins : List (Addr × Obj)} {σ : St} {H : Hp} {s : Shared} {h' : Heap} {t' : Nat} {ch : List Addr} (I : Inv X pins σ H s) (k : ∀ b o, b ∉ ch → s.heap.get? b = some o → h'.get? b = some o)
    (hf : ∀ b ∈ ch, FpOk X pins H b) : Inv X pins σ H { s with heap := h', toks := t' } := by
  have nit : ∀ b u, H b = some u → b ∉ ch := fun b u e z => by rw [(hf b z).1] at e; cases e
  refine I.step (g' := s.gens) (d' := s.drawn) (ch := ch) (fun b hb => ?_) (fun b o _ _ hc e _ => k b o hc e) (fun b o _ _ hc e _ => ⟨o.slots, k b o hc e⟩) (fun _ _ _ _ n => n)
    (fun b o hc e => ⟨o, k b o hc e⟩) (fun _ _ e => e) (fun _ _ _ e => e) (fun b ps e => ⟨#[], by rw [e]; simp⟩) (fun m hm => ?_) (fun b u e => ?_) I.bare
  · obtain ⟨_, f1, _, f3, f4, f5⟩ := hf b hb
    exact ⟨f3, f1, f4, f5⟩
  · obtain ⟨o, es, ep, ho, r⟩ := hm
    exact ⟨o, es, ep, k _ o (fun z => (hf _ z).2.1 rfl) ho, r⟩
  · refine (I.hok b u e).stay (fun c v hc q => k c v ?_ q) (fun _ q => q) fun _ _ q => q
    rcases hc with z | z
    · rw [z]; exact nit b u e
    · exact nit c _ z

/-- the same, and a new object is laid and tracked -/
theorem Inv.turnedLaid {X : Cx} {pins : List (Addr × Obj)} {σ : St} {H : Hp} {s : Shared} {h' : Heap} {t' : Nat} {ch : List Addr} {a : Addr} {o : HO} (I : Inv X pins σ H s) (k : ∀ b o, b ∉ ch → s.heap.get? b = some o → h'.get? b = some o)
    (hf : ∀ b ∈ ch, FpOk X pins H b) (hp : s.heap.objs.size ≤ a) (new : ObjOk X.prog X.w (upd H a o) h' a o) : Inv X pins σ (upd H a o) { s with heap := h', toks := t' } := by
  have hn : H a = none := I.hok.fresh hp
  have nit : ∀ b u, H b = some u → b ∉ ch := fun b u e z => by rw [(hf b z).1] at e; cases e
  refine I.step (g' := s.gens) (d' := s.drawn) (ch := ch) (fun b hb => ?_) (fun b o _ _ hc e _ => k b o hc e) (fun b o _ _ hc e _ => ⟨o.slots, k b o hc e⟩) (fun b u _ q n => ?_)
    (fun b o hc e => ⟨o, k b o hc e⟩) (fun b xs q => ?_) (fun b u xs q => ?_) (fun b ps q => ⟨#[], ?_⟩) (fun m hm => ?_) (fun b u e => ?_) I.bare
  · obtain ⟨_, f1, _, f3, f4, f5⟩ := hf b hb
    exact ⟨f3, f1, f4, f5⟩
  · rw [upd_ne (Nat.ne_of_lt (Nat.lt_of_lt_of_le (Heap.lt_size q) hp))]; exact n
  · rw [upd_ne (ne_of_none q hn)]; exact q
  · rw [upd_ne (ne_of_none q hn)]; exact q
  · rw [upd_ne (ne_of_none q hn), q]; simp
  · obtain ⟨o, es, ep, ho, r⟩ := hm
    exact ⟨o, es, ep, k _ o (fun z => (hf _ z).2.1 rfl) ho, r⟩
  · by_cases hb : b = a
    · subst hb; rw [upd_same] at e; cases e; exact new
    · rw [upd_ne hb] at e
      refine (I.hok b u e).stay (fun c v hc q => k c v ?_ q) (fun c q => by rw [upd_ne (ne_of_none q hn)]; exact q) fun c xs q => by rw [upd_ne (ne_of_none q hn)]; exact q
      rcases hc with z | z
      · rw [z]; exact nit b u e
      · exact nit c _ z

/-! ### zip of two lists -/
structure ZApart (z TI TO i1 i2 : Addr) : Prop where
  TIz : TI ≠ z
  TOz : TO ≠ z
  i1z : i1 ≠ z
  i2z : i2 ≠ z
  TITO : TI ≠ TO
  TIi1 : TI ≠ i1
  TIi2 : TI ≠ i2
  TOi1 : TO ≠ i1
  TOi2 : TO ≠ i2
  i12 : i1 ≠ i2
theorem ex_refs2 (n m : Addr) (P : Addr → Addr → Prop) : (∃ i j, [V.ref n, V.ref m] = [V.ref i, V.ref j] ∧ P i j) = P n m := propext ⟨fun ⟨_, _, e, h⟩ => by cases e; exact h, fun h => ⟨n, m, rfl, h⟩⟩
/-! ### f-strings of plain fields -/
section
variable {X : Cx}
end
section
variable {σ : St} {H : Hp} {Q : VK}
end
end L2

set_option Elab.async false
set_option linter.all false
set_option maxRecDepth 100000
namespace L2
open PySem PySem.Spec PyProof.Rows

/-! ### enumerate of a list -/
def Ite (K : PySem.W.Frag) (a : Addr) : It :=
  ⟨fun i H => ∃ xs x, SqL K H a xs ∧ xs[i]? = some x,
   fun i H v H' => ∃ t x, H t = none ∧ v = .ref t ∧ H' = upd H t (.tup [.int i, x]) ∧ ∀ xs, SqL K H a xs → xs[i]? = some x,
   fun i H => ∃ xs, SqL K H a xs ∧ xs.length ≤ i⟩
def ESt (e it l : Addr) (i : Nat) (h : Heap) : Prop := (∃ old, IsEnum h e it i old) ∧ h.IsListIter it l i
theorem turn_enum {P : Program} {w : World} {K : PySem.W.Frag} {elts : List Expr} {k : Nat} {pos : Pos} {e it l : Addr} (hei : e ≠ it) : Turn P w K (.Tuple elts k pos) (Ite K l) [e, it] e (ESt e it l) where
  mem := by simp
  obj := fun i h st b hb => by
    obtain ⟨⟨old, s1⟩, ⟨o4, s4, c4, d4⟩⟩ := st
    simp only [List.mem_cons, List.mem_nil_iff, or_false] at hb
    rcases hb with rfl | rfl
    · exact ⟨_, s1, fun v e => by cases e⟩
    · exact ⟨_, s4, fun v e => by rw [d4] at e; cases e⟩
  keep := fun i h h' st kk => by
    obtain ⟨⟨old, s1⟩, s4⟩ := st
    exact ⟨⟨old, kk e (by simp) _ s1⟩, s4.at fun o z => kk it (by simp) o z⟩
  item := by
    intro X hP hw hK hc i pins s σ H E I hf st hg
    subst hP hw hK
    obtain ⟨xs, x, q1, hx⟩ := hg
    obtain ⟨is1, rv1, p1, _⟩ := I.list q1
    obtain ⟨u1, hu1, ru1⟩ := rv1.get hx
    obtain ⟨⟨old, s1⟩, s4⟩ := st
    refine wpAny_pyNext_enum_item s1 s4 p1.isList (x := u1) (by simpa using hu1) hei fun h' a1 a3 a5 a6 kk => ?_
    refine ⟨_, rfl, wpAny_letOwnedTupleGo_enum a1 fun h'' hz' hs' => ?_⟩
    have lt : ∀ {c o}, s.heap.get? c = some o → s.heap.objs.size ≠ c := fun z => Nat.ne_of_gt (Heap.lt_size z)
    have zne : s.heap.objs.size ≠ e := lt s1
    have keep2 : ∀ b o, b ∉ [e, it] → s.heap.get? b = some o → h''.get? b = some o := fun b o hb z => by
      simp only [List.mem_cons, List.mem_nil_iff, or_false, not_or] at hb
      exact hs'.extBut _ _ hb.1 (kk b o hb.1 hb.2 z)
    have hsz : H s.heap.objs.size = none := I.hok.fresh (Nat.le_refl _)
    have tupN := hs'.extBut _ _ zne a5
    have nlt : ∀ c ∈ [e, it], c ≠ s.heap.objs.size := fun c hc' => by
      obtain ⟨o4, e4, _⟩ := id s4
      simp only [List.mem_cons, List.mem_nil_iff, or_false] at hc'
      rcases hc' with rfl | rfl
      · exact (lt s1).symm
      · exact (lt e4).symm
    refine ⟨.ref s.heap.objs.size, upd H s.heap.objs.size (.tup [.int i, x]), I.turnedLaid (t' := s.toks + 1) keep2 hf (Nat.le_refl _) ⟨smallL (by show 2 ≤ 1000000; decide), [.int i s.toks, u1], .cons ⟨_, rfl⟩ (.cons ru1 .nil), ⟨_, tupN, rfl, 0, rfl⟩⟩, rfl, ⟨_, x, hsz, rfl, rfl, fun xs' q' => ?_⟩,
      ⟨⟨_, by simpa using hz'⟩, a3.extBut hs'.extBut hei.symm⟩, fun c hc' => ?_⟩
    · rw [I.list_inj q' q1]; exact hx
    · rw [upd_ne (nlt c hc')]; exact (hf c hc').1
  done := by
    intro X hP hw hK hc i pins s σ H E I hf st hg
    subst hP hw hK
    obtain ⟨xs, q1, hlen⟩ := hg
    obtain ⟨is1, rv1, p1, _⟩ := I.list q1
    have l1 := rv1.length
    obtain ⟨⟨old, s1⟩, s4⟩ := st
    refine wpAny_pyNext_enum_end (I.ok.hd hc) s1 s4 p1.isList (by simp; omega) fun h' kk => ⟨rfl, I.turnedL (t' := s.toks) (fun b o hb z => ?_) hf⟩
    simp only [List.mem_cons, List.mem_nil_iff, or_false, not_or] at hb
    exact kk b o hb.2 z
  self := fun A i s Q E st h => by
    obtain ⟨⟨old, s1⟩, _⟩ := st
    exact wpAny_pyIter_enum s1 h
theorem boot_enumerate : bootBuiltins "enumerate" = some (.type "enumerate") := by decide +kernel
def iEnum (K : PySem.W.Frag) (ta : TA) : TI := fun σ H R => ta σ H fun vs H1 => ∃ a : Addr, vs = [.ref a] ∧ (∃ xs, H1 a = some (.lst xs)) ∧ R (Ite K a) H1
theorem iEnum_at (K : PySem.W.Frag) (ta : TA) {σ : St} {H : Hp} {R : It → Hp → Prop} : iEnum K ta σ H R = ta σ H fun vs H1 => ∃ a : Addr, vs = [.ref a] ∧ (∃ xs, H1 a = some (.lst xs)) ∧ R (Ite K a) H1 := rfl
theorem ex_ref1 (n : Addr) (P : Addr → Prop) : (∃ i, [V.ref n] = [V.ref i] ∧ P i) = P n := propext ⟨fun ⟨_, e, h⟩ => by cases e; exact h, fun h => ⟨n, rfl, h⟩⟩
theorem pi_enumK (K : PySem.W.Frag) {X : Cx} {elts : List Expr} {k : Nat} {tpos : Pos} {a : Expr} {ta : TA} {p pos : Pos} (hg : Gl X "enumerate") (hm : X.mg "enumerate" = none) (ha : PA X [a] ta) (hs : starEach [a] X.env = [(false, eval a X.env)] := by rfl) (hK : X.K = K := by rfl) :
    PI X (.Tuple elts k tpos) (.Call (.Name "enumerate" p) [a] [] pos) (iEnum K ta) := by
  subst hK
  intro pins s σ H R I h
  refine Call_ (ld_blt I hg hm boot_enumerate (PyProof.Rows.callWith_type1 (thn (ha pos pins s σ H _ I h) fun us s1 ⟨vs, H1, I1, r1, q1⟩ => ?_) hs rfl))
  obtain ⟨l, e, ⟨xs, h1⟩, q⟩ := q1
  subst e
  obtain ⟨u1, rfl, r1'⟩ := vals1 r1
  obtain rfl : u1 = Value.ref l := r1'
  obtain ⟨hz, its, n, rv, hl⟩ : xs.length ≤ sizeLine ∧ ∃ (its : List Value) (n : Nat), Vals xs its ∧ s1.heap.get? l = some { cls := .type "list", data := .seq its.toArray n } := I1.hok l _ h1
  refine call_enumerate_1 hl fun h' a1 a4 a6 kk => ?_
  refine wpAny_pyIter_enum a1 ⟨_, [s1.heap.objs.size + 1, s1.heap.objs.size], _, _, H1, rfl, I1.kept (t' := s1.toks) kk,
    turn_enum (e := s1.heap.objs.size + 1) (it := s1.heap.objs.size) (Nat.ne_of_gt (Nat.lt_succ_self _)), ⟨⟨_, a1⟩, a4⟩, fun b hb => ?_, q⟩
  have hb' : s1.heap.objs.size ≤ b := by
    simp only [List.mem_cons, List.mem_nil_iff, or_false] at hb
    rcases hb with rfl | rfl <;> first | exact Nat.le_refl _ | exact Nat.le_add_right _ _
  exact I1.fpOk hb' (I1.hok.fresh hb')
section
variable {K : PySem.W.Frag} {a b : Addr} {xs ys : List V} {g : TG} {te : TE} {nT : Nat} {σ : St} {D : Addr} {Q : VK} {H : Hp}
theorem compW_enum (Pv : Nat → List V → Hp → Prop) (h0 : Pv 0 [] H) (hl : ∀ i zs H, i ≤ xs.length → Pv i zs H → SqL K H a xs)
    (hs : ∀ i zs H x t, xs[i]? = some x → i < xs.length → Pv i zs H → H t = none → g (.ref t) (σ ++ List.replicate nT none) (upd H t (.tup [.int i, x])) (compK xs.length i Pv D zs te))
    (hd : ∀ zs H, Pv xs.length zs H → Q (.ref D) H) : compW (Ite K a) g tYes te nT σ D Q H := by
  refine compW_by xs.length Pv h0 (fun i zs H hi p => ⟨xs, xs[i], hl i zs H (Nat.le_of_lt hi) p, by simp [hi]⟩) (fun zs H p => ⟨xs, hl _ zs H (Nat.le_refl _) p, Nat.le_refl _⟩) (fun i zs H v H' hi p yl => ?_) hd
  obtain ⟨t, x, ht, rfl, rfl, y1⟩ := yl
  exact hs i zs H x t (y1 xs (hl i zs H (Nat.le_of_lt hi) p)) hi p ht
theorem forW_enum {tb : TS} {D : Ends} (Pv : Nat → St → Hp → Prop) (h0 : Pv 0 σ H) (hl : ∀ i σ H, i ≤ xs.length → Pv i σ H → SqL K H a xs)
    (hs : ∀ i x t σ H, xs[i]? = some x → Pv i σ H → H t = none → g (.ref t) σ (upd H t (.tup [.int i, x])) fun σ2 H2 => tb { D with nx := Pv (i + 1), ct := Pv (i + 1), bk := D.nx } σ2 H2) (hd : ∀ σ H, Pv xs.length σ H → D.nx σ H) : forW (Ite K a) g tb D σ H := by
  refine forW_by xs.length Pv h0 (fun i σ H hi p => ⟨xs, xs[i], hl i σ H (Nat.le_of_lt hi) p, by simp [hi]⟩) (fun σ H p => ⟨xs, hl _ σ H (Nat.le_refl _) p, Nat.le_refl _⟩) (fun i σ H v H' hi p yl => ?_) hd
  obtain ⟨t, x, ht, rfl, rfl, y1⟩ := yl
  exact hs i x t σ H (y1 xs (hl i σ H (Nat.le_of_lt hi) p)) p ht
/-- a comprehension with a test: n turns; behind the i-th item: it goes onto the list where the test holds -/
def CSkip (n i : Nat) (Pv : Nat → List V → Hp → Prop) (ys : List V) (H : Hp) : Prop := ∃ m', m' < n - i ∧ (m' = n - (i + 1) ∧ i + 1 ≤ n ∧ Pv (i + 1) ys H)
theorem cskip {n i : Nat} {Pv : Nat → List V → Hp → Prop} {ys : List V} {H : Hp} (hi : i < n) (h : Pv (i + 1) ys H) : CSkip n i Pv ys H := ⟨n - (i + 1), by omega, rfl, hi, h⟩
theorem cstepT {n i : Nat} {Pv : Nat → List V → Hp → Prop} {D : Addr} {ys : List V} {y : V} {H : Hp} (hi : i < n) (hlen : ys.length ≤ i) (hz : n ≤ sizeLine) (h1 : H D = some (.lst ys)) (h2 : Pv (i + 1) (ys ++ [y]) (upd H D (.lst (ys ++ [y])))) : CStep n i Pv D ys y H :=
  ⟨h1, by omega, n - (i + 1), by omega, rfl, hi, h2⟩
def compT (n i : Nat) (Pv : Nat → List V → Hp → Prop) (D : Addr) (ys : List V) (tc : TT) (te : TE) (σ : St) (H : Hp) : Prop :=
  tc σ H fun b H4 => if b = true then te σ H4 (CStep n i Pv D ys) else CSkip n i Pv ys H4
theorem compT_at {n i : Nat} {Pv : Nat → List V → Hp → Prop} {D : Addr} {ys : List V} {tc : TT} {te : TE} {σ : St} {H : Hp} : compT n i Pv D ys tc te σ H = tc σ H fun b H4 => if b = true then te σ H4 (CStep n i Pv D ys) else CSkip n i Pv ys H4 := rfl
theorem compT_by {J : It} {tc : TT} (n : Nat) (Pv : Nat → List V → Hp → Prop) (h0 : Pv 0 [] H) (hgo : ∀ i ys H, i < n → Pv i ys H → J.go i H) (hst : ∀ ys H, Pv n ys H → J.stop n H)
    (hs : ∀ i ys H x H', i < n → Pv i ys H → J.yld i H x H' → g x (σ ++ List.replicate nT none) H' (compT n i Pv D ys tc te))
    (hd : ∀ ys H, Pv n ys H → Q (.ref D) H) : compW J g tc te nT σ D Q H := by
  refine ⟨fun i m ys H => m = n - i ∧ i ≤ n ∧ Pv i ys H, ⟨n, by simp, Nat.zero_le _, h0⟩, ?_⟩
  rintro i m ys H ⟨rfl, hi, p⟩
  by_cases hlt : i < n
  · exact .inr ⟨hgo i ys H hlt p, fun x H' y => hs i ys H x H' hlt p y⟩
  · have e : i = n := by omega
    subst e
    exact .inl ⟨hst ys H p, hd ys H p⟩
theorem compT_range {tc : TT} {lo : Int} {n : Nat} (Pv : Nat → List V → Hp → Prop) (h0 : Pv 0 [] H)
    (hs : ∀ i ys H, i < n → Pv i ys H → g (.int (lo + i)) (σ ++ List.replicate nT none) H (compT n i Pv D ys tc te))
    (hd : ∀ ys H, Pv n ys H → Q (.ref D) H) : compW (Itr lo n) g tc te nT σ D Q H := by
  refine compT_by n Pv h0 (fun i ys H hi p => hi) (fun ys H p => Nat.le_refl _) (fun i ys H x H' hi p yl => ?_) hd
  obtain ⟨rfl, rfl⟩ := yl
  exact hs i ys _ hi p
end
end L2

set_option Elab.async false
set_option linter.all false
set_option maxRecDepth 100000
namespace L2
open PySem PySem.Spec PyProof.Rows

/-! ### a text's slice -/
end L2

set_option Elab.async false
set_option linter.all false
set_option maxRecDepth 100000
namespace L2
open PySem PySem.Spec PyProof.Rows

/-! ### what may stand in a tuple that is a dict's key, tuples too -/
structure IK (prog : Program) (w : World) (κ : Type) [DecidableEq κ] where
  is : Heap → κ → Value → Prop
  hash : κ → Int
  draws : κ → Nat
  deep : Nat
  inj : ∀ {h : Heap} {v : Value} {x y : κ}, is h x v → is h y v → x = y
  keeps : ∀ {h h' : Heap} {k : κ} {v : Value} {d : Addr} {o : Obj} {es ep}, is h k v → h.get? d = some o → o.data = .dict es ep → Heap.SameBut d h h' → is h' k v
  pyHash : ∀ {A : Around} {E : Value → Shared → Prop} {s : Shared} {k : κ} {v : Value} {Q : Int → Shared → Prop}, A.units + deep < cLine → is s.heap k v → Q (hash k) { s with toks := s.toks + draws k } →
    wpAny (model prog w) A (PySem.pyHash v) Q E s
  eqBool : ∀ {A : Around} {E : Value → Shared → Prop} {s : Shared} {x y : κ} {u v : Value} {Q : Bool → Shared → Prop}, A.units + deep < cLine → is s.heap x u → is s.heap y v → Q (decide (x = y)) s →
    wpAny (model prog w) A (PySem.eqBool u v) Q E s
  quiet : ∀ {A : Around} {E : Value → Shared → Prop} {s : Shared} {k : κ} {v : Value} {n : Nat} {Q : Bool → Shared → Prop}, is s.heap k v → Q true s → wpAny (model prog w) A (eqIsQuiet (n + deep) v) Q E s
section
variable {prog : Program} {w : World} {κ : Type} [DecidableEq κ] (K : IK prog w κ)
inductive IsItems (h : Heap) : List κ → List Value → Prop
  | nil : IsItems h [] []
  | cons {k : κ} {v : Value} {ks : List κ} {vs : List Value} : K.is h k v → IsItems h ks vs → IsItems h (k :: ks) (v :: vs)
def IsTupK (h : Heap) (ks : List κ) (v : Value) : Prop := ∃ a o items n, v = .ref a ∧ h.get? a = some o ∧ o.cls = .type "tuple" ∧ o.data = .seq items n ∧ IsItems K h ks items.toList
variable {K}
theorem IsItems.inj {h : Heap} : ∀ {x y : List κ} {vs : List Value}, IsItems K h x vs → IsItems K h y vs → x = y
  | _, _, _, .nil, .nil => rfl
  | _, _, _, .cons a b, .cons c d => by rw [K.inj a c, IsItems.inj b d]
theorem IsItems.keeps {h h' : Heap} {d : Addr} {o : Obj} {es ep} (ho : h.get? d = some o) (hd : o.data = .dict es ep) (hs : Heap.SameBut d h h') : ∀ {x : List κ} {vs : List Value}, IsItems K h x vs → IsItems K h' x vs
  | _, _, .nil => .nil
  | _, _, .cons a b => .cons (K.keeps a ho hd hs) (b.keeps ho hd hs)
theorem IsItems.len {h : Heap} : ∀ {x : List κ} {vs : List Value}, IsItems K h x vs → x.length = vs.length
  | _, _, .nil => rfl
  | _, _, .cons _ b => by rw [List.length_cons, List.length_cons, b.len]
def sumD (K : IK prog w κ) (ks : List κ) : Nat := (ks.map K.draws).sum
def tupH (K : IK prog w κ) (ks : List κ) : Int := reduceHash (Builtin.Tuple.tupleHashOf (ks.map K.hash))
theorem hash_tupK {A : Around} {E : Value → Shared → Prop} {s : Shared} {ks : List κ} {v : Value} {Q : Int → Shared → Prop} (hu : A.units + (K.deep + 1) < cLine) (hk : IsTupK K s.heap ks v) (h : Q (tupH K ks) { s with toks := s.toks + (sumD K ks + 1) }) :
    wpAny (model prog w) A (PySem.pyHash v) Q E s := by
  obtain ⟨a, o, items, n, rfl, ho, hc, hd, hi⟩ := hk
  have hT : s.TypeIs (.ref a) "tuple" := ⟨o, ho, hc⟩
  unfold PySem.pyHash
  first | unfold pyHashByItsType | skip
  first | refine wpAny_bind (wpAny_cRoomFor_or (.inr (by omega)) ?_) | skip
  refine wpAny_bind (wpAny_specialOf hT PySem.F.slot_tuple_hash.lookup ?_)
  rw [if_neg (by rw [beq_builtin_none]; exact Bool.false_ne_true)]
  refine wpAny_bind (wpAny_specialOf hT PySem.F.slot_tuple_hash.lookup ?_)
  show wpAny _ _ (callSpecialIfBoundUnlessNone? (.ref a) "__hash__" _ >>= _) Q E s
  refine wpAny_bind (wpAny_callSpecialIfBoundUnlessNone?_slot hT PySem.F.slot_tuple_hash (wpAny_call_entry PySem.F.slot_tuple_hash hT
    PySem.F.entry_tuple_hash ?_ (PySem.F.args_tuple_hash_1 _)))
  show wpAny _ _ (Builtin.Tuple.tupleItemsOf (.ref a) >>= _) _ _ s
  refine wpAny_bind (wpAny_tupleItemsOf ho hd (wpAny_bind ?_))
  rw [← Array.forIn_toList]
  refine wpAny_forIn_list _ (fun rest (b : Array Int) s' => ∃ done left, ks = done ++ left ∧ IsItems K s.heap left rest ∧ b.toList = done.map K.hash ∧ s' = { s with toks := s.toks + sumD K done }) _ ?_ ?_ _ _ ⟨[], ks, rfl, hi, rfl, rfl⟩
  · rintro x rest b s' ⟨done, left, rfl, hl, hb, rfl⟩
    cases hl with
    | @cons k _ ks' _ h1 hl' =>
      have e : sumD K (done ++ [k]) = sumD K done + K.draws k := by simp [sumD]
      refine wpAny_bind (K.pyHash (show A.in1.units + K.deep < cLine from by show A.units + 1 + K.deep < cLine; omega) h1 ?_)
      have fin : ∃ done' left', done ++ k :: ks' = done' ++ left' ∧ IsItems K s.heap left' rest ∧ (b.push (K.hash k)).toList = done'.map K.hash ∧ ({ s with toks := s.toks + sumD K done + K.draws k } : Shared) = { s with toks := s.toks + sumD K done' } :=
        ⟨done ++ [k], ks', by simp, hl', by simp [hb], by rw [e, Nat.add_assoc]⟩
      first
        | exact wpAny_pure fin
        | exact wpAny_bind (wpAny_pure (wpAny_pure fin))
  · rintro b s' ⟨done, left, rfl, hl, hb, rfl⟩
    cases hl
    rw [List.append_nil] at h
    show wpAny _ _ (retInt (Builtin.Tuple.tupleHashOf b.toList)) _ _ _
    rw [hb]
    refine wpAny_ret_mkInt ?_
    unfold tupH reduceHash at h
    show wpAny _ _ (if (decide (-(2 : Int) ^ 63 ≤ Builtin.Tuple.tupleHashOf (done.map K.hash)) && decide (Builtin.Tuple.tupleHashOf (done.map K.hash) < 2 ^ 63)) = true then _ else _) Q E _
    by_cases hr : (decide (-(2 : Int) ^ 63 ≤ Builtin.Tuple.tupleHashOf (done.map K.hash)) && decide (Builtin.Tuple.tupleHashOf (done.map K.hash) < 2 ^ 63)) = true
    · rw [if_pos hr] at h ⊢
      exact wpAny_pure (by simpa [Nat.add_assoc] using h)
    · rw [if_neg hr] at h ⊢
      exact wpAny_bind (wpAny_rule (wpAny_pure (by simpa [Nat.add_assoc] using h)))
theorem eq_tupTree {A : Around} {E : Value → Shared → Prop} {s : Shared} {x y : List κ} {a b : Addr} {P : Fin → Shared → Prop} (hu : A.units + K.deep < cLine) (hx : IsTupK K s.heap x (.ref a)) (hy : IsTupK K s.heap y (.ref b)) (h : P (.done (.ret (.bool (decide (x = y))))) s) :
    wpAny (model prog w) A (Builtin.«tuple.__eq__» ⟨[.ref a, .ref b], []⟩) P E s := by
  obtain ⟨_, oa, xs, na, e1, hoa, ca, hda, hia⟩ := hx
  obtain ⟨_, ob, ys, nb, e2, hob, cb, hdb, hib⟩ := hy
  cases e1
  cases e2
  show wpAny _ _ (isInstance (.ref b) (.type "tuple") >>= _) _ _ s
  refine wpAny_bind (wpAny_isInstance ⟨ob, hob, cb⟩ isSubtype_tuple_tuple ?_)
  simp only [Bool.not_true, Bool.false_eq_true, if_false]
  refine wpAny_bind (wpAny_tupleItemsOf hoa hda (wpAny_bind (wpAny_tupleItemsOf hob hdb (wpAny_bind ?_))))
  refine wpAny_forIn_list _ (fun rest r s' => r.1 = none ∧ s' = s ∧ ∃ x' y' xs' ys', rest = List.zip xs' ys' ∧ IsItems K s.heap x' xs' ∧ IsItems K s.heap y' ys' ∧ decide (x' = y') = decide (x = y) ∧ (xs'.length == ys'.length) = (xs.size == ys.size)) _ ?_ ?_ _ _
    ⟨rfl, rfl, x, y, xs.toList, ys.toList, rfl, hia, hib, rfl, by simp⟩
  · rintro ⟨u, v⟩ rest r s' ⟨hr, rfl, x', y', xs', ys', hz, hx', hy', hdec, hlen⟩
    cases hx' with
    | nil => simp at hz
    | @cons k1 u' x'' xs'' h1 hx'' =>
      cases hy' with
      | nil => simp at hz
      | @cons k2 v' y'' ys'' h2 hy'' =>
        simp only [List.zip_cons_cons, List.cons.injEq, Prod.mk.injEq] at hz
        obtain ⟨⟨rfl, rfl⟩, rfl⟩ := hz
        refine wpAny_bind (K.eqBool (x := k1) (y := k2) hu h1 h2 ?_)
        by_cases hk : k1 = k2
        · subst hk
          rw [decide_eq_true rfl]
          simp only [Bool.not_true, Bool.false_eq_true, if_false]
          refine wpAny_pure ⟨rfl, rfl, x'', y'', xs'', ys'', rfl, hx'', hy'', ?_, by simpa using hlen⟩
          rw [← hdec]
          by_cases hxy : x'' = y'' <;> simp [hxy]
        · rw [decide_eq_false hk]
          simp only [Bool.not_false, if_true]
          have hf : decide (x = y) = false := by rw [← hdec]; simp [hk]
          rw [hf] at h
          exact wpAny_bind (wpAny_pure (wpAny_pure (wpAny_pure h)))
  · rintro ⟨r1, r2⟩ s' ⟨hr, rfl, x', y', xs', ys', hz, hx', hy', hdec, hlen⟩
    simp only at hr
    subst hr
    refine wpAny_pure ?_
    have hfin : (xs.size == ys.size) = decide (x = y) := by
      rw [← hdec, ← hlen]
      cases hx' with
      | nil => cases hy' <;> simp
      | cons _ _ =>
        cases hy' with
        | nil => simp
        | cons _ _ => simp at hz
    show P (.done (.ret (.bool (xs.size == ys.size)))) s'
    rw [hfin]; exact h
theorem eq_tupK {A : Around} {E : Value → Shared → Prop} {s : Shared} {x y : List κ} {u v : Value} {Q : Bool → Shared → Prop} (hu : A.units + (K.deep + 1) < cLine) (hx : IsTupK K s.heap x u) (hy : IsTupK K s.heap y v) (h : Q (decide (x = y)) s) :
    wpAny (model prog w) A (PySem.eqBool u v) Q E s := by
  have hx0 := hx
  have hy0 := hy
  obtain ⟨a, oa, xs, na, rfl, hoa, ca, hda, hia⟩ := hx
  obtain ⟨b, ob, ys, nb, rfl, hob, cb, hdb, hib⟩ := hy
  unfold PySem.eqBool
  try with_reducible refine wpAny_holding ?_
  show wpAny _ _ (if (Value.ref a == Value.ref b) = true then _ else _) Q E s
  by_cases hab : (Value.ref a == Value.ref b) = true
  · rw [if_pos hab]
    have e : a = b := by have := eq_of_beq hab; injection this
    subst e
    rw [hoa] at hob
    cases hob
    rw [hda] at hdb
    injection hdb with e1 _
    subst e1
    rw [decide_eq_true (hia.inj hib)] at h
    exact wpAny_bind (wpAny_rule (wpAny_pure h))
  · rw [if_neg hab]
    have ta : s.TypeIs (.ref a) "tuple" := ⟨oa, hoa, ca⟩
    have tb : s.TypeIs (.ref b) "tuple" := ⟨ob, hob, cb⟩
    refine wpAny_bind (wpAny_richCompare_same_room (op := .Eq) ta tb PySem.F.slot_tuple_eq (wpAny_call_entry PySem.F.slot_tuple_eq ta PySem.F.entry_tuple_eq ?_ (PySem.F.args_tuple_eq_2 _ _)) (by omega))
    refine eq_tupTree (K := K) ?_ hx0 hy0 ⟨_, rfl, (fun e => nomatch e), wpAny_truthy_bool h⟩
    show A.units + 1 + K.deep < cLine
    omega
theorem quiet_tupK {A : Around} {E : Value → Shared → Prop} {s : Shared} {ks : List κ} {v : Value} {n : Nat} {Q : Bool → Shared → Prop} (hk : IsTupK K s.heap ks v) (h : Q true s) : wpAny (model prog w) A (eqIsQuiet (n + (K.deep + 1)) v) Q E s := by
  obtain ⟨a, o, items, m, rfl, ho, hc, hd, hi⟩ := hk
  have hT : s.TypeIs (.ref a) "tuple" := ⟨o, ho, hc⟩
  rw [show n + (K.deep + 1) = (n + K.deep) + 1 from rfl]
  unfold eqIsQuiet
  refine wpAny_bind (wpAny_specialOf hT PySem.F.slot_tuple_eq.lookup ?_)
  show wpAny _ _ (isInstance (.ref a) (.type "tuple") >>= _) _ _ s
  refine wpAny_bind (wpAny_isInstance hT isSubtype_tuple_tuple ?_)
  simp only [Bool.not_true, Bool.false_eq_true, if_false]
  refine wpAny_bind (wpAny_seqItems ho hd (wpAny_bind ?_))
  show wpAny _ _ (forIn items _ _) _ _ s
  rw [← Array.forIn_toList]
  refine wpAny_forIn_list _ (fun rest r s' => r.1 = none ∧ s' = s ∧ ∃ ks', IsItems K s.heap ks' rest) _ ?_ ?_ _ _ ⟨rfl, rfl, ks, hi⟩
  · rintro v rest r s' ⟨hr, rfl, ks', hall⟩
    cases hall with
    | cons h1 h2 =>
      refine wpAny_bind (K.quiet h1 ?_)
      simp only [Bool.not_true, Bool.false_eq_true, if_false]
      exact wpAny_pure ⟨rfl, rfl, _, h2⟩
  · rintro ⟨r1, r2⟩ s' ⟨hr, rfl, _⟩
    simp only at hr
    subst hr
    exact wpAny_pure h
/-- tuples of such -/
def tupK (K : IK prog w κ) : IK prog w (List κ) where
  is := IsTupK K
  hash := tupH K
  draws := fun ks => sumD K ks + 1
  deep := K.deep + 1
  inj := by
    rintro h v x y ⟨a, oa, xs, na, rfl, hoa, ca, hda, hia⟩ ⟨b, ob, ys, nb, e, hob, cb, hdb, hib⟩
    cases e
    rw [hoa] at hob
    cases hob
    rw [hda] at hdb
    injection hdb with e1 _
    subst e1
    exact hia.inj hib
  keeps := by
    rintro h h' k v d o es ep ⟨a, oa, xs, na, rfl, hoa, ca, hda, hia⟩ ho hd hs
    have hne : a ≠ d := by
      rintro rfl
      rw [hoa] at ho
      cases ho
      rw [hd] at hda; cases hda
    exact ⟨a, oa, xs, na, rfl, (hs.2 a hne).trans hoa, ca, hda, hia.keeps ho hd hs⟩
  pyHash := fun hu hk h => hash_tupK hu hk h
  eqBool := fun hu hx hy h => eq_tupK hu hx hy h
  quiet := fun hk h => quiet_tupK hk h
/-- a dict's keys -/
def heapK (K : IK prog w κ) (hd : K.deep ≤ 7) : HeapKind prog w (List κ) where
  is := fun h k a => IsTupK K h k (.ref a)
  hash := tupH K
  draws := fun ks => sumD K ks + 1
  room := fun A => A.units + (K.deep + 1) < cLine
  inj := (tupK K).inj
  keeps := (tupK K).keeps
  pyHash := fun hu hk h => hash_tupK hu hk h
  eqBool := fun hu hx hy h => eq_tupK hu hx hy h
  quiet := fun {A E s k a Q} hk h => by
    have q := quiet_tupK (n := 7 - K.deep) (A := A) (E := E) hk h
    rwa [show 7 - K.deep + (K.deep + 1) = 8 by omega] at q
end
end L2

set_option Elab.async false
set_option linter.all false
set_option maxRecDepth 100000
namespace L2
open PySem PySem.Spec PyProof.Rows

/-! ### None or an int; an int or a tuple of these -/
def optV : Option Int → V
  | none => .non
  | some i => .int i
theorem optV_inj {x y : Option Int} {v : Value} (a : RelV (optV x) v) (b : RelV (optV y) v) : x = y := by
  have e := a.inj b
  cases x <;> cases y <;> simp_all [optV]
theorem optV_flat (x : Option Int) : flatV (optV x) = true := by cases x <;> rfl
theorem optV_eq (x y : Option Int) : eqV (optV x) (optV y) = decide (x = y) := by
  cases x with
  | none => cases y <;> rfl
  | some i =>
    cases y with
    | none => rfl
    | some j =>
      show (i == j) = _
      by_cases h : i = j <;> simp [h]
theorem hash_none {prog : Program} {w : World} {A : Around} {E : Value → Shared → Prop} {s : Shared} {Q : Int → Shared → Prop} (h : Q 0xFCA86420 { s with toks := s.toks + 1 }) : wpAny (model prog w) A (PySem.pyHash .none) Q E s := by
  have hT : s.TypeIs .none "NoneType" := rfl
  unfold PySem.pyHash
  first | unfold pyHashByItsType | skip
  refine wpAny_bind ?_
  rw [cRoomFor, if_neg (by decide)]
  refine wpAny_pure (wpAny_bind (wpAny_specialOf hT PySem.F.slot_NoneType_hash.lookup ?_))
  rw [if_neg (by rw [beq_builtin_none]; exact Bool.false_ne_true)]
  refine wpAny_bind (wpAny_specialOf hT PySem.F.slot_NoneType_hash.lookup ?_)
  show wpAny _ _ (callSpecialIfBoundUnlessNone? .none "__hash__" _ >>= _) Q E s
  refine wpAny_bind (wpAny_callSpecialIfBoundUnlessNone?_slot hT PySem.F.slot_NoneType_hash (wpAny_call_entry PySem.F.slot_NoneType_hash hT
    PySem.F.entry_NoneType_hash ?_ (PySem.F.args_NoneType_hash_1 _)))
  show wpAny _ _ (retInt 0xFCA86420) _ _ s
  refine wpAny_ret_mkInt ?_
  exact wpAny_pure h
def optK (prog : Program) (w : World) : IK prog w (Option Int) where
  is := fun _ k v => RelV (optV k) v
  hash := fun k => match k with
    | none => 0xFCA86420
    | some i => hashInt i
  draws := fun _ => 1
  deep := 0
  inj := fun a b => optV_inj a b
  keeps := fun a _ _ _ => a
  pyHash := fun {A E s k v Q} _ hk h => by
    cases k with
    | none =>
      obtain rfl : v = Value.none := hk
      exact hash_none h
    | some i =>
      obtain ⟨t, rfl⟩ := (show ∃ t, v = Value.int i t from hk)
      exact wpAny_pyHash_int h
  eqBool := fun {A E s x y u v Q} _ hx hy h => by
    have q := eqAt_V (A := A) (s := s) hx hy (optV_flat x) (optV_flat y)
    rw [optV_eq] at q
    exact q prog w E Q h
  quiet := fun {A E s k v n Q} hk h => by
    have e : carriedByValue v = true := by
      cases k with
      | none => obtain rfl : v = Value.none := hk; rfl
      | some i => obtain ⟨t, rfl⟩ := (show ∃ t, v = Value.int i t from hk); rfl
    rw [eqIsQuiet_byValue _ e]
    exact wpAny_pure h
abbrev NI := Sum Int (List (Option Int))
def IsNI (prog : Program) (w : World) (h : Heap) : NI → Value → Prop
  | .inl i, v => ∃ t, v = Value.int i t
  | .inr l, v => IsTupK (optK prog w) h l v
theorem IsTupK.tup {prog : Program} {w : World} {κ : Type} [DecidableEq κ] {K : IK prog w κ} {h : Heap} {l : List κ} {v : Value} (x : IsTupK K h l v) : ∃ a its, v = .ref a ∧ h.IsTuple a its := by
  obtain ⟨a, o, items, n, rfl, ho, hc, hd, hi⟩ := x
  exact ⟨a, items, rfl, o, ho, hc, n, hd⟩
theorem ni_room {A : Around} {prog : Program} {w : World} (hu : A.units + 1 < cLine) : A.units + ((optK prog w).deep + 1) < cLine := hu
theorem ni_ll (i j : Int) : (i == j) = decide ((Sum.inl i : NI) = Sum.inl j) := by
  by_cases z : i = j
  · subst z; simp
  · have z' : ¬ ((Sum.inl i : NI) = Sum.inl j) := fun q => z (Sum.inl.inj q)
    rw [decide_eq_false z']; simpa using z
theorem ni_rr (l l' : List (Option Int)) : decide (l = l') = decide ((Sum.inr l : NI) = Sum.inr l') := by
  by_cases z : l = l'
  · subst z; simp
  · have z' : ¬ ((Sum.inr l : NI) = Sum.inr l') := fun q => z (Sum.inr.inj q)
    rw [decide_eq_false z', decide_eq_false z]
theorem ni_lr (i : Int) (l : List (Option Int)) : decide ((Sum.inl i : NI) = Sum.inr l) = false := decide_eq_false (fun q => nomatch q)
theorem ni_rl (i : Int) (l : List (Option Int)) : decide ((Sum.inr l : NI) = Sum.inl i) = false := decide_eq_false (fun q => nomatch q)
theorem ni_eq {prog : Program} {w : World} {A : Around} {E : Value → Shared → Prop} {s : Shared} {u v : Value} {Q : Bool → Shared → Prop} (hu : A.units + 1 < cLine) : ∀ (x y : NI), IsNI prog w s.heap x u → IsNI prog w s.heap y v → Q (decide (x = y)) s →
    wpAny (model prog w) A (PySem.eqBool u v) Q E s
  | .inl i, .inl j, ⟨t, e1⟩, ⟨t', e2⟩, h => by
    subst e1 e2
    rw [← ni_ll] at h
    exact wpAny_eqBool_int h
  | .inl i, .inr l, ⟨t, e1⟩, hy, h => by
    subst e1
    obtain ⟨b, its, rfl, ht⟩ := IsTupK.tup (K := optK prog w) hy
    rw [ni_lr] at h
    exact SeqAt.EqAt.int_tuple i t ht (Nat.lt_of_succ_lt hu) prog w E Q h
  | .inr l, .inl j, hx, ⟨t, e1⟩, h => by
    subst e1
    obtain ⟨b, its, rfl, ht⟩ := IsTupK.tup (K := optK prog w) hx
    rw [ni_rl] at h
    exact SeqAt.EqAt.tuple_int j t ht (Nat.lt_of_succ_lt hu) prog w E Q h
  | .inr l, .inr l', hx, hy, h => by
    rw [← ni_rr] at h
    exact eq_tupK (K := optK prog w) (ni_room hu) hx hy h
def niK (prog : Program) (w : World) : IK prog w NI where
  is := IsNI prog w
  hash := fun k => match k with
    | .inl i => hashInt i
    | .inr l => tupH (optK prog w) l
  draws := fun k => match k with
    | .inl _ => 1
    | .inr l => sumD (optK prog w) l + 1
  deep := 1
  inj := fun {h v x y} a b => by
    cases x with
    | inl i =>
      obtain ⟨t, rfl⟩ := (show ∃ t, v = Value.int i t from a)
      cases y with
      | inl j => obtain ⟨t', e⟩ := (show ∃ t', Value.int i t = Value.int j t' from b); injection e with e1 _; rw [e1]
      | inr l => obtain ⟨a, _, e, _⟩ := IsTupK.tup (show IsTupK (optK prog w) h l _ from b); cases e
    | inr l =>
      cases y with
      | inl j =>
        obtain ⟨t, rfl⟩ := (show ∃ t, v = Value.int j t from b)
        obtain ⟨a, _, e, _⟩ := IsTupK.tup (show IsTupK (optK prog w) h l _ from a); cases e
      | inr l' => rw [(tupK (optK prog w)).inj (show IsTupK (optK prog w) h l v from a) (show IsTupK (optK prog w) h l' v from b)]
  keeps := fun {h h' k v d o es ep} a ho hd hs => by
    cases k with
    | inl i => exact a
    | inr l => exact (tupK (optK prog w)).keeps (show IsTupK (optK prog w) h l v from a) ho hd hs
  pyHash := fun {A E s k v Q} hu hk h => by
    cases k with
    | inl i =>
      obtain ⟨t, rfl⟩ := (show ∃ t, v = Value.int i t from hk)
      exact wpAny_pyHash_int h
    | inr l => exact hash_tupK (K := optK prog w) (ni_room hu) hk h
  eqBool := fun {A E s x y u v Q} hu hx hy h => ni_eq hu x y hx hy h
  quiet := fun {A E s k v n Q} hk h => by
    cases k with
    | inl i =>
      obtain ⟨t, rfl⟩ := (show ∃ t, v = Value.int i t from hk)
      rw [eqIsQuiet_byValue _ rfl]
      exact wpAny_pure h
    | inr l => exact quiet_tupK (K := optK prog w) hk h
end L2

set_option Elab.async false
set_option linter.all false
set_option maxRecDepth 100000
namespace L2
open PySem PySem.Spec PyProof.Rows

/-! ### dicts whose keys are pairs of an int and a tuple -/
abbrev NKey := Int × List (Option Int)
def nk (k : NKey) : List NI := [.inl k.1, .inr k.2]
theorem nk_inj {k k' : NKey} (h : nk k = nk k') : k = k' := by
  obtain ⟨a, b⟩ := k
  obtain ⟨c, d⟩ := k'
  unfold nk at h
  simp at h
  rw [h.1, h.2]
def MK (P : Program) (w : World) : HeapKind P w (List NI) := heapK (niK P w) (show 1 ≤ 7 by decide)
def NDict (P : Program) (w : World) (a : Addr) (xs : List (List NI × Addr × Value)) : HO :=
  .ext fun h => ∃ o es ep, h.get? a = some o ∧ o.ExactDict ∧ o.data = .dict es ep ∧ es.toList = xs.map (entryOfKey (MK P w)) ∧ (xs.map (·.1)).Nodup
def KeyAt (H : Hp) (k : NKey) (b : Addr) : Prop := ∃ t, H b = some (.tup [.int k.1, .ref t]) ∧ H t = some (.tup (k.2.map optV))
def NRow (H : Hp) (p : NKey × V) (q : List NI × Addr × Value) : Prop := q.1 = nk p.1 ∧ KeyAt H p.1 q.2.1 ∧ RelV p.2 q.2.2
def DN (P : Program) (w : World) (H : Hp) (a : Addr) (kvs : List (NKey × V)) : Prop :=
  ∃ xs, H a = some (NDict P w a xs) ∧ (a == sysModules) = false ∧ xs.length ≤ sizeLine ∧ Paired (NRow H) kvs xs
theorem KeyAt.mono {H H' : Hp} {k : NKey} {b : Addr} (h : KeyAt H k b) (sm : ∀ c xs, H c = some (.tup xs) → H' c = some (.tup xs)) : KeyAt H' k b := by
  obtain ⟨t, h1, h2⟩ := h
  exact ⟨t, sm _ _ h1, sm _ _ h2⟩
theorem DN.mono {P : Program} {w : World} {H H' : Hp} {a : Addr} {kvs : List (NKey × V)} (h : DN P w H a kvs) (sm : Same H H') : DN P w H' a kvs := by
  obtain ⟨xs, h1, h2, h3, h4⟩ := h
  exact ⟨xs, sm _ _ h1, h2, h3, Paired.imp' (fun p q z => ⟨z.1, z.2.1.mono fun c ys e => sm _ _ e, z.2.2⟩) h4⟩
theorem DN.len {P : Program} {w : World} {H : Hp} {a : Addr} {kvs : List (NKey × V)} (h : DN P w H a kvs) : kvs.length ≤ sizeLine := by
  obtain ⟨xs, h1, h2, h3, h4⟩ := h
  rw [Paired.length h4]; exact h3
section
variable {P : Program} {w : World} {H : Hp}
theorem NRow.val : ∀ {kvs : List (NKey × V)} {xs : List (List NI × Addr × Value)} (k : NKey), Paired (NRow H) kvs xs → RelO (valV kvs k) ((atKey xs (nk k)).map (·.2))
  | _, _, k, .nil => True.intro
  | _, _, k, @Paired.cons _ _ _ p q kvs xs r t => by
    have ih := NRow.val k t
    obtain ⟨e1, e2, e3⟩ := r
    by_cases h : p.1 = k
    · have h1 : valV (p :: kvs) k = some p.2 := by simp [valV, h]
      have h2 : atKey (q :: xs) (nk k) = some q.2 := by simp [atKey, e1, h]
      rw [h1, h2]; exact e3
    · have hn : ¬ q.1 = nk k := fun z => h (nk_inj (e1.symm.trans z))
      have h1 : valV (p :: kvs) k = valV kvs k := by simp [valV, h]
      have h2 : atKey (q :: xs) (nk k) = atKey xs (nk k) := by simp [atKey, hn]
      rw [h1, h2]; exact ih
theorem items_of_vals {h : Heap} : ∀ {l : List (Option Int)} {us : List Value}, Vals (l.map optV) us → IsItems (optK P w) h l us
  | [], _, .nil => .nil
  | x :: l, _, .cons r t => .cons r (items_of_vals t)
end
section
variable {X : Cx} {pins : List (Addr × Obj)} {σ : St} {H : Hp} {s : Shared} {a b : Addr} {k : NKey} {kvs : List (NKey × V)}
theorem Inv.key (I : Inv X pins σ H s) (h : KeyAt H k b) : (MK X.prog X.w).is s.heap (nk k) b := by
  obtain ⟨t, h1, h2⟩ := h
  obtain ⟨_, its, r, o, e, c, n, d⟩ : ([V.int k.1, V.ref t] : List V).length ≤ sizeLine ∧ ∃ its : List Value, Vals [V.int k.1, V.ref t] its ∧ IsTup s.heap b its.toArray := I.hok b _ h1
  obtain ⟨_, its2, r2, o2, e2, c2, n2, d2⟩ : (k.2.map optV).length ≤ sizeLine ∧ ∃ its : List Value, Vals (k.2.map optV) its ∧ IsTup s.heap t its.toArray := I.hok t _ h2
  obtain ⟨u, v, rfl, ru, rv⟩ := vals2 r
  cases rv
  refine ⟨b, o, _, n, rfl, e, c, d, ?_⟩
  show IsItems (niK X.prog X.w) s.heap [.inl k.1, .inr k.2] [u, .ref t]
  exact .cons ru (.cons ⟨t, o2, _, n2, rfl, e2, c2, d2, by simpa using items_of_vals r2⟩ .nil)
theorem Inv.dn (I : Inv X pins σ H s) (h : DN X.prog X.w H a kvs) : ∃ xs, H a = some (NDict X.prog X.w a xs) ∧ (a == sysModules) = false ∧ xs.length ≤ sizeLine ∧ Paired (NRow H) kvs xs ∧ s.heap.DictOfH (MK X.prog X.w) a xs := by
  obtain ⟨xs, h1, h2, h3, h4⟩ := h
  obtain ⟨⟨o, es, ep, e1, e2, e3, e4, e5⟩, _, _⟩ := I.hok a _ h1
  refine ⟨xs, h1, h2, h3, h4, o, es, ep, e1, e2, e3, e4, ?_, e5⟩
  have all : ∀ {l : List (NKey × V)} {m : List (List NI × Addr × Value)}, Paired (NRow H) l m → ∀ x ∈ m, (MK X.prog X.w).is s.heap x.1 x.2.1 := by
    intro l m r
    induction r with
    | nil => intro x hx; simp at hx
    | cons r t ih =>
      intro x hx
      rcases List.mem_cons.mp hx with rfl | hx
      · rw [r.1]; exact I.key r.2.1
      · exact ih x hx
  exact all h4
theorem ndict_ok {P : Program} {w : World} {H' : Hp} {h' : Heap} {xs : List (List NI × Addr × Value)} (m : h'.DictOfH (MK P w) a xs) : ObjOk P w H' h' a (NDict P w a xs) := by
  obtain ⟨o, es, ep, e1, e2, e3, e4, _, e5⟩ := m
  exact ⟨⟨o, es, ep, e1, e2, e3, e4, e5⟩, ⟨o, e1⟩, fun h1 h2 ⟨o, es, ep, q1, q⟩ z => ⟨o, es, ep, z _ q1, q⟩⟩
/-! the rules -/
def rNotInN (P : Program) (w : World) : R2 := fun x y H Q => ∃ b a k kvs, x = .ref b ∧ y = .ref a ∧ DN P w H a kvs ∧ KeyAt H k b ∧ Q (.bl (!(valV kvs k).isSome)) H
theorem op_notInN {n : Nat} (hr : Room n X.A) : OpR X (compareOp .NotIn) (rNotInN X.prog X.w) := by
  intro pins s σ H x y v u Q I rx ry h
  obtain ⟨b, a, k, kvs, rfl, rfl, hd, hk, q⟩ := h
  cases rx
  cases ry
  obtain ⟨xs, h1, h2, h3, h4, m⟩ := I.dn hd
  refine wpAny_notIn_heap (show (MK X.prog X.w).room X.A.in1 from by show X.A.units + 1 + 2 < cLine; have := hr.un; omega) (I.key hk) h2 m ?_
  have e := (NRow.val k h4).isSome_eq
  rw [Option.isSome_map] at e
  rw [← e]
  exact ⟨.bl _, H, I.tok _, rfl, q⟩
def rIxN (P : Program) (w : World) : R2 := fun x y H Q => ∃ a b k kvs v, x = .ref a ∧ y = .ref b ∧ DN P w H a kvs ∧ KeyAt H k b ∧ valV kvs k = some v ∧ Q v H
theorem ix_N {n : Nat} (hr : Room n X.A) : IxR X (rIxN X.prog X.w) := by
  intro value slice pins s σ H x y v u Q I rx ry h hs
  obtain ⟨a, b, k, kvs, z, rfl, rfl, hd, hk, hv, q⟩ := h
  cases rx
  cases ry
  obtain ⟨xs, h1, h2, h3, h4, m⟩ := I.dn hd
  obtain ⟨w', hw, rw'⟩ := RelO.some_of (v := z) (o := (atKey xs (nk k)).map (·.2)) (by rw [← hv]; exact NRow.val k h4)
  obtain ⟨p, hp, hp2⟩ := Option.map_eq_some_iff.mp hw
  have hl : typeLookup (.type "dict") "__getitem__" = pure (some (.builtin "dict.__getitem__")) := PySem.F.slot_dict_getitem.lookup
  refine subscriptTail_builtinR (x := w') m.typeIs hl ?_ hs
  refine wpAny_getItem_heap (show (MK X.prog X.w).room X.A.in1 from by show X.A.units + 1 + 2 < cLine; have := hr.un; omega) (I.key hk) m hp ?_
  rw [hp2]
  exact ⟨rfl, z, H, I.tok _, rw', q⟩
def rSetN (P : Program) (w : World) : TSet := fun o i v H Q => ∃ a b k kvs, o = .ref a ∧ i = .ref b ∧ DN P w H a kvs ∧ KeyAt H k b ∧ valV kvs k = none ∧ kvs.length < sizeLine ∧ ∀ u, DN P w (upd H a u) a (kvs ++ [(k, v)]) → Q (upd H a u)
theorem Paired.snoc {α β : Type} {F : α → β → Prop} {x : α} {y : β} (h : F x y) : ∀ {l : List α} {m : List β}, Paired F l m → Paired F (l ++ [x]) (m ++ [y])
  | _, _, .nil => .cons h .nil
  | _, _, .cons r t => .cons r (Paired.snoc h t)
theorem set_N {n : Nat} (hr : Room n X.A) : PSet X (rSetN X.prog X.w) := by
  intro pins s σ H o i v ov iv u Q I ro ri rv h
  obtain ⟨a, b, k, kvs, rfl, rfl, hd, hk, hv, hl, q⟩ := h
  cases ro
  cases ri
  obtain ⟨xs, h1, h2, h3, h4, m⟩ := I.dn hd
  have hx : atKey xs (nk k) = none := by
    have e := NRow.val k h4
    rw [hv] at e
    cases hq : atKey xs (nk k) with
    | none => rfl
    | some p => rw [hq] at e; exact e.elim
  refine wpAny_setItem_heap (hsz := h3) (show (MK X.prog X.w).room X.A.in1 from by show X.A.units + 1 + 2 < cLine; have := hr.un; omega) (I.key hk) m fun h' m' hs => ?_
  rw [storedH_new hx] at m'
  have keep : ∀ c ys, H c = some (.tup ys) → upd H a (NDict X.prog X.w a (xs ++ [(nk k, b, u)])) c = some (.tup ys) := fun c ys e => by
    rw [upd_ne (ne_of e h1 (fun z => nomatch z))]; exact e
  refine ⟨upd H a (NDict X.prog X.w a (xs ++ [(nk k, b, u)])), d_write I (by rw [h1]; exact True.intro) hs (let ⟨o, _, _, e, _⟩ := m'; ⟨o, e⟩) (ndict_ok m'), q _ ⟨_, upd_same, h2, ?_, ?_⟩⟩
  · rw [List.length_append, ← Paired.length h4]
    show kvs.length + 1 ≤ sizeLine
    omega
  · exact Paired.snoc ⟨rfl, hk.mono keep, rv⟩ (Paired.imp' (fun p q z => ⟨z.1, z.2.1.mono keep, z.2.2⟩) h4)
def rLenN (P : Program) (w : World) : List V → Hp → VK → Prop := fun xs H Q => ∃ a kvs, xs = [.ref a] ∧ DN P w H a kvs ∧ Q (.int kvs.length) H
theorem len_nd {P : Program} {w : World} {A : Around} {E : Value → Shared → Prop} {Q : Value → Shared → Prop} {xs : List (List NI × Addr × Value)} (hd : (a == sysModules) = false) (m : s.heap.DictOfH (MK P w) a xs) (hz : xs.length ≤ sizeLine)
    (h : ∀ t tk, Q (.int xs.length t) { s with toks := tk }) : wpAny (model P w) A (call (.builtin "len") [.ref a]) Q E s := by
  have hs : sizeLine = 16777216 := sizeLine_eq
  refine Calls.call_function_entry kind_len plain_len entry_len (args_len1 _) ?_
  unfold Builtin.«len»
  refine wpAny_bind (m := oneArg "len" _) (wpAny_pure ?_)
  have body : MeetsIn P w (Builtin.«dict.__len__» ⟨[.ref a], []⟩) (fun _ R s' => s' = s ∧ R (.ok (.ret (.int xs.length s'.toks))) { s' with toks := s'.toks + 1 }) := .of_wp fun A R s' ⟨e, hR⟩ => by
    subst e
    obtain ⟨o, es, ep, ho, hc, hdat, hk, _⟩ := id m
    show wpAny _ _ (dictSize a >>= _) _ _ s'
    unfold dictSize
    refine wpAny_bind (wpAny_bind (wpAny_dictEntries ho hdat (wpAny_pure ?_)))
    show wpAny _ _ (Builtin.Dict.pendingCount a >>= _) _ _ s'
    refine wpAny_bind (wpAny_pendingCount_other hd (wpAny_ret_mkInt ?_))
    have e : es.size = xs.length := by rw [← Array.length_toList, hk, List.length_map]
    rw [Nat.add_zero, e]; exact hR
  refine wpAny_bind (m := callSpecial? (.ref a) (Str.ofString "__len__")) (wpAny_callSpecial?_slot (name := Str.ofString "__len__") m.typeIs PySem.F.slot_dict_len
    (call_meetsIn PySem.F.slot_dict_len m.typeIs PySem.F.entry_dict_len (PySem.F.args_dict_len_1 _) body ⟨rfl, ?_⟩))
  refine wpAny_bind (wpAny_holding (wpAny_pure (wpAny_bind (wpAny_letGo ?_))))
  show wpAny _ _ (if ((xs.length : Nat) : Int) < 0 then _ else _) _ _ _
  rw [if_neg (by omega)]
  show wpAny _ _ (if ((xs.length : Nat) : Int) ≥ 2 ^ 63 then _ else _) _ _ _
  rw [if_neg (by omega)]
  exact wpAny_bind (wpAny_mkInt (wpAny_pure ⟨_, rfl, h _ _⟩))
theorem call_lenN : CallR X (.builtin "len") (rLenN X.prog X.w) := by
  intro pins s σ H xs us Q I r h
  obtain ⟨a, kvs, rfl, hd, q⟩ := h
  obtain ⟨u, rfl, ru⟩ := vals1 r
  cases ru
  obtain ⟨ys, h1, h2, h3, h4, m⟩ := I.dn hd
  refine len_nd h2 m h3 fun t tk => ⟨.int kvs.length, H, I.tok tk, ?_, q⟩
  rw [← Paired.length h4]
  exact ⟨t, rfl⟩
def tDNewN (P : Program) (w : World) : TE := fun _ H Q => ∀ p, H p = none → ∀ u, DN P w (upd H p u) p [] → Q (.ref p) (upd H p u)
theorem pe_dnewN {pos : Pos} : PE X (.Dict [] [] pos) (tDNewN X.prog X.w) := fun pins s σ H Q I h => by
  have hm : (s.heap.push { cls := .type "dict", data := .dict #[] }).DictOfH (MK X.prog X.w) s.heap.objs.size [] := ⟨_, #[], 0, Heap.get?_push_size _ rfl, ⟨rfl, rfl, rfl⟩, rfl, rfl, (fun x hx => by simp at hx), List.nodup_nil⟩
  exact wpAny_Dict_empty ⟨.ref s.heap.objs.size, _, I.laid (a := s.heap.objs.size) (o := NDict X.prog X.w s.heap.objs.size []) (t' := s.toks) (fun _ _ q => Heap.get?_push_of_some _ q) (Nat.le_refl _) (ndict_ok hm), rfl,
    h _ (I.hok.fresh (Nat.le_refl _)) _ ⟨[], upd_same, beq_eq_false_iff_ne.mpr (Ne.symm (Nat.ne_of_lt I.big)), Nat.zero_le _, .nil⟩⟩
end
end L2

set_option Elab.async false
set_option linter.all false
set_option maxRecDepth 100000
namespace L2
open PySem PySem.Spec PyProof.Rows PySem.SeqAt

/-! ### a[b], a a list, a tuple, a text or a dict of int and text keys -/
section
variable {X : Cx}
def rIxB (K : PySem.W.Frag) : R2 := fun x y H Q => rIxA K x y H Q ∨ ∃ a kvs k v, x = .ref a ∧ y = kV k ∧ H a = some (.dK kvs) ∧ valV kvs k = some v ∧ Q v H
theorem ix_B (K : PySem.W.Frag) (hK : X.K = K := by rfl) : IxR X (rIxB K) := by
  intro value slice pins s σ H x y v u Q I rx ry h hs
  rcases h with h | ⟨a, kvs, k, z, rfl, rfl, e, l, q⟩
  · exact ix_K K hK value slice pins s σ H x y v u Q I rx ry h hs
  · cases rx
    obtain ⟨_, hd, vs, rel, dd⟩ := dk_rd I.hok (.inl e)
    obtain ⟨w', hw, rw'⟩ := RelO.some_of (v := z) (o := valueAt vs k) (by rw [← l]; exact rel.val k)
    have hl : typeLookup (.type "dict") "__getitem__" = pure (some (.builtin "dict.__getitem__")) := PySem.F.slot_dict_getitem.lookup
    exact subscriptTail_builtinR (x := w') dd.typeIs hl (wpAny_getItem_of (kV_is ry) dd.mapOf hw ⟨rfl, z, H, I.tok _, rw', q⟩) hs
/-! ### in, not in a dict; a dict's store -/
def rNotInD : R2 := fun x y H Q => ∃ a kvs k, y = .ref a ∧ x = kV k ∧ H a = some (.dK kvs) ∧ Q (.bl (!(valV kvs k).isSome)) H
theorem op_notInD {n : Nat} (hr : Room n X.A) : OpR X (compareOp .NotIn) rNotInD := by
  intro pins s σ H x y v u Q I rx ry h
  obtain ⟨a, kvs, k, rfl, rfl, e, q⟩ := h
  cases ry
  exact d_notIn (by have := hr.un; omega) I (DGet.k e) rx fun s' I' => ⟨.bl _, H, I', rfl, q⟩
def rSetD : TSet := fun o i v H Q => ∃ a kvs k, o = .ref a ∧ i = kV k ∧ H a = some (.dK kvs) ∧ kvs.length < sizeLine ∧ Q (upd H a (.dK (putK kvs k v)))
theorem set_D {n : Nat} (hr : Room n X.A) : PSet X rSetD := by
  intro pins s σ H o i v ov iv u Q I ro ri rv h
  obtain ⟨a, kvs, k, rfl, rfl, e, hl, q⟩ := h
  cases ro
  exact d_setItem (by have := hr.un; omega) I (DPut.k e hl) ri rv fun s' I' => ⟨_, I', q⟩
end
section
variable {K : PySem.W.Frag} {H : Hp} {Q : VK}
theorem EqN.ints {n : Nat} {a c : Addr} {ss ts : List Int} (h1 : SqL K H a (ss.map V.int)) (h2 : SqL K H c (ts.map V.int)) : EqN K H (n + 1) (.ref a) (.ref c) (decide (ss = ts)) := by
  refine .inr ⟨a, c, _, _, rfl, rfl, .inl ⟨h1, h2⟩, ?_⟩
  by_cases hl : ss.length = ts.length
  · refine .inl ⟨fun i => ss.getD i 0 == ts.getD i 0, by simp [hl], fun i x y e1 e2 => ?_, ?_⟩
    · rw [List.getElem?_map] at e1 e2
      cases q1 : ss[i]? with
      | none => rw [q1] at e1; cases e1
      | some u =>
        cases q2 : ts[i]? with
        | none => rw [q2] at e2; cases e2
        | some v =>
          rw [q1] at e1; rw [q2] at e2
          cases e1; cases e2
          dsimp only
          rw [List.getD_eq_getElem?_getD, List.getD_eq_getElem?_getD, q1, q2]
          exact EqN.flat rfl rfl
    · rw [List.length_map]
      by_cases e : ss = ts
      · subst e
        rw [decide_eq_true rfl]
        symm
        rw [List.all_eq_true]
        intro i _
        simp
      · rw [decide_eq_false e]
        symm
        rw [List.all_eq_false]
        have : ∃ i : Nat, ss[i]? ≠ ts[i]? := by
          refine Classical.byContradiction fun hn => e (List.ext_getElem? fun i => ?_)
          exact Classical.byContradiction fun h => hn ⟨i, h⟩
        obtain ⟨i, hi⟩ := this
        have hlt : i < ss.length := by
          refine Classical.byContradiction fun hn => hi ?_
          rw [List.getElem?_eq_none (by omega), List.getElem?_eq_none (by omega)]
        refine ⟨i, List.mem_range.mpr hlt, ?_⟩
        rw [List.getD_eq_getElem?_getD, List.getD_eq_getElem?_getD, List.getElem?_eq_getElem hlt, List.getElem?_eq_getElem (by omega)]
        rw [List.getElem?_eq_getElem hlt, List.getElem?_eq_getElem (by omega)] at hi
        simpa using hi
  · have e : ss ≠ ts := fun e => hl (by rw [e])
    rw [decide_eq_false e]
    exact .inr ⟨h1, h2, by simpa using hl, rfl⟩
end
/-! ### an int, or None, unlike an int -/
section
variable {X : Cx}
def rNeI : R2 := fun x y H Q => ∃ o j, x = optV o ∧ y = .int j ∧ Q (.bl (decide (o ≠ some j))) H
theorem op_neI : OpR X (compareOp .NotEq) rNeI := by
  intro pins s σ H x y v u Q I rx ry h
  obtain ⟨o, j, rfl, rfl, q⟩ := h
  obtain ⟨t, rfl⟩ := ry
  cases o with
  | none =>
    cases (show v = Value.none from rx)
    rw [decide_eq_true (by simp)] at q
    exact RcNeAt.none_int j t _ _ _ _ ⟨.bl true, H, I, rfl, q⟩
  | some i =>
    have e : (!decide (i = j)) = decide ((some i : Option Int) ≠ some j) := by by_cases h : i = j <;> simp [h]
    rw [← e] at q
    refine op_neA pins s σ H (.int i) (.int j) v _ Q I rx ⟨t, rfl⟩ ?_
    rw [rNeA_int]; exact q
end
end L2

set_option Elab.async false
set_option linter.all false
set_option maxRecDepth 100000
namespace L2
open PySem PySem.Spec PyProof.Rows PySem.SeqAt
/-! ### pop, and bools unlike -/
section
variable {K : PySem.W.Frag} {H : Hp} {Q : VK}
theorem rNeA_bl (i j : Bool) : rNeA (.bl i) (.bl j) H Q = Q (.bl (!(i == j))) H := by
  show (scal (.bl i) (.bl j) = true ∧ Q (.bl (!decide (V.bl i = V.bl j))) H) = _
  rw [dec_bl]; exact propext ⟨fun h => h.2, fun h => ⟨rfl, h⟩⟩
end
/-! ### is True, of an int -/
end L2

set_option Elab.async false
set_option linter.all false
set_option maxRecDepth 100000
namespace L2
open PySem PySem.Spec PyProof.Rows PySem.SeqAt
/-! ### list(range(n)) -/
section
variable {X : Cx}
end
/-! ### d.values(), list(d.values()) -/
section
variable {X : Cx}
end
section
variable {prog : Program} {w : World} {K : Type} [DecidableEq K] {knd : KeyKind prog w K} {A : Around} {E : Value → Shared → Prop} {s : Shared}
end
section
variable {X : Cx}
end
end L2

set_option Elab.async false
set_option linter.all false
set_option maxRecDepth 100000
namespace L2
open PySem PySem.Spec PyProof.Rows PySem.SeqAt
/-! ### the places of a set's elements rise -/
def Rises (xs : Array Nat) : Prop := ∀ (a b : Nat) (ha : a < xs.size) (hb : b < xs.size), a < b → xs[a] < xs[b]
structure Good (L : Bool) (t : SetTable) : Prop where
  led : t.led = L
  rise : Rises t.place
end L2

set_option Elab.async false
set_option linter.all false
set_option maxRecDepth 100000
namespace L2
open PySem PySem.Spec PyProof.Rows PySem.SeqAt
/-! ### a set whose table is known to be G and whose elements are all different -/
section
variable {prog : Program} {w : World} {K : Type} [DecidableEq K] {knd : KeyKind prog w K} {A : Around} {E : Value → Shared → Prop} {s : Shared} {G : SetTable → Prop}
def Apart (knd : KeyKind prog w K) (l : List (Int × Value)) : Prop := l.Pairwise fun e e' => ∀ k, knd.is k e.2 = true → knd.is k e'.2 = false
theorem Apart.push {l : List (Int × Value)} {k : K} {x : Value} {hh : Int} (h : Apart knd l) (hn : ∀ e ∈ l, knd.is k e.2 = false) (hk : knd.is k x = true) : Apart knd (l ++ [(hh, x)]) := by
  refine List.pairwise_append.mpr ⟨h, List.pairwise_singleton _ _, fun e he b hb k' hk' => ?_⟩
  rw [List.mem_singleton.mp hb]
  show knd.is k' x = false
  rw [KeyKind.is_eq_decide hk k']
  refine decide_eq_false fun e' => ?_
  subst e'
  rw [hn e he] at hk'; cases hk'
structure Tab (knd : KeyKind prog w K) (G : SetTable → Prop) (o : Obj) (es : Array (Int × Value)) (ep : Nat) (t : SetTable) (S : K → Bool) (n : Nat) : Prop where
  ex : o.ExactSet
  dat : o.data = .set es ep t
  el : ElemsOf knd es.toList
  mem : ∀ k, S k = true ↔ ∃ e ∈ es.toList, knd.is k e.2 = true
  few : es.size < scanBound
  fit : t.fits es.size = true
  num : es.size = n
  good : G t
  apart : Apart knd es.toList
def SetG (knd : KeyKind prog w K) (G : SetTable → Prop) (h : Heap) (a : Addr) (S : K → Bool) (n : Nat) : Prop := ∃ o es ep t, h.get? a = some o ∧ Tab knd G o es ep t S n
/-- what is written is what stands there -/
theorem stored {h : Heap} {a : Addr} {o : Obj} {es : Array (Int × Value)} {ep : Nat} {t : SetTable} {S : K → Bool} {n : Nat} {es' : Array (Int × Value)} {t' : SetTable} {S' : K → Bool} {n' : Nat} (ho : h.get? a = some o) (T : Tab knd G o es ep t S n)
    (T' : ∀ o', o'.ExactSet → o'.data = .set es' (ep + 1) t' → Tab knd G o' es' (ep + 1) t' S' n') : ∃ o', (h.update a (Obj.putSet es' t')).get? a = some o' ∧ Tab knd G o' es' (ep + 1) t' S' n' := by
  have hp := putSet_of es' t' T.dat
  have hg := Heap.get?_update_self (Obj.putSet es' t') ho (by rw [hp]; rfl)
  rw [hp] at hg
  exact ⟨_, hg, T' _ T.ex rfl⟩
end
end L2

set_option Elab.async false
set_option linter.all false
set_option maxRecDepth 100000
set_option maxHeartbeats 4000000
namespace L2
open PySem PySem.Spec PyProof.Rows PySem.SeqAt
section
variable {prog : Program} {w : World} {A : Around} {R : Result → Shared → Prop} {I : Addr} {fp wr : List Addr} {Gm : Array GenState → Array GenState → Prop} {n : Nat} {P : Nat → Value → Prop} {St : Nat → Shared → Prop} {L : Bool}
theorem SetG.at' {K : Type} [DecidableEq K] {knd : KeyKind prog w K} {G : SetTable → Prop} {h h' : Heap} {a : Addr} {S S' : K → Bool} {m m' : Nat} (x : SetG knd G h a S m) (e : ∀ o, h.get? a = some o → h'.get? a = some o) (eS : ∀ k, S k = S' k) (em : m = m') : SetG knd G h' a S' m' := by
  obtain ⟨o, es, ep, t, ho, T⟩ := x
  have : S = S' := funext eS
  subst this; subst em
  exact ⟨o, es, ep, t, e o ho, T⟩
end
section
variable {prog : Program} {w : World} {A : Around} {E : Value → Shared → Prop} {s : Shared}
end
end L2

set_option Elab.async false
set_option linter.all false
set_option maxRecDepth 100000
set_option maxHeartbeats 4000000
namespace L2
open PySem PySem.Spec PyProof.Rows PySem.SeqAt
/-! ### set(a list of ints) -/
section
variable {X : Cx}
end
end L2

set_option Elab.async false
set_option linter.all false
set_option maxRecDepth 100000
set_option maxHeartbeats 4000000
namespace L2
open PySem PySem.Spec PyProof.Rows PySem.SeqAt
/-! ### the orders in which a set may be gone over -/
section
variable {M : Model} {A : Around} {E : Value → Shared → Prop}
end
end L2

set_option Elab.async false
set_option linter.all false
set_option maxRecDepth 100000
set_option maxHeartbeats 4000000
namespace L2
open PySem PySem.Spec PyProof.Rows PySem.SeqAt
/-! ### one step over a set that is not drawn -/
section
variable {prog : Program} {w : World} {A : Around} {E : Value → Shared → Prop} {s : Shared}
end
end L2

set_option Elab.async false
set_option linter.all false
set_option maxRecDepth 100000
set_option maxHeartbeats 4000000
namespace L2
open PySem PySem.Spec PyProof.Rows PySem.SeqAt
section
variable {prog : Program} {w : World} {A : Around} {E : Value → Shared → Prop} {s : Shared}
def IsSI (h : Heap) (it : Addr) (first : Value) (i : Nat) (a : Addr) (n ep : Nat) : Prop := ∃ o, h.get? it = some o ∧ o.cls = .type "set_iterator" ∧ o.data = .fields #[first, .int i 0, .ref a, .int n 0, .int ep 0]
theorem IsSI.typeIs {it a : Addr} {first : Value} {i n ep : Nat} (x : IsSI s.heap it first i a n ep) : s.TypeIs (.ref it) "set_iterator" := let ⟨o, ho, hc, _⟩ := x; ⟨o, ho, hc⟩
end
end L2

set_option Elab.async false
set_option linter.all false
set_option maxRecDepth 100000
set_option maxHeartbeats 4000000
namespace L2
open PySem PySem.Spec PyProof.Rows PySem.SeqAt
section
variable {prog : Program} {w : World} {A : Around} {E : Value → Shared → Prop} {s : Shared}
end
end L2

set_option Elab.async false
set_option linter.all false
set_option maxRecDepth 100000
set_option maxHeartbeats 4000000
namespace L2
open PySem PySem.Spec PyProof.Rows PySem.SeqAt
section
variable {prog : Program} {w : World} {A : Around} {E : Value → Shared → Prop} {s : Shared}
end
end L2

set_option Elab.async false
set_option linter.all false
set_option maxRecDepth 100000
set_option maxHeartbeats 4000000
namespace L2
open PySem PySem.Spec PyProof.Rows PySem.SeqAt
section
variable {prog : Program} {w : World} {A : Around} {E : Value → Shared → Prop} {s : Shared}
theorem IsSI.at' {h h' : Heap} {it a : Addr} {first : Value} {i n ep : Nat} (x : IsSI h it first i a n ep) (e : ∀ o, h.get? it = some o → h'.get? it = some o) : IsSI h' it first i a n ep := let ⟨o, ho, r⟩ := x; ⟨o, e _ ho, r⟩
end
end L2

set_option Elab.async false
set_option linter.all false
set_option maxRecDepth 100000
set_option maxHeartbeats 4000000
namespace L2
open PySem PySem.Spec PyProof.Rows PySem.SeqAt
section
variable {prog : Program} {w : World} {A : Around} {E : Value → Shared → Prop} {s : Shared}
end
section
variable {X : Cx}
end
end L2

set_option Elab.async false
set_option linter.all false
set_option maxRecDepth 100000
set_option maxHeartbeats 4000000
/-! the greatest of a list of ints -/
namespace L2
open PySem PySem.Spec PyProof PyProof.Rows
section
variable {X : Cx}
def rMaxL (K : PySem.W.Frag) : List V → Hp → VK → Prop := fun xs H Q => ∃ (p : Addr) (ns : List Int), xs = [.ref p] ∧ SqL K H p (ns.map V.int) ∧ ns ≠ [] ∧ ∀ M, M ∈ ns → (∀ a ∈ ns, a ≤ M) → Q (.int M) H
theorem rMaxL_at {K : PySem.W.Frag} {H : Hp} {Q : VK} (p : Addr) : rMaxL K [.ref p] H Q = ∃ ns : List Int, SqL K H p (ns.map V.int) ∧ ns ≠ [] ∧ ∀ M, M ∈ ns → (∀ a ∈ ns, a ≤ M) → Q (.int M) H := propext ⟨fun ⟨_, bs, e, q⟩ => by cases e; exact ⟨bs, q⟩, fun ⟨bs, q⟩ => ⟨p, bs, rfl, q⟩⟩
theorem call_maxL0 (hc : X.calm = true) : CallR X (.builtin "max") (rMaxL X.K) := by
  intro pins s σ H xs us Q I r h
  obtain ⟨p, ns, rfl, hq, hne, q⟩ := h
  obtain ⟨u, rfl, ru⟩ := vals1 r
  cases ru
  obtain ⟨its, rv, pl, hz⟩ := I.list hq
  have hi : IntsAre its ns := intsAre_of rv
  obtain ⟨xs, e⟩ := hi.allInts.items
  have hns : ns = xs.toList.map (·.1) := by
    rw [← hi.numsOf, ← nums_intItems, ← e]
  have hsz : 0 < xs.size := by
    have h3 := List.length_pos_iff.mpr hne; rw [hns, List.length_map, Array.length_toList] at h3; exact h3
  have hl := pl.isList
  rw [e] at hl
  refine max_intList (I.ok.hd hc) hl hsz fun v h' tk hv hk => ?_
  obtain ⟨t, rfl⟩ := intItems_at hv
  obtain ⟨h1, h2⟩ := argBest_gt (numAt xs) (xs.size - 1)
  refine ⟨.int (numAt xs (argBest (fun i j => decide (numAt xs i > numAt xs j)) (xs.size - 1))), H, I.kept (t' := tk) hk, ⟨t, rfl⟩, q _ ?_ fun a ha => ?_⟩
  · rw [hns, numAt_eq]; exact getD_mem (by rw [List.length_map, Array.length_toList]; omega)
  · rw [hns] at ha
    obtain ⟨j, hj, rfl⟩ := mem_getD ha
    rw [List.length_map, Array.length_toList] at hj
    rw [← numAt_eq]; exact h2 j (by omega)
theorem call_maxL (K : PySem.W.Frag) (hK : X.K = K := by rfl) (hc : X.calm = true := by rfl) : CallR X (.builtin "max") (rMaxL K) := hK ▸ call_maxL0 hc
theorem bt_max : bootBuiltins "max" = some (.builtin "max") := by decide +kernel
end
end L2

set_option Elab.async false
set_option linter.all false
set_option maxRecDepth 100000
set_option maxHeartbeats 4000000
section
open PySem PySem.Spec PyProof.Rows L2
seal L2.PE L2.PT L2.PW L2.PA L2.PS L2.PSs L2.PG L2.PGs L2.PSet L2.PI L2.PIfs L2.OpR L2.UnR L2.CallR L2.IxR L2.MtR L2.SlR L2.PO L2.PPs
local macro_rules | `(tactic| walk_at "rd1") => `(tactic| try simp only [tSeq_at, tDisp_at, tPairs_nil, tPairs_cons, tNext_at, tIfS_at, tRet_at, tDrop_at, tAsg_at, gName_at, gNil_at, gCons_at, gTup_at, gSub_at, tVar_at, tC_at, tOp_at, tTest_at, tB_at, tAnd_at, tOr_at, tNot_at, tAndV_at, tNotV_at, tIf_at, tCB_at, tCons_at, tNil_at, tTup_at, tLst_at, tCall_at, tBM_at, tComp_at, tYes_at, ex_refs2, iEnum_at, ex_ref1, compT_at, iList_at, iRng1_at, tFor_at, compK_at, rI0_at, rI_at, rAddA_int, rAddA_str, rAddA_ref, rMulB_int, rMulB_str, rIsN_at, rNotN_at, rStrI_at, rInt1_int, rInt1_bl, rListOf_at, rTupOf_at, rMin2_at, rEqD_at, rNeD_at, rSortS_at, rLtA_int, rLtA_str, rLenA_str, rLenA_ref, rIxA_ref, rIxA_str, rSetL_at, rAppend_at, rIsT_at, rAny_at, rMaxL_at, rEqA_int, rEqA_bl, rEqA_str, rNeA_int, rNeA_str, rNeA_bl, tyV_str, tyV_lst, L2.start, List.map_cons, List.map_nil, List.length_cons, List.length_nil, List.replicate, List.cons_append, List.nil_append, List.append_nil, List.getElem?_cons_zero, List.getElem?_cons_succ, List.set_cons_zero, List.set_cons_succ, Nat.reduceAdd, Nat.reduceSub, Option.some.injEq, exists_eq_left', exists_eq_left, V.int.injEq, V.ref.injEq, V.str.injEq, V.bl.injEq, ex_one, ex_two, ex_cons, ex_nil, and_true, true_and, decide_eq_true_eq, Bool.not_true, Bool.not_false, if_true, Bool.false_eq_true, if_false, ite_true, ite_false])
local macro_rules | `(tactic| walk_at "rd") => `(tactic| try simp only [rest_at, tSeq_at, tDisp_at, tPairs_nil, tPairs_cons, tNext_at, tIfS_at, tRet_at, tDrop_at, tAsg_at, gName_at, gNil_at, gCons_at, gTup_at, gSub_at, tVar_at, tC_at, tOp_at, tTest_at, tB_at, tAnd_at, tOr_at, tNot_at, tAndV_at, tNotV_at, tIf_at, tCB_at, tCons_at, tNil_at, tTup_at, tLst_at, tCall_at, tBM_at, tComp_at, tYes_at, ex_refs2, iEnum_at, ex_ref1, compT_at, iList_at, iRng1_at, tFor_at, compK_at, rI0_at, rI_at, rAddA_int, rAddA_str, rAddA_ref, rMulB_int, rMulB_str, rIsN_at, rNotN_at, rStrI_at, rInt1_int, rInt1_bl, rListOf_at, rTupOf_at, rMin2_at, rEqD_at, rNeD_at, rSortS_at, rLtA_int, rLtA_str, rLenA_str, rLenA_ref, rIxA_ref, rIxA_str, rSetL_at, rAppend_at, rIsT_at, rAny_at, rMaxL_at, rEqA_int, rEqA_bl, rEqA_str, rNeA_int, rNeA_str, rNeA_bl, tyV_str, tyV_lst, L2.start, List.map_cons, List.map_nil, List.length_cons, List.length_nil, List.replicate, List.cons_append, List.nil_append, List.append_nil, List.getElem?_cons_zero, List.getElem?_cons_succ, List.set_cons_zero, List.set_cons_succ, Nat.reduceAdd, Nat.reduceSub, Option.some.injEq, exists_eq_left', exists_eq_left, V.int.injEq, V.ref.injEq, V.str.injEq, V.bl.injEq, ex_one, ex_two, ex_cons, ex_nil, and_true, true_and, decide_eq_true_eq, Bool.not_true, Bool.not_false, if_true, Bool.false_eq_true, if_false, ite_true, ite_false])
local macro_rules | `(tactic| walk_at "nx") => `(tactic| ((first | rw [rest_at] | (dsimp only; rw [rest_at])); walk_at "rd1"))
namespace K11
open PySem L2
def top (i : Nat) : Stmt := PySem.Challenge.pw_usewarden_k11_no_two_rooms_alike.main.body.getD i (.Pass ⟨0, 0, 0, 0⟩)
abbrev s_ways_by : Stmt := top 1
theorem sc_ways_by : FnScope ["numbers", "ways"] ["numbers", "ways"] (defScope s_ways_by) := ⟨rfl, rfl, rfl, by decide +kernel, rfl, by decide +kernel, by decide +kernel⟩
theorem v_ways_by_ways : Vis (defScope s_ways_by) "ways" := Or.inl (by decide +kernel)
abbrev s_finer_kinds : Stmt := top 2
theorem sc_finer_kinds : FnScope ["rooms", "kinds", "seen", "finer", "at", "room", "mark"] ["rooms", "kinds"] (defScope s_finer_kinds) := ⟨rfl, rfl, rfl, by decide +kernel, rfl, by decide +kernel, by decide +kernel⟩
theorem v_finer_kinds_rooms : Vis (defScope s_finer_kinds) "rooms" := Or.inl (by decide +kernel)
theorem v_finer_kinds_kinds : Vis (defScope s_finer_kinds) "kinds" := Or.inl (by decide +kernel)
theorem v_finer_kinds_seen : Vis (defScope s_finer_kinds) "seen" := Or.inl (by decide +kernel)
theorem l_finer_kinds_seen : Loc (defScope s_finer_kinds) "seen" := Or.inl (by decide +kernel)
theorem v_finer_kinds_finer : Vis (defScope s_finer_kinds) "finer" := Or.inl (by decide +kernel)
theorem l_finer_kinds_finer : Loc (defScope s_finer_kinds) "finer" := Or.inl (by decide +kernel)
theorem v_finer_kinds_at : Vis (defScope s_finer_kinds) "at" := Or.inl (by decide +kernel)
theorem l_finer_kinds_at : Loc (defScope s_finer_kinds) "at" := Or.inl (by decide +kernel)
theorem v_finer_kinds_room : Vis (defScope s_finer_kinds) "room" := Or.inl (by decide +kernel)
theorem l_finer_kinds_room : Loc (defScope s_finer_kinds) "room" := Or.inl (by decide +kernel)
theorem v_finer_kinds_mark : Vis (defScope s_finer_kinds) "mark" := Or.inl (by decide +kernel)
theorem l_finer_kinds_mark : Loc (defScope s_finer_kinds) "mark" := Or.inl (by decide +kernel)
theorem gl_finer_kinds_enumerate : (defScope s_finer_kinds).names.lookup ("enumerate" : Str) = some .globalImplicit := by decide +kernel
theorem gl_finer_kinds_len : (defScope s_finer_kinds).names.lookup ("len" : Str) = some .globalImplicit := by decide +kernel
theorem gl_finer_kinds_tuple : (defScope s_finer_kinds).names.lookup ("tuple" : Str) = some .globalImplicit := by decide +kernel
theorem gl_finer_kinds_ways_by : (defScope s_finer_kinds).names.lookup ("ways_by" : Str) = some .globalImplicit := by decide +kernel

abbrev s_kinds_upto : Stmt := top 3
theorem sc_kinds_upto : FnScope ["rooms", "most", "kinds", "finer"] ["rooms", "most"] (defScope s_kinds_upto) := ⟨rfl, rfl, rfl, by decide +kernel, rfl, by decide +kernel, by decide +kernel⟩
theorem v_kinds_upto_rooms : Vis (defScope s_kinds_upto) "rooms" := Or.inl (by decide +kernel)
theorem v_kinds_upto_most : Vis (defScope s_kinds_upto) "most" := Or.inl (by decide +kernel)
theorem v_kinds_upto_kinds : Vis (defScope s_kinds_upto) "kinds" := Or.inl (by decide +kernel)
theorem l_kinds_upto_kinds : Loc (defScope s_kinds_upto) "kinds" := Or.inl (by decide +kernel)
theorem k_kinds_upto_kinds : (defScope s_kinds_upto).names.lookup ("kinds" : Str) = some .local := by decide +kernel
theorem v_kinds_upto_finer : Vis (defScope s_kinds_upto) "finer" := Or.inl (by decide +kernel)
theorem l_kinds_upto_finer : Loc (defScope s_kinds_upto) "finer" := Or.inl (by decide +kernel)
theorem gl_kinds_upto_finer_kinds : (defScope s_kinds_upto).names.lookup ("finer_kinds" : Str) = some .globalImplicit := by decide +kernel
theorem gl_kinds_upto_max : (defScope s_kinds_upto).names.lookup ("max" : Str) = some .globalImplicit := by decide +kernel

abbrev s_merged_rooms : Stmt := top 4
theorem sc_merged_rooms : FnScope ["rooms", "kinds", "merged", "at", "room"] ["rooms", "kinds"] (defScope s_merged_rooms) := ⟨rfl, rfl, rfl, by decide +kernel, rfl, by decide +kernel, by decide +kernel⟩
theorem v_merged_rooms_rooms : Vis (defScope s_merged_rooms) "rooms" := Or.inl (by decide +kernel)
theorem v_merged_rooms_kinds : Vis (defScope s_merged_rooms) "kinds" := Or.inl (by decide +kernel)
theorem v_merged_rooms_merged : Vis (defScope s_merged_rooms) "merged" := Or.inl (by decide +kernel)
theorem l_merged_rooms_merged : Loc (defScope s_merged_rooms) "merged" := Or.inl (by decide +kernel)
theorem v_merged_rooms_at : Vis (defScope s_merged_rooms) "at" := Or.inl (by decide +kernel)
theorem l_merged_rooms_at : Loc (defScope s_merged_rooms) "at" := Or.inl (by decide +kernel)
theorem v_merged_rooms_room : Vis (defScope s_merged_rooms) "room" := Or.inl (by decide +kernel)
theorem l_merged_rooms_room : Loc (defScope s_merged_rooms) "room" := Or.inl (by decide +kernel)
theorem gl_merged_rooms_enumerate : (defScope s_merged_rooms).names.lookup ("enumerate" : Str) = some .globalImplicit := by decide +kernel
theorem gl_merged_rooms_len : (defScope s_merged_rooms).names.lookup ("len" : Str) = some .globalImplicit := by decide +kernel
theorem gl_merged_rooms_ways_by : (defScope s_merged_rooms).names.lookup ("ways_by" : Str) = some .globalImplicit := by decide +kernel

abbrev s_rooms_led_to : Stmt := top 5
theorem sc_rooms_led_to : FnScope ["rooms", "order", "met", "at", "room", "way"] ["rooms"] (defScope s_rooms_led_to) := ⟨rfl, rfl, rfl, by decide +kernel, rfl, by decide +kernel, by decide +kernel⟩
theorem v_rooms_led_to_rooms : Vis (defScope s_rooms_led_to) "rooms" := Or.inl (by decide +kernel)
theorem v_rooms_led_to_order : Vis (defScope s_rooms_led_to) "order" := Or.inl (by decide +kernel)
theorem l_rooms_led_to_order : Loc (defScope s_rooms_led_to) "order" := Or.inl (by decide +kernel)
theorem v_rooms_led_to_met : Vis (defScope s_rooms_led_to) "met" := Or.inl (by decide +kernel)
theorem l_rooms_led_to_met : Loc (defScope s_rooms_led_to) "met" := Or.inl (by decide +kernel)
theorem v_rooms_led_to_at : Vis (defScope s_rooms_led_to) "at" := Or.inl (by decide +kernel)
theorem l_rooms_led_to_at : Loc (defScope s_rooms_led_to) "at" := Or.inl (by decide +kernel)
theorem v_rooms_led_to_room : Vis (defScope s_rooms_led_to) "room" := Or.inl (by decide +kernel)
theorem l_rooms_led_to_room : Loc (defScope s_rooms_led_to) "room" := Or.inl (by decide +kernel)
theorem v_rooms_led_to_way : Vis (defScope s_rooms_led_to) "way" := Or.inl (by decide +kernel)
theorem l_rooms_led_to_way : Loc (defScope s_rooms_led_to) "way" := Or.inl (by decide +kernel)
theorem gl_rooms_led_to_len : (defScope s_rooms_led_to).names.lookup ("len" : Str) = some .globalImplicit := by decide +kernel

abbrev s_numbered_rooms : Stmt := top 6
theorem sc_numbered_rooms : FnScope ["rooms", "order", "numbers", "number", "room"] ["rooms"] (defScope s_numbered_rooms) := ⟨rfl, rfl, rfl, by decide +kernel, rfl, by decide +kernel, by decide +kernel⟩
theorem v_numbered_rooms_rooms : Vis (defScope s_numbered_rooms) "rooms" := Or.inr (Or.inl (by decide +kernel))
theorem v_numbered_rooms_order : Vis (defScope s_numbered_rooms) "order" := Or.inl (by decide +kernel)
theorem l_numbered_rooms_order : Loc (defScope s_numbered_rooms) "order" := Or.inl (by decide +kernel)
theorem v_numbered_rooms_numbers : Vis (defScope s_numbered_rooms) "numbers" := Or.inr (Or.inl (by decide +kernel))
theorem l_numbered_rooms_numbers : Loc (defScope s_numbered_rooms) "numbers" := Or.inr (by decide +kernel)
theorem v_numbered_rooms_number : Vis (defScope s_numbered_rooms) "number" := Or.inl (by decide +kernel)
theorem l_numbered_rooms_number : Loc (defScope s_numbered_rooms) "number" := Or.inl (by decide +kernel)
theorem v_numbered_rooms_room : Vis (defScope s_numbered_rooms) "room" := Or.inl (by decide +kernel)
theorem l_numbered_rooms_room : Loc (defScope s_numbered_rooms) "room" := Or.inl (by decide +kernel)
theorem gl_numbered_rooms_enumerate : (defScope s_numbered_rooms).names.lookup ("enumerate" : Str) = some .globalImplicit := by decide +kernel
theorem gl_numbered_rooms_rooms_led_to : (defScope s_numbered_rooms).names.lookup ("rooms_led_to" : Str) = some .globalImplicit := by decide +kernel

abbrev s_does_something : Stmt := top 7
theorem sc_does_something : FnScope ["rooms", "place"] ["rooms", "place"] (defScope s_does_something) := ⟨rfl, rfl, rfl, by decide +kernel, rfl, by decide +kernel, by decide +kernel⟩
theorem v_does_something_rooms : Vis (defScope s_does_something) "rooms" := Or.inl (by decide +kernel)
theorem gl_does_something_any : (defScope s_does_something).names.lookup ("any" : Str) = some .globalImplicit := by decide +kernel
theorem gl_does_something_enumerate : (defScope s_does_something).names.lookup ("enumerate" : Str) = some .globalImplicit := by decide +kernel

abbrev s_picked : Stmt := top 8
theorem sc_picked : FnScope ["things", "places"] ["things", "places"] (defScope s_picked) := ⟨rfl, rfl, rfl, by decide +kernel, rfl, by decide +kernel, by decide +kernel⟩
theorem v_picked_places : Vis (defScope s_picked) "places" := Or.inl (by decide +kernel)
abbrev s_least_upto : Stmt := top 9
theorem sc_least_upto : FnScope ["rule", "most", "kinds", "words", "rooms", "places"] ["rule", "most"] (defScope s_least_upto) := ⟨rfl, rfl, rfl, by decide +kernel, rfl, by decide +kernel, by decide +kernel⟩
theorem v_least_upto_rule : Vis (defScope s_least_upto) "rule" := Or.inl (by decide +kernel)
theorem v_least_upto_most : Vis (defScope s_least_upto) "most" := Or.inl (by decide +kernel)
theorem v_least_upto_kinds : Vis (defScope s_least_upto) "kinds" := Or.inl (by decide +kernel)
theorem l_least_upto_kinds : Loc (defScope s_least_upto) "kinds" := Or.inl (by decide +kernel)
theorem v_least_upto_words : Vis (defScope s_least_upto) "words" := Or.inl (by decide +kernel)
theorem l_least_upto_words : Loc (defScope s_least_upto) "words" := Or.inl (by decide +kernel)
theorem v_least_upto_rooms : Vis (defScope s_least_upto) "rooms" := Or.inr (Or.inl (by decide +kernel))
theorem l_least_upto_rooms : Loc (defScope s_least_upto) "rooms" := Or.inr (by decide +kernel)
theorem v_least_upto_places : Vis (defScope s_least_upto) "places" := Or.inr (Or.inl (by decide +kernel))
theorem l_least_upto_places : Loc (defScope s_least_upto) "places" := Or.inr (by decide +kernel)
theorem gl_least_upto_kinds_upto : (defScope s_least_upto).names.lookup ("kinds_upto" : Str) = some .globalImplicit := by decide +kernel
theorem gl_least_upto_len : (defScope s_least_upto).names.lookup ("len" : Str) = some .globalImplicit := by decide +kernel
theorem gl_least_upto_merged_rooms : (defScope s_least_upto).names.lookup ("merged_rooms" : Str) = some .globalImplicit := by decide +kernel
theorem gl_least_upto_numbered_rooms : (defScope s_least_upto).names.lookup ("numbered_rooms" : Str) = some .globalImplicit := by decide +kernel
theorem gl_least_upto_picked : (defScope s_least_upto).names.lookup ("picked" : Str) = some .globalImplicit := by decide +kernel
theorem gl_least_upto_range : (defScope s_least_upto).names.lookup ("range" : Str) = some .globalImplicit := by decide +kernel

abbrev s_least_rule : Stmt := top 10
theorem sc_least_rule : FnScope ["rule"] ["rule"] (defScope s_least_rule) := ⟨rfl, rfl, rfl, by decide +kernel, rfl, by decide +kernel, by decide +kernel⟩
theorem v_least_rule_rule : Vis (defScope s_least_rule) "rule" := Or.inl (by decide +kernel)
theorem gl_least_rule_least_upto : (defScope s_least_rule).names.lookup ("least_upto" : Str) = some .globalImplicit := by decide +kernel
theorem gl_least_rule_len : (defScope s_least_rule).names.lookup ("len" : Str) = some .globalImplicit := by decide +kernel

abbrev s_law_cell_at : Stmt := top 12
theorem sc_law_cell_at : FnScope ["_law_script", "_law_k"] ["_law_script", "_law_k"] (defScope s_law_cell_at) := ⟨rfl, rfl, rfl, by decide +kernel, rfl, by decide +kernel, by decide +kernel⟩
theorem v_law_cell_at__law_script : Vis (defScope s_law_cell_at) "_law_script" := Or.inl (by decide +kernel)
theorem v_law_cell_at__law_k : Vis (defScope s_law_cell_at) "_law_k" := Or.inl (by decide +kernel)
theorem gl_law_cell_at_len : (defScope s_law_cell_at).names.lookup ("len" : Str) = some .globalImplicit := by decide +kernel

abbrev s_law_mixed : Stmt := top 13
theorem sc_law_mixed : FnScope ["_law_cell", "_law_many", "_law_number", "_law_found", "_law_k"] ["_law_cell", "_law_many"] (defScope s_law_mixed) := ⟨rfl, rfl, rfl, by decide +kernel, rfl, by decide +kernel, by decide +kernel⟩
theorem v_law_mixed__law_cell : Vis (defScope s_law_mixed) "_law_cell" := Or.inl (by decide +kernel)
theorem v_law_mixed__law_many : Vis (defScope s_law_mixed) "_law_many" := Or.inl (by decide +kernel)
theorem v_law_mixed__law_number : Vis (defScope s_law_mixed) "_law_number" := Or.inl (by decide +kernel)
theorem l_law_mixed__law_number : Loc (defScope s_law_mixed) "_law_number" := Or.inl (by decide +kernel)
theorem v_law_mixed__law_found : Vis (defScope s_law_mixed) "_law_found" := Or.inl (by decide +kernel)
theorem l_law_mixed__law_found : Loc (defScope s_law_mixed) "_law_found" := Or.inl (by decide +kernel)
theorem l_law_mixed__law_k : Loc (defScope s_law_mixed) "_law_k" := Or.inl (by decide +kernel)
theorem gl_law_mixed_range : (defScope s_law_mixed).names.lookup ("range" : Str) = some .globalImplicit := by decide +kernel

abbrev s_law_words : Stmt := top 14
theorem sc_law_words : FnScope ["_law_cell", "_law_many", "_law_sides", "_law_letters", "_law_xs", "_law_size", "_law_at", "_law_words_here", "_law_k", "_law_word", "_law_j"] ["_law_cell", "_law_many", "_law_sides"] (defScope s_law_words) := ⟨rfl, rfl, rfl, by decide +kernel, rfl, by decide +kernel, by decide +kernel⟩
theorem v_law_words__law_cell : Vis (defScope s_law_words) "_law_cell" := Or.inl (by decide +kernel)
theorem v_law_words__law_many : Vis (defScope s_law_words) "_law_many" := Or.inl (by decide +kernel)
theorem v_law_words__law_sides : Vis (defScope s_law_words) "_law_sides" := Or.inl (by decide +kernel)
theorem v_law_words__law_letters : Vis (defScope s_law_words) "_law_letters" := Or.inl (by decide +kernel)
theorem l_law_words__law_letters : Loc (defScope s_law_words) "_law_letters" := Or.inl (by decide +kernel)
theorem v_law_words__law_xs : Vis (defScope s_law_words) "_law_xs" := Or.inl (by decide +kernel)
theorem l_law_words__law_xs : Loc (defScope s_law_words) "_law_xs" := Or.inl (by decide +kernel)
theorem v_law_words__law_size : Vis (defScope s_law_words) "_law_size" := Or.inl (by decide +kernel)
theorem l_law_words__law_size : Loc (defScope s_law_words) "_law_size" := Or.inl (by decide +kernel)
theorem v_law_words__law_at : Vis (defScope s_law_words) "_law_at" := Or.inl (by decide +kernel)
theorem l_law_words__law_at : Loc (defScope s_law_words) "_law_at" := Or.inl (by decide +kernel)
theorem v_law_words__law_words_here : Vis (defScope s_law_words) "_law_words_here" := Or.inl (by decide +kernel)
theorem l_law_words__law_words_here : Loc (defScope s_law_words) "_law_words_here" := Or.inl (by decide +kernel)
theorem v_law_words__law_k : Vis (defScope s_law_words) "_law_k" := Or.inl (by decide +kernel)
theorem l_law_words__law_k : Loc (defScope s_law_words) "_law_k" := Or.inl (by decide +kernel)
theorem v_law_words__law_word : Vis (defScope s_law_words) "_law_word" := Or.inl (by decide +kernel)
theorem l_law_words__law_word : Loc (defScope s_law_words) "_law_word" := Or.inl (by decide +kernel)
theorem v_law_words__law_j : Vis (defScope s_law_words) "_law_j" := Or.inl (by decide +kernel)
theorem l_law_words__law_j : Loc (defScope s_law_words) "_law_j" := Or.inl (by decide +kernel)
theorem gl_law_words__law_mixed : (defScope s_law_words).names.lookup ("_law_mixed" : Str) = some .globalImplicit := by decide +kernel
theorem gl_law_words_int : (defScope s_law_words).names.lookup ("int" : Str) = some .globalImplicit := by decide +kernel
theorem gl_law_words_range : (defScope s_law_words).names.lookup ("range" : Str) = some .globalImplicit := by decide +kernel
theorem gl_law_words_sorted : (defScope s_law_words).names.lookup ("sorted" : Str) = some .globalImplicit := by decide +kernel
theorem gl_law_words_str : (defScope s_law_words).names.lookup ("str" : Str) = some .globalImplicit := by decide +kernel

abbrev s_law_way : Stmt := top 15
theorem sc_law_way : FnScope ["_law_number", "_law_share", "_law_many"] ["_law_number", "_law_share", "_law_many"] (defScope s_law_way) := ⟨rfl, rfl, rfl, by decide +kernel, rfl, by decide +kernel, by decide +kernel⟩
theorem v_law_way__law_number : Vis (defScope s_law_way) "_law_number" := Or.inl (by decide +kernel)
theorem v_law_way__law_share : Vis (defScope s_law_way) "_law_share" := Or.inl (by decide +kernel)
theorem v_law_way__law_many : Vis (defScope s_law_way) "_law_many" := Or.inl (by decide +kernel)
abbrev s_law_shaped : Stmt := top 16
theorem sc_law_shaped : FnScope ["_law_rooms", "_law_shape", "_law_cell", "_law_size", "_law_xs", "_law_r"] ["_law_rooms", "_law_shape", "_law_cell"] (defScope s_law_shaped) := ⟨rfl, rfl, rfl, by decide +kernel, rfl, by decide +kernel, by decide +kernel⟩
theorem v_law_shaped__law_rooms : Vis (defScope s_law_shaped) "_law_rooms" := Or.inr (Or.inl (by decide +kernel))
theorem v_law_shaped__law_shape : Vis (defScope s_law_shaped) "_law_shape" := Or.inl (by decide +kernel)
theorem v_law_shaped__law_cell : Vis (defScope s_law_shaped) "_law_cell" := Or.inr (Or.inl (by decide +kernel))
theorem v_law_shaped__law_size : Vis (defScope s_law_shaped) "_law_size" := Or.inl (by decide +kernel)
theorem l_law_shaped__law_size : Loc (defScope s_law_shaped) "_law_size" := Or.inl (by decide +kernel)
theorem v_law_shaped__law_xs : Vis (defScope s_law_shaped) "_law_xs" := Or.inl (by decide +kernel)
theorem l_law_shaped__law_xs : Loc (defScope s_law_shaped) "_law_xs" := Or.inl (by decide +kernel)
theorem v_law_shaped__law_r : Vis (defScope s_law_shaped) "_law_r" := Or.inr (Or.inl (by decide +kernel))
theorem l_law_shaped__law_r : Loc (defScope s_law_shaped) "_law_r" := Or.inr (by decide +kernel)
theorem gl_law_shaped__law_mixed : (defScope s_law_shaped).names.lookup ("_law_mixed" : Str) = some .globalImplicit := by decide +kernel
theorem gl_law_shaped_len : (defScope s_law_shaped).names.lookup ("len" : Str) = some .globalImplicit := by decide +kernel
theorem gl_law_shaped_list : (defScope s_law_shaped).names.lookup ("list" : Str) = some .globalImplicit := by decide +kernel
theorem gl_law_shaped_range : (defScope s_law_shaped).names.lookup ("range" : Str) = some .globalImplicit := by decide +kernel

abbrev s_law_rule : Stmt := top 17
theorem sc_law_rule : FnScope ["_law_script", "_law_first", "_law_sides", "_law_many", "_law_cell", "_law_size", "_law_words_here", "_law_share", "_law_xs", "_law_k", "_law_rooms", "_law_r"] ["_law_script"] (defScope s_law_rule) := ⟨rfl, rfl, rfl, by decide +kernel, rfl, by decide +kernel, by decide +kernel⟩
theorem v_law_rule__law_script : Vis (defScope s_law_rule) "_law_script" := Or.inl (by decide +kernel)
theorem v_law_rule__law_first : Vis (defScope s_law_rule) "_law_first" := Or.inl (by decide +kernel)
theorem l_law_rule__law_first : Loc (defScope s_law_rule) "_law_first" := Or.inl (by decide +kernel)
theorem v_law_rule__law_sides : Vis (defScope s_law_rule) "_law_sides" := Or.inl (by decide +kernel)
theorem l_law_rule__law_sides : Loc (defScope s_law_rule) "_law_sides" := Or.inl (by decide +kernel)
theorem v_law_rule__law_many : Vis (defScope s_law_rule) "_law_many" := Or.inr (Or.inl (by decide +kernel))
theorem l_law_rule__law_many : Loc (defScope s_law_rule) "_law_many" := Or.inr (by decide +kernel)
theorem v_law_rule__law_cell : Vis (defScope s_law_rule) "_law_cell" := Or.inl (by decide +kernel)
theorem l_law_rule__law_cell : Loc (defScope s_law_rule) "_law_cell" := Or.inl (by decide +kernel)
theorem v_law_rule__law_size : Vis (defScope s_law_rule) "_law_size" := Or.inr (Or.inl (by decide +kernel))
theorem l_law_rule__law_size : Loc (defScope s_law_rule) "_law_size" := Or.inr (by decide +kernel)
theorem v_law_rule__law_words_here : Vis (defScope s_law_rule) "_law_words_here" := Or.inl (by decide +kernel)
theorem l_law_rule__law_words_here : Loc (defScope s_law_rule) "_law_words_here" := Or.inl (by decide +kernel)
theorem l_law_rule__law_share : Loc (defScope s_law_rule) "_law_share" := Or.inr (by decide +kernel)
theorem v_law_rule__law_xs : Vis (defScope s_law_rule) "_law_xs" := Or.inr (Or.inl (by decide +kernel))
theorem l_law_rule__law_xs : Loc (defScope s_law_rule) "_law_xs" := Or.inr (by decide +kernel)
theorem v_law_rule__law_k : Vis (defScope s_law_rule) "_law_k" := Or.inl (by decide +kernel)
theorem l_law_rule__law_k : Loc (defScope s_law_rule) "_law_k" := Or.inl (by decide +kernel)
theorem v_law_rule__law_rooms : Vis (defScope s_law_rule) "_law_rooms" := Or.inl (by decide +kernel)
theorem l_law_rule__law_rooms : Loc (defScope s_law_rule) "_law_rooms" := Or.inl (by decide +kernel)
theorem l_law_rule__law_r : Loc (defScope s_law_rule) "_law_r" := Or.inr (by decide +kernel)
theorem gl_law_rule__law_cell_at : (defScope s_law_rule).names.lookup ("_law_cell_at" : Str) = some .globalImplicit := by decide +kernel
theorem gl_law_rule__law_mixed : (defScope s_law_rule).names.lookup ("_law_mixed" : Str) = some .globalImplicit := by decide +kernel
theorem gl_law_rule__law_shaped : (defScope s_law_rule).names.lookup ("_law_shaped" : Str) = some .globalImplicit := by decide +kernel
theorem gl_law_rule__law_words : (defScope s_law_rule).names.lookup ("_law_words" : Str) = some .globalImplicit := by decide +kernel
theorem gl_law_rule_len : (defScope s_law_rule).names.lookup ("len" : Str) = some .globalImplicit := by decide +kernel
theorem gl_law_rule_min : (defScope s_law_rule).names.lookup ("min" : Str) = some .globalImplicit := by decide +kernel
theorem gl_law_rule_range : (defScope s_law_rule).names.lookup ("range" : Str) = some .globalImplicit := by decide +kernel

abbrev s_law_is_way : Stmt := top 18
theorem sc_law_is_way : FnScope ["_law_to", "_law_many"] ["_law_to", "_law_many"] (defScope s_law_is_way) := ⟨rfl, rfl, rfl, by decide +kernel, rfl, by decide +kernel, by decide +kernel⟩
theorem v_law_is_way__law_to : Vis (defScope s_law_is_way) "_law_to" := Or.inl (by decide +kernel)
theorem v_law_is_way__law_many : Vis (defScope s_law_is_way) "_law_many" := Or.inl (by decide +kernel)
theorem gl_law_is_way_bool : (defScope s_law_is_way).names.lookup ("bool" : Str) = some .globalImplicit := by decide +kernel
theorem gl_law_is_way_int : (defScope s_law_is_way).names.lookup ("int" : Str) = some .globalImplicit := by decide +kernel
theorem gl_law_is_way_isinstance : (defScope s_law_is_way).names.lookup ("isinstance" : Str) = some .globalImplicit := by decide +kernel

abbrev s_law_is_rooms : Stmt := top 19
theorem sc_law_is_rooms : FnScope ["_law_found", "_law_many", "_law_room", "_law_to"] ["_law_found", "_law_many"] (defScope s_law_is_rooms) := ⟨rfl, rfl, rfl, by decide +kernel, rfl, by decide +kernel, by decide +kernel⟩
theorem v_law_is_rooms__law_found : Vis (defScope s_law_is_rooms) "_law_found" := Or.inl (by decide +kernel)
theorem v_law_is_rooms__law_many : Vis (defScope s_law_is_rooms) "_law_many" := Or.inl (by decide +kernel)
theorem v_law_is_rooms__law_room : Vis (defScope s_law_is_rooms) "_law_room" := Or.inl (by decide +kernel)
theorem l_law_is_rooms__law_room : Loc (defScope s_law_is_rooms) "_law_room" := Or.inl (by decide +kernel)
theorem v_law_is_rooms__law_to : Vis (defScope s_law_is_rooms) "_law_to" := Or.inl (by decide +kernel)
theorem l_law_is_rooms__law_to : Loc (defScope s_law_is_rooms) "_law_to" := Or.inl (by decide +kernel)
theorem gl_law_is_rooms__law_is_way : (defScope s_law_is_rooms).names.lookup ("_law_is_way" : Str) = some .globalImplicit := by decide +kernel
theorem gl_law_is_rooms_isinstance : (defScope s_law_is_rooms).names.lookup ("isinstance" : Str) = some .globalImplicit := by decide +kernel
theorem gl_law_is_rooms_len : (defScope s_law_is_rooms).names.lookup ("len" : Str) = some .globalImplicit := by decide +kernel
theorem gl_law_is_rooms_list : (defScope s_law_is_rooms).names.lookup ("list" : Str) = some .globalImplicit := by decide +kernel

abbrev s_law_all_unlike : Stmt := top 20
theorem sc_law_all_unlike : FnScope ["_law_rooms", "_law_groups", "_law_count", "_law_known", "_law_parted", "_law_r", "_law_key"] ["_law_rooms"] (defScope s_law_all_unlike) := ⟨rfl, rfl, rfl, by decide +kernel, rfl, by decide +kernel, by decide +kernel⟩
theorem v_law_all_unlike__law_rooms : Vis (defScope s_law_all_unlike) "_law_rooms" := Or.inl (by decide +kernel)
theorem v_law_all_unlike__law_groups : Vis (defScope s_law_all_unlike) "_law_groups" := Or.inr (Or.inl (by decide +kernel))
theorem l_law_all_unlike__law_groups : Loc (defScope s_law_all_unlike) "_law_groups" := Or.inr (by decide +kernel)
theorem v_law_all_unlike__law_count : Vis (defScope s_law_all_unlike) "_law_count" := Or.inl (by decide +kernel)
theorem l_law_all_unlike__law_count : Loc (defScope s_law_all_unlike) "_law_count" := Or.inl (by decide +kernel)
theorem v_law_all_unlike__law_known : Vis (defScope s_law_all_unlike) "_law_known" := Or.inl (by decide +kernel)
theorem l_law_all_unlike__law_known : Loc (defScope s_law_all_unlike) "_law_known" := Or.inl (by decide +kernel)
theorem v_law_all_unlike__law_parted : Vis (defScope s_law_all_unlike) "_law_parted" := Or.inl (by decide +kernel)
theorem l_law_all_unlike__law_parted : Loc (defScope s_law_all_unlike) "_law_parted" := Or.inl (by decide +kernel)
theorem v_law_all_unlike__law_r : Vis (defScope s_law_all_unlike) "_law_r" := Or.inl (by decide +kernel)
theorem l_law_all_unlike__law_r : Loc (defScope s_law_all_unlike) "_law_r" := Or.inl (by decide +kernel)
theorem v_law_all_unlike__law_key : Vis (defScope s_law_all_unlike) "_law_key" := Or.inl (by decide +kernel)
theorem l_law_all_unlike__law_key : Loc (defScope s_law_all_unlike) "_law_key" := Or.inl (by decide +kernel)
theorem gl_law_all_unlike_len : (defScope s_law_all_unlike).names.lookup ("len" : Str) = some .globalImplicit := by decide +kernel
theorem gl_law_all_unlike_range : (defScope s_law_all_unlike).names.lookup ("range" : Str) = some .globalImplicit := by decide +kernel
theorem gl_law_all_unlike_tuple : (defScope s_law_all_unlike).names.lookup ("tuple" : Str) = some .globalImplicit := by decide +kernel

abbrev s_law_in_order : Stmt := top 21
theorem sc_law_in_order : FnScope ["_law_rooms", "_law_seen", "_law_r", "_law_to"] ["_law_rooms"] (defScope s_law_in_order) := ⟨rfl, rfl, rfl, by decide +kernel, rfl, by decide +kernel, by decide +kernel⟩
theorem v_law_in_order__law_rooms : Vis (defScope s_law_in_order) "_law_rooms" := Or.inl (by decide +kernel)
theorem v_law_in_order__law_seen : Vis (defScope s_law_in_order) "_law_seen" := Or.inl (by decide +kernel)
theorem l_law_in_order__law_seen : Loc (defScope s_law_in_order) "_law_seen" := Or.inl (by decide +kernel)
theorem v_law_in_order__law_r : Vis (defScope s_law_in_order) "_law_r" := Or.inl (by decide +kernel)
theorem l_law_in_order__law_r : Loc (defScope s_law_in_order) "_law_r" := Or.inl (by decide +kernel)
theorem v_law_in_order__law_to : Vis (defScope s_law_in_order) "_law_to" := Or.inl (by decide +kernel)
theorem l_law_in_order__law_to : Loc (defScope s_law_in_order) "_law_to" := Or.inl (by decide +kernel)
theorem gl_law_in_order_len : (defScope s_law_in_order).names.lookup ("len" : Str) = some .globalImplicit := by decide +kernel
theorem gl_law_in_order_range : (defScope s_law_in_order).names.lookup ("range" : Str) = some .globalImplicit := by decide +kernel

abbrev s_law : Stmt := top 22
theorem sc_law : FnScope ["_law_script", "_law_rule_here", "_law_found", "_law_again"] ["_law_script"] (defScope s_law) := ⟨rfl, rfl, rfl, by decide +kernel, rfl, by decide +kernel, by decide +kernel⟩
theorem v_law__law_script : Vis (defScope s_law) "_law_script" := Or.inl (by decide +kernel)
theorem v_law__law_rule_here : Vis (defScope s_law) "_law_rule_here" := Or.inl (by decide +kernel)
theorem l_law__law_rule_here : Loc (defScope s_law) "_law_rule_here" := Or.inl (by decide +kernel)
theorem v_law__law_found : Vis (defScope s_law) "_law_found" := Or.inl (by decide +kernel)
theorem l_law__law_found : Loc (defScope s_law) "_law_found" := Or.inl (by decide +kernel)
theorem v_law__law_again : Vis (defScope s_law) "_law_again" := Or.inl (by decide +kernel)
theorem l_law__law_again : Loc (defScope s_law) "_law_again" := Or.inl (by decide +kernel)
theorem gl_law__law_all_unlike : (defScope s_law).names.lookup ("_law_all_unlike" : Str) = some .globalImplicit := by decide +kernel
theorem gl_law__law_in_order : (defScope s_law).names.lookup ("_law_in_order" : Str) = some .globalImplicit := by decide +kernel
theorem gl_law__law_is_rooms : (defScope s_law).names.lookup ("_law_is_rooms" : Str) = some .globalImplicit := by decide +kernel
theorem gl_law__law_rule : (defScope s_law).names.lookup ("_law_rule" : Str) = some .globalImplicit := by decide +kernel
theorem gl_law_isinstance : (defScope s_law).names.lookup ("isinstance" : Str) = some .globalImplicit := by decide +kernel
theorem gl_law_least_rule : (defScope s_law).names.lookup ("least_rule" : Str) = some .globalImplicit := by decide +kernel
theorem gl_law_len : (defScope s_law).names.lookup ("len" : Str) = some .globalImplicit := by decide +kernel
theorem gl_law_list : (defScope s_law).names.lookup ("list" : Str) = some .globalImplicit := by decide +kernel
theorem gl_law_tuple : (defScope s_law).names.lookup ("tuple" : Str) = some .globalImplicit := by decide +kernel

/-! ### what the law draws: cells, mixed numbers, words, rules -/
abbrev letters : Str := "abcdefghijklmnopqrstuvwxyz"
def spLaw (K : PySem.W.Frag) : Sp := fun vs H Q _ => ∃ (a : Addr) (ns : List Int), vs = [.ref a] ∧ SqL K H a (ns.map V.int) ∧ ns.length ≤ 63 ∧ ∀ H', Q (.bl true) H'
def spCell (K : PySem.W.Frag) : Sp := fun vs H Q _ => ∃ (a : Addr) (ns : List Int) (k : Int), vs = [.ref a, .int k] ∧ SqL K H a (ns.map V.int) ∧ 0 ≤ k ∧ Q (.int (ns.getD k.toNat 0)) H
def spMixed : Sp := fun vs H Q _ => ∃ (c n : Int), vs = [.int c, .int n] ∧ 0 ≤ n ∧ n ≤ 100000 ∧ ∀ (p : Addr) (H' : Hp) (ms : List Int), Same H H' → H p = none → H' p = some (.lst (ms.map V.int)) → (ms.length : Int) = n → (∀ m ∈ ms, 0 ≤ m ∧ m < 2147483647) → Q (.ref p) H'
/-- a new list of n texts, none longer than b -/
def spTexts (n : Int) (b : Nat) (H : Hp) (Q : VK) : Prop := ∀ (p : Addr) (H' : Hp) (ss : List Str), Same H H' → H p = none → H' p = some (.lst (ss.map V.str)) → (ss.length : Int) = n → (∀ s ∈ ss, s.length ≤ b) → Q (.ref p) H'
def spWords : Sp := fun vs H Q _ => ∃ (c n s : Int), vs = [.int c, .int n, .int s] ∧ 0 ≤ n ∧ n ≤ 16 ∧ spTexts n 10 H Q
def wayV : Option Nat → V
  | none => .non
  | some n => .int n
def spWay : Sp := fun vs H Q _ => ∃ (m s n : Int), vs = [.int m, .int s, .int n] ∧ 0 < s ∧ s < 1073741824 ∧ 0 < n ∧ n < 1073741824 ∧ ∀ o : Option Nat, (∀ k, o = some k → (k : Int) < n) → Q (wayV o) H
theorem letter_at (z : Int) : ∃ c, letters.length ≤ sizeLine ∧ atI letters.cps.toList (z % 26) = some c ∧ c ∈ letters.cps.toList := by
  have hz : (z % 26).toNat < letters.cps.toList.length := by
    show (z % 26).toNat < 26
    omega
  refine ⟨letters.cps.toList[(z % 26).toNat], by decide, ?_, List.getElem_mem hz⟩
  have q := atI_nat (List.getElem?_eq_getElem hz)
  rwa [show (((z % 26).toNat : Nat) : Int) = z % 26 by omega] at q
theorem len_app1 (x : Str) (c : Nat) : (x ++ (⟨#[c]⟩ : Str)).length = x.length + 1 := by rw [Str.length_append]; rfl
section
variable {P : Program} {w : World} {K : PySem.W.Frag} {mg : Str → Option Value} {base : Heap}
theorem ok_cell (D : DefAt K mg "_law_cell_at" s_law_cell_at) (z_len : mg "len" = none) : Cal P w K mg base 1 "_law_cell_at" ["_law_script", "_law_k"] (spCell K) := by
  refine D.cal sc_law_cell_at (fun _ _ _ _ _ _ us hl => match us, hl with | [_, _], _ => rfl) (fun vs H Q E h => by obtain ⟨a, ns, k, rfl, _⟩ := h; rfl) (fun f cdv A outer s H vs Q E hr h => ?_)
  obtain ⟨a, ns, k, rfl, hS, h0, q⟩ := h
  refine ⟨_, (pss_cons (ps_if (pt_cmpR op_ltA (pv 1 (hv := v_law_cell_at__law_k)) (pe_blt (call_lenK K) z_len bt_len (pa_cons (pv 0 (hv := v_law_cell_at__law_script)) pa_nil) (hg := gl_law_cell_at_len)) (nomark _)) (pss_one (ps_ret (pe_ix (ix_K K) (pv 0 (hv := v_law_cell_at__law_script)) (pv 1 (hv := v_law_cell_at__law_k)) (fun _ _ => rfl)))) pss_nil)
      (pss_one (ps_ret pe_int))), ?_⟩
  walk_at "rd"
  refine ⟨_, .inl hS, ite2 (fun c => ?_) (fun c => ?_)⟩
  · rw [List.length_map] at c
    refine ⟨_, .int (ns.getD k.toNat 0), .inl hS, at_map h0 ?_, q⟩
    rw [List.getD_eq_getElem?_getD, List.getElem?_eq_getElem (by omega)]; rfl
  · rw [List.length_map] at c
    have e : ns.getD k.toNat 0 = 0 := by
      rw [List.getD_eq_getElem?_getD, List.getElem?_eq_none (by omega)]; rfl
    rw [e] at q; exact q
theorem ok_mixed (D : DefAt K mg "_law_mixed" s_law_mixed) (z_range : mg "range" = none) : Cal P w K mg base 1 "_law_mixed" ["_law_cell", "_law_many"] spMixed := by
  refine D.cal sc_law_mixed (fun _ _ _ _ _ _ us hl => match us, hl with | [_, _], _ => rfl) (fun vs H Q E h => by obtain ⟨c, n, rfl, _⟩ := h; rfl) (fun f cdv A outer s H vs Q E hr h => ?_)
  obtain ⟨c, n, rfl, h0, h1, q⟩ := h
  refine ⟨_, (pss_cons (ps_let 2 sc_law_mixed.nd (pe_op op_addA pe_int (pe_op op_mod (pv 0 (hv := v_law_mixed__law_cell)) pe_int)) (hx := l_law_mixed__law_number))
      (pss_cons (ps_let 3 sc_law_mixed.nd (pe_lst pa_nil) (hx := l_law_mixed__law_found))
      (pss_cons (ps_for PassesOwn.never rfl (pi_range1 gl_law_mixed_range z_range (pa_cons (pv 1 (hv := v_law_mixed__law_many)) pa_nil)) (pg_let 4 sc_law_mixed.nd (hx := l_law_mixed__law_k)) (pss_cons (ps_let 2 sc_law_mixed.nd (pe_op op_mod (pe_op op_mulB (pv 2 (hv := v_law_mixed__law_number)) pe_int) pe_int) (hx := l_law_mixed__law_number))
      (pss_one (ps_expr (pe_bmK K PySem.F.plainAttrs_list PySem.F.slot_list_append PySem.F.type_list_append mt_appendA (pv 3 (hv := v_law_mixed__law_found)) (pa_cons (pv 2 (hv := v_law_mixed__law_number)) pa_nil))))))
      (pss_one (ps_ret (pv 3 (hv := v_law_mixed__law_found))))))), ?_⟩
  walk_at "rd"
  refine ⟨by decide, by decide, fun p hp => ⟨by omega, by omega, ?_⟩⟩
  refine forW_range (fun i σ H' => ∃ (m : Int) (ms : List Int) (o : Option V), σ = [some (.int c), some (.int n), some (.int m), some (.ref p), o] ∧ Same H H' ∧ H' p = some (.lst (ms.map V.int)) ∧ ms.length = i ∧ (∀ x ∈ ms, 0 ≤ x ∧ x < 2147483647) ∧ 0 ≤ m ∧ m < 2147483648)
    ⟨_, [], none, rfl, same_new hp _, upd_same, rfl, (by simp), by omega, by omega⟩ ?_ ?_
  · rintro i σ H' hi ⟨m, ms, o, rfl, sm, hl, hn, hb, m0, m1⟩
    walk_at "rd"
    refine ⟨.inl ⟨by omega, by omega⟩, by decide, ⟨_, SqL.of hl⟩, _, hl, by rw [List.length_map]; exact small' (by omega), ?_⟩
    refine ⟨_, ms ++ [m * 16807 % 2147483647], _, rfl, fun b o' e => ?_, ?_, by simp [hn], fun x hx => ?_, by omega, by omega⟩
    · rw [upd_ne (ne_of_none e hp)]; exact sm b o' e
    · rw [upd_same, List.map_append]; rfl
    · rcases List.mem_append.mp hx with z | z
      · exact hb x z
      · rw [List.mem_singleton.mp z]; omega
  · rintro σ H' ⟨m, ms, o, rfl, sm, hl, hn, hb, m0, m1⟩
    walk_at "rd"
    exact q p H' ms sm hp hl (by omega) hb
theorem ok_way (D : DefAt K mg "_law_way" s_law_way) : Cal P w K mg base 1 "_law_way" ["_law_number", "_law_share", "_law_many"] spWay := by
  refine D.cal sc_law_way (fun _ _ _ _ _ _ us hl => match us, hl with | [_, _, _], _ => rfl) (fun vs H Q E h => by obtain ⟨m, s, n, rfl, _⟩ := h; rfl) (fun f cdv A outer s H vs Q E hr h => ?_)
  obtain ⟨m, s, n, rfl, s0, s1, n0, n1, q⟩ := h
  refine ⟨_, (pss_cons (ps_if (pt_cmpR op_eqA (pe_op op_mod (pv 0 (hv := v_law_way__law_number)) (pv 1 (hv := v_law_way__law_share))) pe_int (nomark _)) (pss_one (ps_ret pe_non)) pss_nil)
      (pss_one (ps_ret (pe_op op_mod (pe_op op_fdiv (pv 0 (hv := v_law_way__law_number)) (pv 1 (hv := v_law_way__law_share))) (pv 2 (hv := v_law_way__law_many)))))), ?_⟩
  walk_at "rd"
  refine ⟨s0, ite2 (fun c => ?_) (fun c => ?_)⟩
  · exact q none (fun k e => by cases e)
  · refine ⟨⟨s0, s1⟩, n0, ?_⟩
    have a1 := Int.emod_nonneg (m / s) (show n ≠ 0 by omega)
    have a2 := Int.emod_lt_of_pos (m / s) n0
    have q' := q (some (m / s % n).toNat) (fun k e => by cases e; omega)
    have e : V.int (m / s % n) = wayV (some (m / s % n).toNat) := by
      show _ = V.int (((m / s % n).toNat : Nat) : Int)
      rw [show (((m / s % n).toNat : Nat) : Int) = m / s % n by omega]
    rw [e]; exact q'
theorem side_str (z : Int) : (1 + z % 2).natAbs.log2 < 1920 ∧ (toString (1 + z % 2) : Str).length = 1 := by
  have h : z % 2 = 0 ∨ z % 2 = 1 := by omega
  rcases h with h | h <;> rw [h] <;> exact ⟨by decide, by decide +kernel⟩
theorem sided_len {x y : Str} (hx : x.length = 1) (hy : y.length ≤ 8) : (x ++ (Str.ofString ".")).length = 2 ∧ ((x ++ (Str.ofString ".")) ++ y).length ≤ 10 := by
  have e : (Str.ofString ".").length = 1 := by decide +kernel
  have l1 : (x ++ (Str.ofString ".")).length = 2 := by rw [Str.length_append, hx, e]
  exact ⟨l1, by rw [Str.length_append, l1]; omega⟩
theorem texts_sorted {H H1 : Hp} {n : Int} {b : Nat} {Q : VK} {ss : List Str} {p : Addr} (q : spTexts n b H Q) (sm : Same H H1) (hn : (ss.length : Int) = n) (n1 : n ≤ 16) (hb : ∀ s ∈ ss, s.length ≤ b) (hl : SqL K H1 p (ss.map V.str)) :
    ∃ ss : List Str, SqL K H1 p (ss.map V.str) ∧ ss.length < 64 ∧ ∀ (l : Addr) (ts : List Str), H1 l = none → ts.Perm ss → sortedS ts = true → Q (.ref l) (upd H1 l (.lst (ts.map V.str))) :=
  ⟨ss, hl, by omega, fun l ts h1 h2 h3 => q l _ ts (sm.trans (same_new h1 _)) (sm.free h1) upd_same (by rw [h2.length_eq]; exact hn) fun s hs => hb s (h2.mem_iff.mp hs)⟩
end
/-! ### a rule as data, and in the heap -/
structure Rl where
  s : Int
  ws : List Str
  rs : List (List (Option Nat))
structure RlOk (r : Rl) : Prop where
  s : r.s = 1 ∨ r.s = 2
  nw : r.ws.length ≤ 16
  n0 : 1 ≤ r.rs.length
  n1 : r.rs.length ≤ 60
  row : ∀ x ∈ r.rs, x.length = r.ws.length ∧ ∀ k, some k ∈ x → k < r.rs.length
  lw : ∀ w ∈ r.ws, w.length ≤ 10
def RoomsAs (H : Hp) (p : Addr) (rs : List (List (Option Nat))) (as : List Addr) : Prop :=
  H p = some (.lst (as.map V.ref)) ∧ as.length = rs.length ∧ ∀ (i : Nat) a x, as[i]? = some a → rs[i]? = some x → H a = some (.lst (x.map wayV))
def RuleAt (H : Hp) (p : Addr) (r : Rl) : Prop := ∃ pw pr as, H p = some (.tup [.int r.s, .ref pw, .ref pr]) ∧ H pw = some (.lst (r.ws.map V.str)) ∧ RoomsAs H pr r.rs as
theorem RoomsAs.mono {H H' : Hp} {p : Addr} {rs : List (List (Option Nat))} {as : List Addr} (sm : Same H H') (h : RoomsAs H p rs as) : RoomsAs H' p rs as := by
  obtain ⟨h1, h2, h3⟩ := h
  exact ⟨sm _ _ h1, h2, fun i a x e1 e2 => sm _ _ (h3 i a x e1 e2)⟩
theorem RuleAt.mono {H H' : Hp} {p : Addr} {r : Rl} (sm : Same H H') (h : RuleAt H p r) : RuleAt H' p r := by
  obtain ⟨pw, pr, as, h1, h2, h3⟩ := h
  exact ⟨pw, pr, as, sm _ _ h1, sm _ _ h2, h3.mono sm⟩
theorem ways_flat (x : List (Option Nat)) : ∀ v ∈ x.map wayV, flatV v = true := by
  intro v hv
  obtain ⟨o, _, rfl⟩ := List.mem_map.mp hv
  cases o <;> rfl
theorem strs_flat (x : List Str) : ∀ v ∈ x.map V.str, flatV v = true := by
  intro v hv
  obtain ⟨o, _, rfl⟩ := List.mem_map.mp hv
  rfl
theorem rooms_eq {K : PySem.W.Frag} {H : Hp} {p q : Addr} {rs : List (List (Option Nat))} {as bs : List Addr} (h1 : RoomsAs H p rs as) (h2 : RoomsAs H q rs bs) : EqN K H 2 (.ref p) (.ref q) true := by
  obtain ⟨a1, a2, a3⟩ := h1
  obtain ⟨b1, b2, b3⟩ := h2
  refine EqN.seq (.inl ⟨SqL.of a1, SqL.of b1⟩) (by simp; omega) fun i x y e1 e2 => ?_
  rw [List.getElem?_map] at e1 e2
  cases qa : as[i]? with
  | none => rw [qa] at e1; cases e1
  | some a =>
    cases qb : bs[i]? with
    | none => rw [qb] at e2; cases e2
    | some b =>
      rw [qa] at e1; rw [qb] at e2
      cases e1; cases e2
      have hi : i < rs.length := by have := (List.getElem?_eq_some_iff.mp qa).1; omega
      exact EqN.seqFlat (.inl ⟨SqL.of (a3 i a _ qa (List.getElem?_eq_getElem hi)), SqL.of (b3 i b _ qb (List.getElem?_eq_getElem hi))⟩) (ways_flat _)
theorem rule_eq {K : PySem.W.Frag} {H : Hp} {p q : Addr} {r : Rl} (h1 : RuleAt H p r) (h2 : RuleAt H q r) : EqN K H 3 (.ref p) (.ref q) true := by
  obtain ⟨pw, pr, as, a1, a2, a3⟩ := h1
  obtain ⟨qw, qr, bs, b1, b2, b3⟩ := h2
  refine EqN.seq (.inr ⟨SqT.of a1, SqT.of b1⟩) rfl fun i x y e1 e2 => ?_
  match i, e1, e2 with
  | 0, e1, e2 => cases e1; cases e2; exact EqN.refl rfl
  | 1, e1, e2 => cases e1; cases e2; exact EqN.seqFlat (.inl ⟨SqL.of a2, SqL.of b2⟩) (strs_flat _)
  | 2, e1, e2 => cases e1; cases e2; exact rooms_eq a3 b3
  | i + 3, e1, e2 => simp at e1
/-- [list(room) for room in rooms] -/
theorem copy_rooms {K : PySem.W.Frag} {pr L : Addr} {g : TG} {te : TE} {nT : Nat} {σ : L2.St} {Q : VK} {H : Hp} {rs : List (List (Option Nat))} {as : List Addr} (hR : RoomsAs H pr rs as) (hn : rs.length ≤ 60) (hL : H L = none)
    (hs : ∀ (a : Addr) (xs : List V) (H' : Hp) (C : VK), H' a = some (.lst xs) → (∀ l, H' l = none → C (.ref l) (upd H' l (.lst xs))) → g (.ref a) (σ ++ List.replicate nT none) H' fun σ2 H2 => te σ2 H2 C)
    (q : ∀ H' bs, Same H H' → RoomsAs H' L rs bs → (∀ b ∈ bs, H b = none ∧ b ≠ L) → bs.Nodup → Q (.ref L) H') : compW (Itl K pr) g tYes te nT σ L Q (upd H L (.lst [])) := by
  obtain ⟨h1, h2, h3⟩ := hR
  refine compW_list (xs := as.map V.ref) (fun i ys H' => ∃ bs : List Addr, Same H H' ∧ H' L = some (.lst ys) ∧ ys = bs.map V.ref ∧ bs.length = i ∧ (∀ b ∈ bs, H b = none ∧ b ≠ L ∧ ∃ o, H' b = some o) ∧ bs.Nodup ∧ ∀ (j : Nat) b x, bs[j]? = some b → rs[j]? = some x → H' b = some (.lst (x.map wayV)))
    ⟨[], same_new hL _, upd_same, rfl, rfl, by simp, List.nodup_nil, by simp⟩ (fun i ys H' _ h => by obtain ⟨_, sm, _⟩ := h; exact SqL.of (sm _ _ h1)) ?_ ?_
  · rintro i ys H' x hx hi ⟨bs, sm, hl, rfl, hb, hbn, hnd, hbx⟩
    rw [List.getElem?_map] at hx
    cases qa : as[i]? with
    | none => rw [qa] at hx; cases hx
    | some a =>
      rw [qa] at hx; cases hx
      have hi' : i < rs.length := by have := (List.getElem?_eq_some_iff.mp qa).1; omega
      have ha := h3 i a _ qa (List.getElem?_eq_getElem hi')
      have e := hs a _ H' (CStep (as.map V.ref).length i (fun i ys H' => ∃ bs : List Addr, Same H H' ∧ H' L = some (.lst ys) ∧ ys = bs.map V.ref ∧ bs.length = i ∧ (∀ b ∈ bs, H b = none ∧ b ≠ L ∧ ∃ o, H' b = some o) ∧ bs.Nodup ∧ ∀ (j : Nat) b x, bs[j]? = some b → rs[j]? = some x → H' b = some (.lst (x.map wayV))) L (bs.map V.ref)) (sm _ _ ha) ?_
      · have e2 : (compK (as.map V.ref).length i (fun i ys H' => ∃ bs : List Addr, Same H H' ∧ H' L = some (.lst ys) ∧ ys = bs.map V.ref ∧ bs.length = i ∧ (∀ b ∈ bs, H b = none ∧ b ≠ L ∧ ∃ o, H' b = some o) ∧ bs.Nodup ∧ ∀ (j : Nat) b x, bs[j]? = some b → rs[j]? = some x → H' b = some (.lst (x.map wayV))) L (bs.map V.ref) te) = fun σ2 H2 => te σ2 H2 (CStep (as.map V.ref).length i (fun i ys H' => ∃ bs : List Addr, Same H H' ∧ H' L = some (.lst ys) ∧ ys = bs.map V.ref ∧ bs.length = i ∧ (∀ b ∈ bs, H b = none ∧ b ≠ L ∧ ∃ o, H' b = some o) ∧ bs.Nodup ∧ ∀ (j : Nat) b x, bs[j]? = some b → rs[j]? = some x → H' b = some (.lst (x.map wayV))) L (bs.map V.ref)) := by
          funext σ2 H2; exact compK_at
        rw [e2]; exact e
      · intro l hl0
        have nl : l ≠ L := by
          rintro rfl
          rw [hl] at hl0; cases hl0
        have hl' : upd H' l (.lst ((rs[i]).map wayV)) L = some (.lst (bs.map V.ref)) := by rw [upd_ne (Ne.symm nl)]; exact hl
        refine cstep hi (by rw [List.length_map]; exact hb) (by rw [List.length_map, h2]; exact smallL (by omega)) hl' ⟨bs ++ [l], (sm.trans (same_new hl0 _)).upd hL _, upd_same, by rw [List.map_append]; rfl, by simp [hb], ?_, ?_, ?_⟩
        · intro b hb'
          rcases List.mem_append.mp hb' with z | z
          · obtain ⟨z1, z2, o, z3⟩ := hbn b z
            exact ⟨z1, z2, o, by rw [upd_ne z2]; exact (same_new hl0 _) _ _ z3⟩
          · rw [List.mem_singleton.mp z]
            exact ⟨sm.free hl0, nl, _, by rw [upd_ne nl]; exact upd_same⟩
        · rw [List.nodup_append]
          refine ⟨hnd, by simp, fun b hb' c hc => ?_⟩
          rw [List.mem_singleton.mp hc]
          rintro rfl
          obtain ⟨_, _, o, z⟩ := hbn b hb'
          rw [hl0] at z; cases z
        · intro j b x e1 e2
          rcases Nat.lt_or_ge j bs.length with z | z
          · rw [List.getElem?_append_left z] at e1
            have q1 := hbx j b x e1 e2
            have q2 := (hbn b (List.mem_of_getElem? e1)).2.1
            rw [upd_ne q2]; exact (same_new hl0 _) _ _ q1
          · rw [List.getElem?_append_right z] at e1
            have hj : j - bs.length = 0 := by
              have := (List.getElem?_eq_some_iff.mp e1).1
              simp at this; omega
            rw [hj] at e1
            have e1' : l = b := by simpa using e1
            subst e1'
            have hji : j = i := by omega
            subst hji
            rw [List.getElem?_eq_getElem hi'] at e2
            cases e2
            rw [upd_ne nl]; exact upd_same
  · rintro ys H' ⟨bs, sm, hl, rfl, hb, hbn, hnd, hbx⟩
    exact q H' bs sm ⟨hl, by rw [hb, List.length_map, h2], hbx⟩ (fun b z => ⟨(hbn b z).1, (hbn b z).2.1⟩) hnd
/-! ### the law's own rule -/
def spRule (K : PySem.W.Frag) : Sp := fun vs H Q _ => ∃ (a : Addr) (ns : List Int), vs = [.ref a] ∧ SqL K H a (ns.map V.int) ∧ ns.length ≤ 63 ∧ ∀ (p : Addr) (H' : Hp) (r : Rl), Same H H' → RuleAt H' p r → RlOk r → Q (.ref p) H'
theorem share_at (l : List Int) (c : Int) (h : l.length = 4) (hb : ∀ x ∈ l, 0 < x ∧ x < 1073741824) : ∃ v, atI (l.map V.int) (c % 4) = some (.int v) ∧ 0 < v ∧ v < 1073741824 := by
  obtain ⟨v, hv, _⟩ := at_lst (xs := l) (i := c % 4) (by omega) (by omega)
  exact ⟨v, at_map (by omega) hv, (hb v (List.mem_of_getElem? hv)).1, (hb v (List.mem_of_getElem? hv)).2⟩
theorem mul_in {n z r j : Int} (n0 : 0 ≤ n) (r1 : r < z) (j1 : j < n) : n * r + j < n * z := by
  have h : n * (r + 1) ≤ n * z := Int.mul_le_mul_of_nonneg_left (by omega) n0
  rw [Int.mul_add, Int.mul_one] at h
  omega
theorem mul_nn {n r j : Int} (n0 : 0 ≤ n) (r0 : 0 ≤ r) (j0 : 0 ≤ j) : 0 ≤ n * r + j := by
  have := Int.mul_nonneg n0 r0
  omega
theorem mul_16_60 {n z : Int} (n0 : 0 ≤ n) (n1 : n ≤ 16) (z0 : 1 ≤ z) (z1 : z ≤ 60) : 0 ≤ n * z ∧ n * z ≤ 960 := by
  refine ⟨Int.mul_nonneg n0 (by omega), ?_⟩
  have h : n * z ≤ 16 * 60 := Int.mul_le_mul n1 z1 (by omega) (by decide)
  omega
/-! ### the least rule, as a function; kinds -/
abbrev Rms := List (List (Option Nat))
def firsts {α : Type} [DecidableEq α] : List α → List α → List α
  | acc, [] => acc
  | acc, m :: ms => firsts (if m ∈ acc then acc else acc ++ [m]) ms
section
variable {α : Type} [DecidableEq α]
theorem firsts_snoc : ∀ (ms acc : List α) (m : α), firsts acc (ms ++ [m]) = if m ∈ firsts acc ms then firsts acc ms else firsts acc ms ++ [m]
  | [], acc, m => rfl
  | x :: ms, acc, m => by
    show firsts _ (ms ++ [m]) = _
    rw [firsts_snoc ms]; rfl
theorem firsts_pre : ∀ (ms acc : List α), ∃ t, firsts acc ms = acc ++ t
  | [], acc => ⟨[], by simp [firsts]⟩
  | m :: ms, acc => by
    obtain ⟨t, e⟩ := firsts_pre ms (if m ∈ acc then acc else acc ++ [m])
    show ∃ t, firsts (if m ∈ acc then acc else acc ++ [m]) ms = acc ++ t
    by_cases h : m ∈ acc
    · rw [if_pos h] at e ⊢; exact ⟨t, e⟩
    · rw [if_neg h] at e ⊢; exact ⟨[m] ++ t, by rw [e, List.append_assoc]⟩
theorem firsts_mem : ∀ (ms acc : List α) (x : α), x ∈ firsts acc ms ↔ x ∈ acc ∨ x ∈ ms
  | [], acc, x => by simp [firsts]
  | m :: ms, acc, x => by
    show x ∈ firsts (if m ∈ acc then acc else acc ++ [m]) ms ↔ _
    rw [firsts_mem ms]
    by_cases h : m ∈ acc
    · rw [if_pos h]
      constructor
      · rintro (z | z)
        · exact .inl z
        · exact .inr (List.mem_cons_of_mem _ z)
      · rintro (z | z)
        · exact .inl z
        · rcases List.mem_cons.mp z with rfl | z
          · exact .inl h
          · exact .inr z
    · rw [if_neg h, List.mem_append, List.mem_singleton, List.mem_cons, or_assoc]
theorem firsts_nodup : ∀ (ms acc : List α), acc.Nodup → (firsts acc ms).Nodup
  | [], acc, h => h
  | m :: ms, acc, h => by
    show (firsts (if m ∈ acc then acc else acc ++ [m]) ms).Nodup
    refine firsts_nodup ms _ ?_
    by_cases hm : m ∈ acc
    · rw [if_pos hm]; exact h
    · rw [if_neg hm, List.nodup_append]
      exact ⟨h, by simp, fun x hx y hy e => by rw [List.mem_singleton.mp hy] at e; exact hm (e ▸ hx)⟩
theorem idxOf_pre {l t : List α} {x : α} (h : x ∈ l) : (l ++ t).idxOf x = l.idxOf x := by
  rw [List.idxOf_append, if_pos h]
/-- each item by the place at which it came first -/
def numbered (ms : List α) : List Nat := ms.map fun m => (firsts [] ms).idxOf m
theorem numbered_at {ms : List α} {i : Nat} {m : α} (h : ms[i]? = some m) : (firsts [] (ms.take (i + 1))).idxOf m = (firsts [] ms).idxOf m := by
  have e : ms = ms.take (i + 1) ++ ms.drop (i + 1) := (List.take_append_drop _ _).symm
  have hm : m ∈ ms.take (i + 1) := by
    rw [List.take_add_one, h]; simp
  have step : ∀ (a b acc : List α), firsts acc (a ++ b) = firsts (firsts acc a) b := by
    intro a
    induction a with
    | nil => intro b acc; rfl
    | cons x a ih => intro b acc; exact ih b _
  have q : firsts [] ms = firsts (firsts [] (ms.take (i + 1))) (ms.drop (i + 1)) := by
    rw [← step, ← e]
  obtain ⟨t, ht⟩ := firsts_pre (ms.drop (i + 1)) (firsts [] (ms.take (i + 1)))
  rw [q, ht, idxOf_pre ((firsts_mem _ _ _).mpr (.inr hm))]
def idx (x : α) (l : List α) : Nat := l.idxOf x
theorem idx_lt {x : α} {l : List α} (h : x ∈ l) : idx x l < l.length := List.idxOf_lt_length_iff.mpr h
theorem numbered_ix {ms : List α} {i : Nat} {m : α} (h : ms[i]? = some m) : (numbered ms)[i]? = some (idx m (firsts [] (ms.take (i + 1)))) := by
  unfold idx
  rw [numbered_at h]
  unfold numbered
  rw [List.getElem?_map, h]; rfl
theorem idx_self (x : α) (l : List α) : idx x (x :: l) = 0 := by unfold idx; simp
theorem idx_other {x y : α} (h : y ≠ x) (l : List α) : idx x (y :: l) = idx x l + 1 := by
  unfold idx
  rw [List.idxOf_cons]
  have hb : (y == x) = false := beq_eq_false_iff_ne.mpr h
  rw [hb]; rfl
theorem numbered_eq {ms : List α} {i j : Nat} {m m' : α} (h : ms[i]? = some m) (h' : ms[j]? = some m') : (numbered ms)[i]? = (numbered ms)[j]? ↔ m = m' := by
  unfold numbered
  rw [List.getElem?_map, List.getElem?_map, h, h']
  show some _ = some _ ↔ _
  have hm : m ∈ firsts [] ms := (firsts_mem _ _ _).mpr (.inr (List.mem_of_getElem? h))
  have hm' : m' ∈ firsts [] ms := (firsts_mem _ _ _).mpr (.inr (List.mem_of_getElem? h'))
  constructor
  · intro e
    have e' : (firsts [] ms).idxOf m = (firsts [] ms).idxOf m' := Option.some.inj e
    have h1 := List.getElem_idxOf (List.idxOf_lt_length_iff.mpr hm)
    have h2 := List.getElem_idxOf (List.idxOf_lt_length_iff.mpr hm')
    rw [← h1, ← h2]
    congr 1
  · rintro rfl; rfl
/-- numbers that come in the order 0, 1, 2 .. -/
def Canon (l : List Nat) : Prop := ∀ i, firsts [] (l.take i) = List.range (firsts [] (l.take i)).length
theorem firsts_len_le : ∀ (ms acc : List α), (firsts acc ms).length ≤ acc.length + ms.length
  | [], acc => by simp [firsts]
  | m :: ms, acc => by
    have h := firsts_len_le ms (if m ∈ acc then acc else acc ++ [m])
    show (firsts (if m ∈ acc then acc else acc ++ [m]) ms).length ≤ _
    by_cases hm : m ∈ acc
    · rw [if_pos hm] at h ⊢; rw [List.length_cons]; omega
    · rw [if_neg hm] at h ⊢; rw [List.length_append] at h; rw [List.length_cons]; simp at h; omega
end
section
variable {α β : Type} [DecidableEq α] [DecidableEq β]
theorem firsts_map (f : α → β) : ∀ (ms acc : List α), (∀ x ∈ acc ++ ms, ∀ y ∈ acc ++ ms, f x = f y → x = y) → firsts (acc.map f) (ms.map f) = (firsts acc ms).map f
  | [], acc, _ => rfl
  | m :: ms, acc, h => by
    show firsts (if f m ∈ acc.map f then acc.map f else acc.map f ++ [f m]) (ms.map f) = (firsts (if m ∈ acc then acc else acc ++ [m]) ms).map f
    by_cases hm : m ∈ acc
    · rw [if_pos hm, if_pos (List.mem_map.mpr ⟨m, hm, rfl⟩)]
      exact firsts_map f ms acc fun x hx y hy => h x (by simp at hx ⊢; rcases hx with z | z <;> simp [z]) y (by simp at hy ⊢; rcases hy with z | z <;> simp [z])
    · have hn : f m ∉ acc.map f := fun z => by
        obtain ⟨x, hx, e⟩ := List.mem_map.mp z
        have := h x (by simp [hx]) m (by simp) e
        exact hm (this ▸ hx)
      rw [if_neg hm, if_neg hn]
      have ih := firsts_map f ms (acc ++ [m]) fun x hx y hy => h x (by simp at hx ⊢; rcases hx with z | z | z <;> simp [z]) y (by simp at hy ⊢; rcases hy with z | z | z <;> simp [z])
      rw [List.map_append] at ih
      exact ih
end
theorem idxOf_take {α : Type} [DecidableEq α] {l : List α} (nd : l.Nodup) (c : Nat) (hc : c ≤ l.length) : (l.take c).map (fun x => l.idxOf x) = List.range c := by
  refine List.ext_getElem (by simp; omega) fun i h1 h2 => ?_
  have hi : i < l.length := by simp at h1; omega
  rw [List.getElem_map, List.getElem_take, List.getElem_range]
  exact nd.idxOf_getElem _ hi
theorem canon_numbered {α : Type} [DecidableEq α] (ms : List α) : Canon (numbered ms) := by
  intro i
  have hnd := firsts_nodup ms [] List.nodup_nil
  have e1 : (numbered ms).take i = (ms.take i).map fun m => (firsts [] ms).idxOf m := by unfold numbered; rw [List.map_take]
  have inj : ∀ x ∈ [] ++ ms.take i, ∀ y ∈ [] ++ ms.take i, (firsts [] ms).idxOf x = (firsts [] ms).idxOf y → x = y := fun x hx y hy e => by
    have hx' : x ∈ firsts [] ms := (firsts_mem _ _ _).mpr (.inr (List.mem_of_mem_take (by simpa using hx)))
    have hy' : y ∈ firsts [] ms := (firsts_mem _ _ _).mpr (.inr (List.mem_of_mem_take (by simpa using hy)))
    have h1 := List.getElem_idxOf (List.idxOf_lt_length_iff.mpr hx')
    have h2 := List.getElem_idxOf (List.idxOf_lt_length_iff.mpr hy')
    rw [← h1, ← h2]; congr 1
  have e2 := firsts_map (fun m => (firsts [] ms).idxOf m) (ms.take i) [] inj
  rw [List.map_nil] at e2
  have step : ∀ (a b acc : List α), firsts acc (a ++ b) = firsts (firsts acc a) b := by
    intro a
    induction a with
    | nil => intro b acc; rfl
    | cons x a ih => intro b acc; exact ih b _
  have q : firsts [] ms = firsts (firsts [] (ms.take i)) (ms.drop i) := by rw [← step, List.take_append_drop]
  obtain ⟨t, ht⟩ := firsts_pre (ms.drop i) (firsts [] (ms.take i))
  have e3 : firsts [] (ms.take i) = (firsts [] ms).take (firsts [] (ms.take i)).length := by rw [q, ht, List.take_left]
  have hlen : (firsts [] (ms.take i)).length ≤ (firsts [] ms).length := by rw [q, ht, List.length_append]; omega
  rw [e1, e2, List.length_map]
  conv => lhs; rw [e3]
  exact idxOf_take hnd _ hlen
theorem canon_new {l : List Nat} {i : Nat} {x : Nat} (h : Canon l) (hx : l[i]? = some x) (hn : x ∉ l.take i) : x = (firsts [] (l.take i)).length := by
  have h1 := h i
  have h2 := h (i + 1)
  rw [List.take_add_one, hx] at h2
  show _ = _
  have hn' : x ∉ firsts [] (l.take i) := fun z => by
    rcases (firsts_mem _ _ _).mp z with z | z
    · cases z
    · exact hn z
  have e : firsts [] (l.take i ++ (some x).toList) = firsts [] (l.take i) ++ [x] := by
    show firsts [] (l.take i ++ [x]) = _
    rw [firsts_snoc, if_neg hn']
  rw [e, List.length_append, List.length_singleton, List.range_succ, ← h1] at h2
  have := List.append_cancel_left h2
  simpa using this
theorem canon_ext {a b : List Nat} (ha : Canon a) (hb : Canon b) (hl : a.length = b.length) (h : ∀ i j : Nat, i < a.length → j < a.length → (a[i]? = a[j]? ↔ b[i]? = b[j]?)) : a = b := by
  have key : ∀ i, i ≤ a.length → a.take i = b.take i := by
    intro i
    induction i with
    | zero => intro _; simp
    | succ i ih =>
      intro hi
      have ih' := ih (by omega)
      have hai : i < a.length := by omega
      have hbi : i < b.length := by omega
      rw [List.take_add_one, List.take_add_one, ih', List.getElem?_eq_getElem hai, List.getElem?_eq_getElem hbi]
      congr 2
      by_cases hm : a[i] ∈ a.take i
      · obtain ⟨j, hj, e⟩ := List.mem_iff_getElem.mp hm
        have hj' : j < i := by simp at hj; omega
        rw [List.getElem_take] at e
        have q := (h j i (by omega) hai).mp (by rw [List.getElem?_eq_getElem (by omega), List.getElem?_eq_getElem hai, e])
        rw [List.getElem?_eq_getElem (by omega), List.getElem?_eq_getElem hbi] at q
        have q' : b[j] = b[i] := Option.some.inj q
        rw [← q', ← e]
        have e1 : (a.take i)[j]? = (b.take i)[j]? := by rw [ih']
        rw [List.getElem?_take_of_lt hj', List.getElem?_take_of_lt hj', List.getElem?_eq_getElem (by omega), List.getElem?_eq_getElem (by omega)] at e1
        exact e1
      · have hn : b[i] ∉ b.take i := fun z => by
          obtain ⟨j, hj, e⟩ := List.mem_iff_getElem.mp z
          have hj' : j < i := by simp at hj; omega
          rw [List.getElem_take] at e
          have q := (h j i (by omega) hai).mpr (by rw [List.getElem?_eq_getElem (by omega), List.getElem?_eq_getElem hbi, e])
          rw [List.getElem?_eq_getElem (by omega), List.getElem?_eq_getElem hai] at q
          have q' : a[j] = a[i] := Option.some.inj q
          exact hm (q' ▸ List.mem_iff_getElem.mpr ⟨j, by simp; omega, by rw [List.getElem_take]⟩)
        rw [canon_new ha (List.getElem?_eq_getElem hai) hm, canon_new hb (List.getElem?_eq_getElem hbi) hn, ih']
  have := key a.length (Nat.le_refl _)
  rw [List.take_length] at this
  rw [this, hl, List.take_length]
/-! kinds, parted again and again -/
def mark (R : Rms) (ks : List Nat) (i : Nat) : Nat × List (Option Nat) := (ks.getD i 0, (R.getD i []).map (Option.map fun k => ks.getD k 0))
def marks (R : Rms) (ks : List Nat) : List (Nat × List (Option Nat)) := (List.range R.length).map (mark R ks)
def finer (R : Rms) (ks : List Nat) : List Nat := numbered (marks R ks)
def iter (R : Rms) : Nat → List Nat
  | 0 => R.map fun _ => 0
  | t + 1 => finer R (iter R t)
def kindsOf (R : Rms) : List Nat := iter R (R.length * R.length)
theorem marks_len (R : Rms) (ks : List Nat) : (marks R ks).length = R.length := by simp [marks]
theorem finer_len (R : Rms) (ks : List Nat) : (finer R ks).length = R.length := by simp [finer, numbered, marks]
theorem iter_len (R : Rms) : ∀ t, (iter R t).length = R.length
  | 0 => by simp [iter]
  | t + 1 => finer_len R _
theorem marks_at {R : Rms} {ks : List Nat} {i : Nat} (h : i < R.length) : (marks R ks)[i]? = some (mark R ks i) := by
  unfold marks; rw [List.getElem?_map, List.getElem?_range h]; rfl
theorem finer_eq {R : Rms} {ks : List Nat} {i j : Nat} (hi : i < R.length) (hj : j < R.length) : (finer R ks)[i]? = (finer R ks)[j]? ↔ mark R ks i = mark R ks j := numbered_eq (marks_at hi) (marks_at hj)
theorem canon_zeros (n : Nat) : Canon (List.replicate n 0) := by
  intro i
  rw [List.take_replicate]
  have : ∀ k, firsts ([0] : List Nat) (List.replicate k 0) = [0] := by
    intro k
    induction k with
    | zero => rfl
    | succ k ih => rw [List.replicate_succ]; show firsts (if 0 ∈ [0] then [0] else [0] ++ [0]) _ = _; rw [if_pos (by simp)]; exact ih
  cases h : min i n with
  | zero => rfl
  | succ k =>
    rw [List.replicate_succ]
    show firsts (if (0 : Nat) ∈ [] then [] else [] ++ [0]) (List.replicate k 0) = List.range (firsts (if (0 : Nat) ∈ [] then [] else [] ++ [0]) (List.replicate k 0)).length
    rw [if_neg (by simp), List.nil_append, this]; rfl
theorem iter_canon (R : Rms) : ∀ t, Canon (iter R t)
  | 0 => by
    show Canon (R.map fun _ => 0)
    rw [List.map_const']
    exact canon_zeros _
  | t + 1 => canon_numbered _
/-- how many pairs are of one kind -/
def pairsIn (n : Nat) (ks : List Nat) : Nat := ((List.range n).flatMap fun i => (List.range n).map fun j => (i, j)).countP fun p => decide (ks[p.1]? = ks[p.2]?)
theorem countP_lt {α : Type} {p q : α → Bool} : ∀ {l : List α}, (∀ x ∈ l, p x = true → q x = true) → (∃ x ∈ l, q x = true ∧ p x = false) → l.countP p < l.countP q
  | [], _, ⟨x, hx, _⟩ => by simp at hx
  | y :: l, h, ⟨x, hx, h1, h2⟩ => by
    have mono : ∀ {l : List α}, (∀ x ∈ l, p x = true → q x = true) → l.countP p ≤ l.countP q := by
      intro l hl
      exact List.countP_mono_left hl
    rw [List.countP_cons, List.countP_cons]
    rcases List.mem_cons.mp hx with rfl | hx
    · have := mono (l := l) fun z hz => h z (List.mem_cons_of_mem _ hz)
      rw [h1, h2]; simp; omega
    · have := countP_lt (fun z hz => h z (List.mem_cons_of_mem _ hz)) ⟨x, hx, h1, h2⟩
      have hy := h y List.mem_cons_self
      cases hp : p y with
      | true => rw [hy hp]; simp; omega
      | false => cases q y <;> simp <;> omega
theorem pairs_lt {R : Rms} {ks : List Nat} (hl : ks.length = R.length) (hc : Canon ks) (hne : finer R ks ≠ ks) : pairsIn R.length (finer R ks) < pairsIn R.length ks := by
  have sub : ∀ i j, i < R.length → j < R.length → (finer R ks)[i]? = (finer R ks)[j]? → ks[i]? = ks[j]? := fun i j hi hj e => by
    have m := (finer_eq hi hj).mp e
    have m1 : ks.getD i 0 = ks.getD j 0 := congrArg (·.1) m
    rw [List.getD_eq_getElem?_getD, List.getD_eq_getElem?_getD, List.getElem?_eq_getElem (by omega), List.getElem?_eq_getElem (by omega)] at m1
    rw [List.getElem?_eq_getElem (by omega), List.getElem?_eq_getElem (by omega)]
    exact congrArg some m1
  refine countP_lt (fun x hx e => ?_) ?_
  · obtain ⟨i, hi, hx⟩ := List.mem_flatMap.mp hx
    obtain ⟨j, hj, rfl⟩ := List.mem_map.mp hx
    exact decide_eq_true (sub i j (List.mem_range.mp hi) (List.mem_range.mp hj) (of_decide_eq_true e))
  · refine Classical.byContradiction fun hno => hne ?_
    refine canon_ext (canon_numbered _) hc (by rw [finer_len, hl]) fun i j hi hj => ?_
    rw [finer_len] at hi hj
    refine ⟨sub i j hi hj, fun e => Classical.byContradiction fun e2 => hno ⟨(i, j), ?_, decide_eq_true e, decide_eq_false e2⟩⟩
    exact List.mem_flatMap.mpr ⟨i, List.mem_range.mpr hi, List.mem_map.mpr ⟨j, List.mem_range.mpr hj, rfl⟩⟩
theorem pairs_le (n : Nat) (ks : List Nat) : pairsIn n ks ≤ n * n := by
  unfold pairsIn
  refine Nat.le_trans List.countP_le_length ?_
  have : ∀ (l : List Nat), (l.flatMap fun i => (List.range n).map fun j => (i, j)).length = l.length * n := by
    intro l
    induction l with
    | nil => simp
    | cons x l ih => rw [List.flatMap_cons, List.length_append, ih, List.length_map, List.length_range, List.length_cons, Nat.succ_mul]; omega
  rw [this, List.length_range]; exact Nat.le_refl _
theorem iter_fix {R : Rms} {t : Nat} (h : iter R (t + 1) = iter R t) : ∀ s, iter R (t + s) = iter R t
  | 0 => rfl
  | s + 1 => by
    show finer R (iter R (t + s)) = _
    rw [iter_fix h s]; exact h
theorem kinds_of_fix {R : Rms} {t : Nat} (h : iter R (t + 1) = iter R t) (ht : t ≤ R.length * R.length) : iter R t = kindsOf R := by
  unfold kindsOf
  have := iter_fix h (R.length * R.length - t)
  rw [show t + (R.length * R.length - t) = R.length * R.length by omega] at this
  exact this.symm
/-! one room for each kind -/
def waysK (ks : List Nat) (x : List (Option Nat)) : List (Option Nat) := x.map (Option.map fun k => ks.getD k 0)
def mergedTo (R : Rms) (ks : List Nat) (i : Nat) : Rms := (List.range (firsts [] (ks.take i)).length).map fun k => waysK ks (R.getD (ks.idxOf k) [])
def merged (R : Rms) : Rms := mergedTo R (kindsOf R) R.length
theorem idxOf_first {l : List Nat} {i x : Nat} (hx : l[i]? = some x) (hn : x ∉ l.take i) : l.idxOf x = i := by
  obtain ⟨hi, e⟩ := List.getElem?_eq_some_iff.mp hx
  have h0 : l = l.take i ++ l.drop i := (List.take_append_drop _ _).symm
  have h1 : l.drop i = x :: l.drop (i + 1) := by rw [List.drop_eq_getElem_cons hi, e]
  rw [h0, List.idxOf_append, if_neg hn, h1, List.idxOf_cons_self, List.length_take]
  omega
theorem merged_step {R : Rms} {ks : List Nat} (hc : Canon ks) (hl : ks.length = R.length) {i : Nat} (hi : i < R.length) :
    mergedTo R ks (i + 1) = if ks.getD i 0 = (mergedTo R ks i).length then mergedTo R ks i ++ [waysK ks (R.getD i [])] else mergedTo R ks i := by
  have hik : i < ks.length := by omega
  have hk : ks[i]? = some ks[i] := List.getElem?_eq_getElem hik
  have hg : ks.getD i 0 = ks[i] := by rw [List.getD_eq_getElem?_getD, hk]; rfl
  have hml : (mergedTo R ks i).length = (firsts [] (ks.take i)).length := by simp [mergedTo]
  rw [hg, hml]
  have ht : ks.take (i + 1) = ks.take i ++ [ks[i]] := by rw [List.take_add_one, hk]; rfl
  by_cases hm : ks[i] ∈ ks.take i
  · have hf : ks[i] ∈ firsts [] (ks.take i) := (firsts_mem _ _ _).mpr (.inr hm)
    have hlt : ks[i] < (firsts [] (ks.take i)).length := by
      have := hc i
      rw [this] at hf
      exact List.mem_range.mp hf
    rw [if_neg (by omega)]
    unfold mergedTo
    rw [ht, firsts_snoc, if_pos hf]
  · have hn : ks[i] ∉ firsts [] (ks.take i) := fun z => by
      rcases (firsts_mem _ _ _).mp z with z | z
      · cases z
      · exact hm z
    have e := canon_new hc hk hm
    rw [if_pos e]
    unfold mergedTo
    rw [ht, firsts_snoc, if_neg hn, List.length_append, List.length_singleton, List.range_succ, List.map_append]
    congr 1
    rw [← e]
    show [waysK ks (R.getD (ks.idxOf ks[i]) [])] = _
    rw [idxOf_first hk hm]
/-! the rooms to which rows lead -/
def expand : List Nat → List (Option Nat) → List Nat
  | o, [] => o
  | o, none :: x => expand o x
  | o, some k :: x => expand (if k ∈ o then o else o ++ [k]) x
theorem expand_snoc : ∀ (x : List (Option Nat)) (o : List Nat) (w : Option Nat), expand o (x ++ [w]) = match w with
    | none => expand o x
    | some k => if k ∈ expand o x then expand o x else expand o x ++ [k]
  | [], o, none => rfl
  | [], o, some k => rfl
  | none :: x, o, w => expand_snoc x o w
  | some k :: x, o, w => expand_snoc x _ w
theorem expand_pre : ∀ (x : List (Option Nat)) (o : List Nat), ∃ t, expand o x = o ++ t
  | [], o => ⟨[], by simp [expand]⟩
  | none :: x, o => expand_pre x o
  | some k :: x, o => by
    obtain ⟨t, e⟩ := expand_pre x (if k ∈ o then o else o ++ [k])
    show ∃ t, expand (if k ∈ o then o else o ++ [k]) x = o ++ t
    by_cases h : k ∈ o
    · rw [if_pos h] at e ⊢; exact ⟨t, e⟩
    · rw [if_neg h] at e ⊢; exact ⟨[k] ++ t, by rw [e, List.append_assoc]⟩
theorem expand_mem : ∀ (x : List (Option Nat)) (o : List Nat) (k : Nat), k ∈ expand o x ↔ k ∈ o ∨ some k ∈ x
  | [], o, k => by simp [expand]
  | none :: x, o, k => by rw [show expand o (none :: x) = expand o x from rfl, expand_mem x]; simp
  | some j :: x, o, k => by
    rw [show expand o (some j :: x) = expand (if j ∈ o then o else o ++ [j]) x from rfl, expand_mem x]
    by_cases h : j ∈ o
    · rw [if_pos h]
      constructor
      · rintro (z | z)
        · exact .inl z
        · exact .inr (List.mem_cons_of_mem _ z)
      · rintro (z | z)
        · exact .inl z
        · rcases List.mem_cons.mp z with e | z
          · cases e; exact .inl h
          · exact .inr z
    · rw [if_neg h]; simp [or_assoc]
theorem expand_nodup : ∀ (x : List (Option Nat)) (o : List Nat), o.Nodup → (expand o x).Nodup
  | [], o, h => h
  | none :: x, o, h => expand_nodup x o h
  | some k :: x, o, h => by
    refine expand_nodup x _ ?_
    by_cases hm : k ∈ o
    · rw [if_pos hm]; exact h
    · rw [if_neg hm, List.nodup_append]
      exact ⟨h, by simp, fun a ha b hb e => by rw [List.mem_singleton.mp hb] at e; exact hm (e ▸ ha)⟩
def bfs (M : Rms) : Nat → List Nat
  | 0 => [0]
  | t + 1 => match (bfs M t)[t]? with
    | some r => expand (bfs M t) (M.getD r [])
    | none => bfs M t
def orderOf (M : Rms) : List Nat := bfs M M.length
/-- all ways lead to rooms that are there -/
def Inside (M : Rms) : Prop := ∀ x ∈ M, ∀ k, some k ∈ x → k < M.length
theorem nodup_le : ∀ (m : Nat) (l : List Nat), l.Nodup → (∀ x ∈ l, x < m) → l.length ≤ m
  | 0, l, _, h => by
    cases l with
    | nil => exact Nat.le_refl _
    | cons x l => exact absurd (h x List.mem_cons_self) (Nat.not_lt_zero _)
  | m + 1, l, nd, h => by
    have h1 := nodup_le m (l.filter (fun x => decide (x ≠ m))) (nd.filter _) fun x hx => by
      obtain ⟨hx, hd⟩ := List.mem_filter.mp hx
      have := h x hx
      have := of_decide_eq_true hd
      omega
    have h2 : l.length ≤ (l.filter (fun x => decide (x ≠ m))).length + 1 := by
      have : ∀ (l : List Nat), l.Nodup → l.length ≤ (l.filter (fun x => decide (x ≠ m))).length + 1 := by
        intro l
        induction l with
        | nil => intro _; simp
        | cons y l ih =>
          intro nd
          by_cases e : y = m
          · subst e
            have hy : y ∉ l := (List.nodup_cons.mp nd).1
            have e2 : l.filter (fun x => decide (x ≠ y)) = l := List.filter_eq_self.mpr fun x hx => decide_eq_true (fun z => hy (z ▸ hx))
            rw [List.filter_cons_of_neg (by simp), e2, List.length_cons]; exact Nat.le_refl _
          · rw [List.filter_cons_of_pos (by simpa using e), List.length_cons, List.length_cons]
            have := ih (List.nodup_cons.mp nd).2
            omega
      exact this l nd
    omega
theorem bfs_facts {M : Rms} (hi : Inside M) (h0 : 1 ≤ M.length) : ∀ t, (bfs M t).Nodup ∧ ∀ x ∈ bfs M t, x < M.length
  | 0 => ⟨by simp [bfs], fun x hx => by simp [bfs] at hx; omega⟩
  | t + 1 => by
    obtain ⟨nd, lt⟩ := bfs_facts hi h0 t
    show (match (bfs M t)[t]? with | some r => expand (bfs M t) (M.getD r []) | none => bfs M t).Nodup ∧ ∀ x ∈ (match (bfs M t)[t]? with | some r => expand (bfs M t) (M.getD r []) | none => bfs M t), x < M.length
    cases e : (bfs M t)[t]? with
    | none => exact ⟨nd, lt⟩
    | some r =>
      refine ⟨expand_nodup _ _ nd, fun x hx => ?_⟩
      rcases (expand_mem _ _ _).mp hx with z | z
      · exact lt x z
      · have hr : r < M.length := lt r (List.mem_of_getElem? e)
        rw [List.getD_eq_getElem?_getD, List.getElem?_eq_getElem hr] at z
        exact hi _ (List.getElem_mem hr) x z
theorem bfs_len {M : Rms} (hi : Inside M) (h0 : 1 ≤ M.length) (t : Nat) : (bfs M t).length ≤ M.length := nodup_le _ _ (bfs_facts hi h0 t).1 (bfs_facts hi h0 t).2
theorem bfs_fix {M : Rms} {t : Nat} (h : (bfs M t).length ≤ t) : ∀ s, bfs M (t + s) = bfs M t
  | 0 => rfl
  | s + 1 => by
    have ih := bfs_fix h s
    show (match (bfs M (t + s))[t + s]? with | some r => expand (bfs M (t + s)) (M.getD r []) | none => bfs M (t + s)) = _
    rw [ih, List.getElem?_eq_none (by omega)]
theorem order_of_fix {M : Rms} {t : Nat} (h : (bfs M t).length ≤ t) (ht : t ≤ M.length) : bfs M t = orderOf M := by
  unfold orderOf
  have := bfs_fix h (M.length - t)
  rw [show t + (M.length - t) = M.length by omega] at this
  exact this.symm
def waysO (o : List Nat) (x : List (Option Nat)) : List (Option Nat) := x.map (Option.map fun k => o.idxOf k)
def orderedR (M : Rms) : Rms := (orderOf M).map fun r => waysO (orderOf M) (M.getD r [])
def does (N : Rms) (p : Nat) : Bool := (List.range N.length).any fun i => decide ((N.getD i []).getD p none ≠ some i)
def places (N : Rms) (w : Nat) : List Nat := (List.range w).filter (does N)
def leastN (R : Rms) : Rms := orderedR (merged R)
theorem bfs_pre {M : Rms} (t : Nat) : ∃ u, bfs M (t + 1) = bfs M t ++ u := by
  show ∃ u, (match (bfs M t)[t]? with | some r => expand (bfs M t) (M.getD r []) | none => bfs M t) = bfs M t ++ u
  cases e : (bfs M t)[t]? with
  | none => exact ⟨[], by simp⟩
  | some r => exact expand_pre _ _
theorem bfs_closed {M : Rms} : ∀ (t j r : Nat), j < t → (bfs M t)[j]? = some r → ∀ k, some k ∈ M.getD r [] → k ∈ bfs M t
  | 0, j, r, h, _, _, _ => absurd h (Nat.not_lt_zero _)
  | t + 1, j, r, h, hr, k, hk => by
    obtain ⟨u, hu⟩ := bfs_pre (M := M) t
    rcases Nat.lt_or_ge j (bfs M t).length with hj | hj
    · have hr' : (bfs M t)[j]? = some r := by rw [hu, List.getElem?_append_left hj] at hr; exact hr
      rcases Nat.lt_or_ge j t with hjt | hjt
      · rw [hu]; exact List.mem_append_left _ (bfs_closed t j r hjt hr' k hk)
      · have e : j = t := by omega
        subst e
        show k ∈ (match (bfs M j)[j]? with | some r => expand (bfs M j) (M.getD r []) | none => bfs M j)
        rw [hr']
        exact (expand_mem _ _ _).mpr (.inr hk)
    · have hn : (bfs M t)[t]? = none := List.getElem?_eq_none (by omega)
      have e : bfs M (t + 1) = bfs M t := by
        show (match (bfs M t)[t]? with | some r => expand (bfs M t) (M.getD r []) | none => bfs M t) = _
        rw [hn]
      rw [e, List.getElem?_eq_none hj] at hr
      cases hr
theorem order_closed {M : Rms} (hi : Inside M) (h0 : 1 ≤ M.length) {r k : Nat} (hr : r ∈ orderOf M) (hk : some k ∈ M.getD r []) : k ∈ orderOf M := by
  obtain ⟨j, hj, e⟩ := List.mem_iff_getElem.mp hr
  have hl := bfs_len hi h0 M.length
  exact bfs_closed M.length j r (Nat.lt_of_lt_of_le hj hl) (by rw [← e]; exact List.getElem?_eq_getElem hj) k hk
theorem order_facts {M : Rms} (hi : Inside M) (h0 : 1 ≤ M.length) : (orderOf M).Nodup ∧ (∀ x ∈ orderOf M, x < M.length) ∧ (orderOf M).length ≤ M.length := ⟨(bfs_facts hi h0 _).1, (bfs_facts hi h0 _).2, bfs_len hi h0 _⟩
theorem bfs_zero (M : Rms) : ∀ t, (bfs M t)[0]? = some 0
  | 0 => rfl
  | t + 1 => by
    obtain ⟨u, hu⟩ := bfs_pre (M := M) t
    have h := bfs_zero M t
    have hl : 0 < (bfs M t).length := (List.getElem?_eq_some_iff.mp h).1
    rw [hu, List.getElem?_append_left hl]; exact h
theorem merged_inside {R : Rms} (hc : 1 ≤ R.length) (hi : Inside R) : Inside (merged R) ∧ 1 ≤ (merged R).length ∧ (merged R).length ≤ R.length := by
  have hl : (kindsOf R).length = R.length := iter_len R _
  have hcn : Canon (kindsOf R) := iter_canon R _
  have hall := hcn R.length
  rw [← hl, List.take_length] at hall
  have hml : (merged R).length = (firsts [] (kindsOf R)).length := by
    unfold merged mergedTo
    rw [List.length_map, List.length_range, ← hl, List.take_length]
  have hle : (merged R).length ≤ R.length := by
    have := firsts_len_le (kindsOf R) []
    rw [hml]; simp at this; omega
  have mem : ∀ k ∈ kindsOf R, k < (merged R).length := fun k hk => by
    have : k ∈ firsts [] (kindsOf R) := (firsts_mem _ _ _).mpr (.inr hk)
    rw [hall] at this
    rw [hml]; exact List.mem_range.mp this
  refine ⟨fun x hx k hk => ?_, ?_, hle⟩
  · unfold merged mergedTo at hx
    obtain ⟨j, hj, rfl⟩ := List.mem_map.mp hx
    unfold waysK at hk
    obtain ⟨o, ho, e⟩ := List.mem_map.mp hk
    cases o with
    | none => cases e
    | some k' =>
      have e' : (kindsOf R).getD k' 0 = k := Option.some.inj e
      refine mem k ?_
      have hk' : k' < R.length := by
        by_cases hjj : (kindsOf R).idxOf j < R.length
        · rw [List.getD_eq_getElem?_getD, List.getElem?_eq_getElem hjj] at ho
          exact hi _ (List.getElem_mem hjj) k' ho
        · rw [List.getD_eq_getElem?_getD, List.getElem?_eq_none (by omega)] at ho
          cases ho
      rw [← e', List.getD_eq_getElem?_getD, List.getElem?_eq_getElem (by omega)]
      exact List.getElem_mem _
  · have h0 : (kindsOf R)[0] ∈ kindsOf R := List.getElem_mem (by omega)
    have := mem _ h0
    omega
theorem merged_row {R : Rms} {m : Nat} (hr : ∀ x ∈ R, x.length = m) : ∀ x ∈ merged R, x.length = m := by
  have hl : (kindsOf R).length = R.length := iter_len R _
  have hcn : Canon (kindsOf R) := iter_canon R _
  intro x hx
  unfold merged mergedTo at hx
  obtain ⟨j, hj, rfl⟩ := List.mem_map.mp hx
  have hj' : j ∈ firsts [] ((kindsOf R).take R.length) := by
    have := hcn R.length
    rw [this]; exact hj
  have hjk : j ∈ kindsOf R := by
    rcases (firsts_mem _ _ _).mp hj' with z | z
    · cases z
    · exact List.mem_of_mem_take z
  have hlt : (kindsOf R).idxOf j < R.length := by rw [← hl]; exact List.idxOf_lt_length_iff.mpr hjk
  unfold waysK
  rw [List.length_map, List.getD_eq_getElem?_getD, List.getElem?_eq_getElem hlt]
  exact hr _ (List.getElem_mem hlt)
theorem ordered_facts {M : Rms} {m : Nat} (hi : Inside M) (h0 : 1 ≤ M.length) (hr : ∀ x ∈ M, x.length = m) : Inside (orderedR M) ∧ 1 ≤ (orderedR M).length ∧ (orderedR M).length ≤ M.length ∧ ∀ x ∈ orderedR M, x.length = m := by
  obtain ⟨nd, lt, le⟩ := order_facts hi h0
  have hol : (orderedR M).length = (orderOf M).length := by simp [orderedR]
  have h1 : 0 < (orderOf M).length := (List.getElem?_eq_some_iff.mp (bfs_zero M M.length)).1
  have row : ∀ r ∈ orderOf M, ∃ x, M.getD r [] = x ∧ x ∈ M := fun r hr' => by
    have := lt r hr'
    exact ⟨_, rfl, by rw [List.getD_eq_getElem?_getD, List.getElem?_eq_getElem this]; exact List.getElem_mem _⟩
  refine ⟨fun x hx k hk => ?_, by omega, by omega, fun x hx => ?_⟩
  · unfold orderedR at hx
    obtain ⟨r, hr', rfl⟩ := List.mem_map.mp hx
    unfold waysO at hk
    obtain ⟨o, ho, e⟩ := List.mem_map.mp hk
    cases o with
    | none => cases e
    | some k' =>
      have e' : (orderOf M).idxOf k' = k := Option.some.inj e
      rw [← e', hol]
      exact List.idxOf_lt_length_iff.mpr (order_closed hi h0 hr' ho)
  · unfold orderedR at hx
    obtain ⟨r, hr', rfl⟩ := List.mem_map.mp hx
    obtain ⟨y, e, hy⟩ := row r hr'
    unfold waysO
    rw [List.length_map, e]; exact hr y hy
/-! ### what the kinds are worth -/
theorem iter_bisim {R : Rms} (E : Nat → Nat → Prop) (hE : ∀ u v, E u v → u < R.length → v < R.length → ∀ p : Nat, ((R.getD u [])[p]? = none ∧ (R.getD v [])[p]? = none) ∨ ((R.getD u [])[p]? = some none ∧ (R.getD v [])[p]? = some none) ∨
      ∃ x y, (R.getD u [])[p]? = some (some x) ∧ (R.getD v [])[p]? = some (some y) ∧ E x y ∧ x < R.length ∧ y < R.length) :
    ∀ (t u v : Nat), E u v → u < R.length → v < R.length → (iter R t)[u]? = (iter R t)[v]?
  | 0, u, v, _, hu, hv => by
    show (R.map fun _ => 0)[u]? = (R.map fun _ => 0)[v]?
    rw [List.getElem?_map, List.getElem?_map, List.getElem?_eq_getElem hu, List.getElem?_eq_getElem hv]; rfl
  | t + 1, u, v, h, hu, hv => by
    have ih := iter_bisim E hE t
    refine (finer_eq hu hv).mpr ?_
    have gd : ∀ x y, E x y → x < R.length → y < R.length → (iter R t).getD x 0 = (iter R t).getD y 0 := fun x y e hx hy => by
      rw [List.getD_eq_getElem?_getD, List.getD_eq_getElem?_getD, ih x y e hx hy]
    refine Prod.ext (gd u v h hu hv) ?_
    show (R.getD u []).map _ = (R.getD v []).map _
    refine List.ext_getElem? fun p => ?_
    rw [List.getElem?_map, List.getElem?_map]
    rcases hE u v h hu hv p with ⟨h1, h2⟩ | ⟨h1, h2⟩ | ⟨x, y, h1, h2, hxy, hx, hy⟩
    · rw [h1, h2]
    · rw [h1, h2]
    · rw [h1, h2]
      exact congrArg (fun z => some (some z)) (gd x y hxy hx hy)
theorem kinds_fixed (R : Rms) : finer R (kindsOf R) = kindsOf R := by
  -- the pairs can't get fewer for ever
  have key : ∀ t, (∃ s, s ≤ t ∧ iter R (s + 1) = iter R s) ∨ pairsIn R.length (iter R (t + 1)) + (t + 1) ≤ R.length * R.length := by
    intro t
    induction t with
    | zero =>
      by_cases h : iter R 1 = iter R 0
      · exact .inl ⟨0, Nat.le_refl _, h⟩
      · have := pairs_lt (R := R) (iter_len R 0) (iter_canon R 0) h
        have := pairs_le R.length (iter R 0)
        refine .inr ?_
        show pairsIn R.length (finer R (iter R 0)) + 1 ≤ _
        omega
    | succ t ih =>
      rcases ih with ⟨s, hs, e⟩ | ih
      · exact .inl ⟨s, by omega, e⟩
      · by_cases h : iter R (t + 1 + 1) = iter R (t + 1)
        · exact .inl ⟨t + 1, Nat.le_refl _, h⟩
        · have := pairs_lt (R := R) (iter_len R (t + 1)) (iter_canon R (t + 1)) h
          refine .inr ?_
          show pairsIn R.length (finer R (iter R (t + 1))) + (t + 1 + 1) ≤ _
          omega
  rcases key (R.length * R.length) with ⟨s, hs, e⟩ | h
  · have e1 := kinds_of_fix e hs
    rw [← e1]; exact e
  · omega
theorem canon_inj {l : List Nat} (hc : Canon l) (hi : ∀ i j, i < l.length → j < l.length → l[i]? = l[j]? → i = j) : l = List.range l.length := by
  refine canon_ext hc ?_ (by simp) fun i j h1 h2 => ?_
  · have : List.range l.length = numbered (List.range l.length) := by
      have hf : ∀ (n : Nat), firsts [] (List.range n) = List.range n := by
        intro n
        induction n with
        | zero => rfl
        | succ n ih =>
          rw [List.range_succ, firsts_snoc, ih, if_neg (by simp)]
      unfold numbered
      rw [hf]
      refine List.ext_getElem (by simp) fun i h1 h2 => ?_
      rw [List.getElem_map]
      have := (List.nodup_range (n := l.length)).idxOf_getElem i (by simpa using h1)
      rw [this, List.getElem_range]
    rw [this]; exact canon_numbered _
  · rw [List.getElem?_range h1, List.getElem?_range h2]
    constructor
    · intro e; rw [hi i j h1 h2 e]
    · intro e
      have : i = j := Option.some.inj e
      rw [this]
/-- as many kinds again: nothing was parted -/
def cnt (l : List Nat) : Nat := (firsts [] l).length
theorem cnt_eq {a b : List Nat} (ha : Canon a) (hb : Canon b) (hl : a.length = b.length) (h : ∀ i j : Nat, i < a.length → j < a.length → b[i]? = b[j]? → a[i]? = a[j]?) (hc : cnt a = cnt b) : a = b := by
  have inc : ∀ {l : List Nat} {i : Nat} (hi : i < l.length), cnt (l.take (i + 1)) = cnt (l.take i) + if l[i] ∈ l.take i then 0 else 1 := by
    intro l i hi
    unfold cnt
    rw [List.take_add_one, List.getElem?_eq_getElem hi]
    show (firsts [] (l.take i ++ [l[i]])).length = _
    rw [firsts_snoc]
    by_cases hm : l[i] ∈ l.take i
    · rw [if_pos ((firsts_mem _ _ _).mpr (.inr hm)), if_pos hm]; rfl
    · rw [if_neg (fun z => by rcases (firsts_mem _ _ _).mp z with z | z; cases z; exact hm z), if_neg hm, List.length_append]; rfl
  have old : ∀ i (hi : i < a.length), b[i]'(by omega) ∈ b.take i → a[i] ∈ a.take i := fun i hi hm => by
    obtain ⟨j, hj, e⟩ := List.mem_iff_getElem.mp hm
    have hj' : j < i := by simp at hj; omega
    rw [List.getElem_take] at e
    have q := h j i (by omega) hi (by rw [List.getElem?_eq_getElem (by omega), List.getElem?_eq_getElem (by omega), e])
    rw [List.getElem?_eq_getElem (by omega), List.getElem?_eq_getElem hi] at q
    have q' : a[j] = a[i] := Option.some.inj q
    exact q' ▸ List.mem_iff_getElem.mpr ⟨j, by simp; omega, by rw [List.getElem_take]⟩
  -- the counts keep apart once they are
  have mono : ∀ k i, i + k ≤ a.length → cnt (b.take (i + k)) - cnt (a.take (i + k)) ≥ cnt (b.take i) - cnt (a.take i) ∧ cnt (a.take (i + k)) ≤ cnt (a.take i) + (cnt (b.take (i + k)) - cnt (b.take i)) ∧ cnt (b.take i) ≤ cnt (b.take (i + k)) := by
    intro k
    induction k with
    | zero => intro i _; simp
    | succ k ih =>
      intro i hi
      have ih' := ih i (by omega)
      have ea := inc (l := a) (i := i + k) (by omega)
      have eb := inc (l := b) (i := i + k) (by omega)
      have ho := old (i + k) (by omega)
      rw [show i + (k + 1) = i + k + 1 by omega, ea, eb]
      by_cases hm : b[i + k]'(by omega) ∈ b.take (i + k)
      · rw [if_pos hm, if_pos (ho hm)]; omega
      · rw [if_neg hm]
        by_cases hm2 : a[i + k]'(by omega) ∈ a.take (i + k)
        · rw [if_pos hm2]; omega
        · rw [if_neg hm2]; omega
  have le0 : ∀ i, i ≤ a.length → cnt (a.take i) ≤ cnt (b.take i) := fun i hi => by
    have := (mono i 0 (by omega)).2.1
    have e1 : cnt (a.take 0) = 0 := rfl
    have e2 : cnt (b.take 0) = 0 := rfl
    rw [Nat.zero_add] at this
    omega
  have same : ∀ i, i ≤ a.length → cnt (a.take i) = cnt (b.take i) := fun i hi => by
    have h1 := (mono (a.length - i) i (by omega))
    rw [show i + (a.length - i) = a.length by omega] at h1
    have e1 : a.take a.length = a := List.take_length
    have e2 : b.take a.length = b := by rw [hl, List.take_length]
    rw [e1, e2] at h1
    have h2 := le0 i hi
    omega
  have key : ∀ i, i ≤ a.length → a.take i = b.take i := by
    intro i
    induction i with
    | zero => intro _; simp
    | succ i ih =>
      intro hi
      have ih' := ih (by omega)
      have hai : i < a.length := by omega
      have hbi : i < b.length := by omega
      rw [List.take_add_one, List.take_add_one, ih', List.getElem?_eq_getElem hai, List.getElem?_eq_getElem hbi]
      congr 2
      have ea := inc hai
      have eb := inc hbi
      have s1 := same i (by omega)
      have s2 := same (i + 1) hi
      by_cases hm : b[i] ∈ b.take i
      · obtain ⟨j, hj, e⟩ := List.mem_iff_getElem.mp hm
        have hj' : j < i := by simp at hj; omega
        rw [List.getElem_take] at e
        have q := h j i (by omega) hai (by rw [List.getElem?_eq_getElem (by omega), List.getElem?_eq_getElem hbi, e])
        rw [List.getElem?_eq_getElem (by omega), List.getElem?_eq_getElem hai] at q
        have q' : a[j] = a[i] := Option.some.inj q
        rw [← q', ← e]
        have e1 : (a.take i)[j]? = (b.take i)[j]? := by rw [ih']
        rw [List.getElem?_take_of_lt hj', List.getElem?_take_of_lt hj', List.getElem?_eq_getElem (by omega), List.getElem?_eq_getElem (by omega)] at e1
        exact e1
      · have hn : a[i] ∉ a.take i := fun z => by
          rw [if_pos z] at ea
          rw [if_neg hm] at eb
          omega
        rw [canon_new ha (List.getElem?_eq_getElem hai) hn, canon_new hb (List.getElem?_eq_getElem hbi) hm, ih']
  have := key a.length (Nat.le_refl _)
  rw [List.take_length] at this
  rw [this, hl, List.take_length]
/-! ### the least rooms: no two alike, numbered as they are met -/
def pick (N : Rms) (ps : List Nat) : Rms := N.map fun y => ps.map fun x => y.getD x none
theorem getD_ix {α : Type} {l : List α} {i : Nat} {d : α} (h : i < l.length) : l.getD i d = l[i] := by rw [List.getD_eq_getElem?_getD, List.getElem?_eq_getElem h]; rfl
theorem kinds_row {R : Rms} {u : Nat} (hu : u < R.length) : (kindsOf R).getD u 0 < (merged R).length ∧ waysK (kindsOf R) (R.getD u []) = (merged R).getD ((kindsOf R).getD u 0) [] := by
  have hl : (kindsOf R).length = R.length := iter_len R _
  have hcn : Canon (kindsOf R) := iter_canon R _
  have hk : (kindsOf R).getD u 0 = (kindsOf R)[u]'(by omega) := getD_ix (by omega)
  have hmem : (kindsOf R).getD u 0 ∈ kindsOf R := by rw [hk]; exact List.getElem_mem _
  generalize (kindsOf R).getD u 0 = k at hk hmem
  have hall := hcn R.length
  rw [← hl, List.take_length] at hall
  have hml : (merged R).length = (firsts [] (kindsOf R)).length := by
    unfold merged mergedTo
    rw [List.length_map, List.length_range, ← hl, List.take_length]
  have hlt : k < (merged R).length := by
    have : k ∈ firsts [] (kindsOf R) := (firsts_mem _ _ _).mpr (.inr hmem)
    rw [hall] at this
    rw [hml]; exact List.mem_range.mp this
  refine ⟨hlt, ?_⟩
  have hix : (kindsOf R).idxOf k < R.length := by rw [← hl]; exact List.idxOf_lt_length_iff.mpr hmem
  have hki : (kindsOf R)[(kindsOf R).idxOf k]'(by omega) = k := List.getElem_idxOf (List.idxOf_lt_length_iff.mpr hmem)
  have e : (merged R).getD k [] = waysK (kindsOf R) (R.getD ((kindsOf R).idxOf k) []) := by
    rw [List.getD_eq_getElem?_getD]
    unfold merged mergedTo
    rw [List.getElem?_map, List.getElem?_range (by rw [← hl, List.take_length, ← hml]; exact hlt)]; rfl
  rw [e]
  have q : (finer R (kindsOf R))[u]? = (finer R (kindsOf R))[(kindsOf R).idxOf k]? := by
    rw [kinds_fixed, List.getElem?_eq_getElem (by omega), List.getElem?_eq_getElem (by omega), hki]
    exact congrArg some hk.symm
  exact congrArg (·.2) ((finer_eq hu hix).mp q)
theorem kinds_all {R : Rms} {k : Nat} (h : k < (merged R).length) : ∃ u, u < R.length ∧ (kindsOf R).getD u 0 = k := by
  have hl : (kindsOf R).length = R.length := iter_len R _
  have hcn : Canon (kindsOf R) := iter_canon R _
  have hall := hcn R.length
  rw [← hl, List.take_length] at hall
  have hml : (merged R).length = (firsts [] (kindsOf R)).length := by
    unfold merged mergedTo
    rw [List.length_map, List.length_range, ← hl, List.take_length]
  have hm : k ∈ firsts [] (kindsOf R) := by rw [hall]; exact List.mem_range.mpr (by omega)
  have hk : k ∈ kindsOf R := by
    rcases (firsts_mem _ _ _).mp hm with z | z
    · cases z
    · exact z
  obtain ⟨u, hu, e⟩ := List.mem_iff_getElem.mp hk
  exact ⟨u, by omega, by rw [getD_ix hu]; exact e⟩
structure Rm (R : Rms) (m : Nat) : Prop where
  n0 : 1 ≤ R.length
  row : ∀ x ∈ R, x.length = m
  ins : Inside R
theorem Rm.merged {R : Rms} {m : Nat} (h : Rm R m) : Rm (merged R) m := ⟨(merged_inside h.n0 h.ins).2.1, merged_row h.row, (merged_inside h.n0 h.ins).1⟩
theorem Rm.ordered {R : Rms} {m : Nat} (h : Rm R m) : Rm (orderedR R) m := ⟨(ordered_facts h.ins h.n0 h.row).2.1, (ordered_facts h.ins h.n0 h.row).2.2.2, (ordered_facts h.ins h.n0 h.row).1⟩
theorem Rm.least {R : Rms} {m : Nat} (h : Rm R m) : Rm (leastN R) m := h.merged.ordered
theorem pick_row {N : Rms} {ps : List Nat} {i : Nat} (h : i < N.length) : (pick N ps).getD i [] = ps.map fun x => (N.getD i []).getD x none := by
  unfold pick
  rw [getD_ix (by simpa using h), List.getElem_map, getD_ix h]
theorem pick_len (N : Rms) (ps : List Nat) : (pick N ps).length = N.length := by simp [pick]
theorem pick_rm {N : Rms} {m : Nat} (h : Rm N m) (ps : List Nat) (hp : ∀ x ∈ ps, x < m) : Rm (pick N ps) ps.length := by
  refine ⟨by rw [pick_len]; exact h.n0, fun x hx => ?_, fun x hx k hk => ?_⟩
  · obtain ⟨y, hy, rfl⟩ := List.mem_map.mp hx
    simp
  · obtain ⟨y, hy, rfl⟩ := List.mem_map.mp hx
    obtain ⟨p, hpm, e⟩ := List.mem_map.mp hk
    have hlt : p < y.length := by rw [h.row y hy]; exact hp p hpm
    rw [getD_ix hlt] at e
    rw [pick_len]
    exact h.ins y hy k (e ▸ List.getElem_mem hlt)
theorem not_does {N : Rms} {p i : Nat} (h : does N p = false) (hi : i < N.length) : (N.getD i []).getD p none = some i := by
  unfold does at h
  rw [List.any_eq_false] at h
  have := h i (List.mem_range.mpr hi)
  simpa using this
theorem leastN_len {R : Rms} : (leastN R).length = (orderOf (merged R)).length := by unfold leastN orderedR; rw [List.length_map]
theorem leastN_row {R : Rms} {i : Nat} (h : i < (leastN R).length) : (leastN R).getD i [] = waysO (orderOf (merged R)) ((merged R).getD ((orderOf (merged R))[i]'(by rw [← leastN_len]; exact h)) []) := by
  rw [List.getD_eq_getElem?_getD]
  show (((orderOf (merged R)).map fun r => waysO (orderOf (merged R)) ((merged R).getD r []))[i]?).getD [] = _
  rw [List.getElem?_map, List.getElem?_eq_getElem (by rw [← leastN_len]; exact h)]; rfl
/-- no two of the least rooms are of one kind -/
theorem least_min {R : Rms} {m : Nat} (h : Rm R m) : ∀ i j, i < (leastN R).length → j < (leastN R).length → (kindsOf (pick (leastN R) (places (leastN R) m)))[i]? = (kindsOf (pick (leastN R) (places (leastN R) m)))[j]? → i = j := by
  have hM := h.merged
  have hN := h.least
  obtain ⟨ond, olt, ole⟩ := order_facts hM.ins hM.n0
  have hplt : ∀ x ∈ places (leastN R) m, x < m := fun x hx => List.mem_range.mp (List.mem_filter.mp hx).1
  have hF := pick_rm hN (places (leastN R) m) hplt
  generalize hFd : pick (leastN R) (places (leastN R) m) = F at hF ⊢
  have hFl : F.length = (leastN R).length := by rw [← hFd, pick_len]
  have hkl : (kindsOf F).length = F.length := iter_len F _
  let o := orderOf (merged R)
  let K := kindsOf R
  have hol : o.length = (leastN R).length := leastN_len.symm
  -- a word's way from two least rooms of one kind
  have way : ∀ i j, i < (leastN R).length → j < (leastN R).length → (kindsOf F)[i]? = (kindsOf F)[j]? → ∀ p, p < m →
      (((leastN R).getD i []).getD p none = none ∧ ((leastN R).getD j []).getD p none = none) ∨ ∃ x y, ((leastN R).getD i []).getD p none = some x ∧ ((leastN R).getD j []).getD p none = some y ∧ x < (leastN R).length ∧ y < (leastN R).length ∧ (kindsOf F)[x]? = (kindsOf F)[y]? := by
    intro i j hi hj e p hp
    by_cases hd : does (leastN R) p = true
    · have hpm : p ∈ places (leastN R) m := List.mem_filter.mpr ⟨List.mem_range.mpr hp, hd⟩
      obtain ⟨q, hq, eq⟩ := List.mem_iff_getElem.mp hpm
      have mk : mark F (kindsOf F) i = mark F (kindsOf F) j := (finer_eq (by omega) (by omega)).mp (by rw [kinds_fixed]; exact e)
      have rows : (F.getD i []).map (Option.map fun k => (kindsOf F).getD k 0) = (F.getD j []).map (Option.map fun k => (kindsOf F).getD k 0) := congrArg (·.2) mk
      have at' : ∀ i, i < (leastN R).length → ((F.getD i []).map (Option.map fun k => (kindsOf F).getD k 0))[q]? = some ((((leastN R).getD i []).getD p none).map fun k => (kindsOf F).getD k 0) := fun i hi => by
        rw [← hFd, pick_row hi, List.getElem?_map, List.getElem?_map, List.getElem?_eq_getElem hq, eq]; rfl
      have r1 := at' i hi
      have r2 := at' j hj
      rw [rows, r2] at r1
      have r3 := Option.some.inj r1
      have mem : ∀ i, i < (leastN R).length → ∀ x, ((leastN R).getD i []).getD p none = some x → x < (leastN R).length := fun i hi x hx => by
        rw [getD_ix hi] at hx
        have hlt : p < ((leastN R)[i]).length := by rw [hN.row _ (List.getElem_mem hi)]; exact hp
        rw [getD_ix hlt] at hx
        exact hN.ins _ (List.getElem_mem hi) x (hx ▸ List.getElem_mem hlt)
      cases e1 : ((leastN R).getD i []).getD p none with
      | none =>
        cases e2 : ((leastN R).getD j []).getD p none with
        | none => exact .inl ⟨rfl, rfl⟩
        | some y => rw [e1, e2] at r3; cases r3
      | some x =>
        cases e2 : ((leastN R).getD j []).getD p none with
        | none => rw [e1, e2] at r3; cases r3
        | some y =>
          rw [e1, e2] at r3
          have hx := mem i hi x e1
          have hy := mem j hj y e2
          have r4 : (kindsOf F).getD y 0 = (kindsOf F).getD x 0 := Option.some.inj r3
          refine .inr ⟨x, y, rfl, rfl, hx, hy, ?_⟩
          rw [getD_ix (by omega), getD_ix (by omega)] at r4
          rw [List.getElem?_eq_getElem (by omega), List.getElem?_eq_getElem (by omega), r4]
    · have hd' : does (leastN R) p = false := by simpa using hd
      exact .inr ⟨i, j, not_does hd' hi, not_does hd' hj, hi, hj, e⟩
  let E : Nat → Nat → Prop := fun u v => K.getD u 0 = K.getD v 0 ∨ ∃ i j, i < (leastN R).length ∧ j < (leastN R).length ∧ o[i]? = some (K.getD u 0) ∧ o[j]? = some (K.getD v 0) ∧ (kindsOf F)[i]? = (kindsOf F)[j]?
  have bis : ∀ u v, E u v → u < R.length → v < R.length → ∀ p : Nat, ((R.getD u [])[p]? = none ∧ (R.getD v [])[p]? = none) ∨ ((R.getD u [])[p]? = some none ∧ (R.getD v [])[p]? = some none) ∨
      ∃ x y, (R.getD u [])[p]? = some (some x) ∧ (R.getD v [])[p]? = some (some y) ∧ E x y ∧ x < R.length ∧ y < R.length := by
    intro u v he hu hv p
    have ru := h.row _ (List.getElem_mem hu)
    have rv := h.row _ (List.getElem_mem hv)
    have gu : R.getD u [] = R[u] := getD_ix hu
    have gv : R.getD v [] = R[v] := getD_ix hv
    rcases Nat.lt_or_ge p m with hp | hp
    · have ins : ∀ u (hu : u < R.length) x, (R[u])[p]? = some (some x) → x < R.length := fun u hu x hx => h.ins _ (List.getElem_mem hu) x (List.mem_of_getElem? hx)
      obtain ⟨_, wu⟩ := kinds_row hu
      obtain ⟨_, wv⟩ := kinds_row hv
      rw [gu] at wu ⊢
      rw [gv] at wv ⊢
      obtain ⟨a, ha⟩ : ∃ a, (R[u])[p]? = some a := ⟨(R[u])[p]'(by omega), List.getElem?_eq_getElem (by omega)⟩
      obtain ⟨b, hb⟩ : ∃ b, (R[v])[p]? = some b := ⟨(R[v])[p]'(by omega), List.getElem?_eq_getElem (by omega)⟩
      have wua : (waysK K R[u])[p]? = some (a.map fun k => K.getD k 0) := by unfold waysK; rw [List.getElem?_map, ha]; rfl
      have wvb : (waysK K R[v])[p]? = some (b.map fun k => K.getD k 0) := by unfold waysK; rw [List.getElem?_map, hb]; rfl
      rw [ha, hb]
      rcases he with he | ⟨i, j, hi, hj, oi, oj, eij⟩
      · have q : (waysK K R[u])[p]? = (waysK K R[v])[p]? := by
          show (waysK (kindsOf R) R[u])[p]? = (waysK (kindsOf R) R[v])[p]?
          rw [wu, wv]
          have he' : (kindsOf R).getD u 0 = (kindsOf R).getD v 0 := he
          rw [he']
        rw [wua, wvb] at q
        have q' := Option.some.inj q
        cases a with
        | none => cases b with
          | none => exact .inr (.inl ⟨rfl, rfl⟩)
          | some y => cases q'
        | some x => cases b with
          | none => cases q'
          | some y => exact .inr (.inr ⟨x, y, rfl, rfl, .inl (Option.some.inj q'), ins u hu x ha, ins v hv y hb⟩)
      · have row : ∀ i (hi : i < (leastN R).length) u (hu : u < R.length), o[i]? = some (K.getD u 0) → ∀ a : Option Nat, (waysK K R[u])[p]? = some (a.map fun k => K.getD k 0) → ((leastN R).getD i []).getD p none = (a.map fun k => K.getD k 0).map (fun k => o.idxOf k) := fun i hi u hu oi a wa => by
          have hio : i < o.length := by omega
          rw [leastN_row hi]
          have e1 : (orderOf (merged R))[i]'hio = K.getD u 0 := by
            have := oi
            rw [List.getElem?_eq_getElem hio] at this
            exact Option.some.inj this
          rw [e1]
          obtain ⟨_, wu⟩ := kinds_row hu
          rw [getD_ix hu] at wu
          rw [← wu]
          unfold waysO
          rw [List.getD_eq_getElem?_getD, List.getElem?_map]
          have wa' : (waysK (kindsOf R) R[u])[p]? = some (a.map fun k => K.getD k 0) := wa
          rw [wa']; rfl
        have na := row i hi u hu oi a wua
        have nb := row j hj v hv oj b wvb
        have inO : ∀ i (hi : i < (leastN R).length) u (hu : u < R.length), o[i]? = some (K.getD u 0) → ∀ x, (R[u])[p]? = some (some x) → K.getD x 0 ∈ o := fun i hi u hu oi x hx => by
          refine order_closed hM.ins hM.n0 (List.mem_of_getElem? oi) ?_
          obtain ⟨_, wu⟩ := kinds_row hu
          rw [getD_ix hu] at wu
          show some (K.getD x 0) ∈ (merged R).getD ((kindsOf R).getD u 0) []
          rw [← wu]
          refine List.mem_map.mpr ⟨some x, List.mem_of_getElem? hx, rfl⟩
        rcases way i j hi hj eij p hp with ⟨w1, w2⟩ | ⟨x', y', w1, w2, hx', hy', exy⟩
        · cases a with
          | none => cases b with
            | none => exact .inr (.inl ⟨rfl, rfl⟩)
            | some y => rw [w2] at nb; cases nb
          | some x => rw [w1] at na; cases na
        · cases a with
          | none => rw [w1] at na; cases na
          | some x => cases b with
            | none => rw [w2] at nb; cases nb
            | some y =>
              rw [w1] at na
              rw [w2] at nb
              have na' : x' = o.idxOf (K.getD x 0) := Option.some.inj na
              have nb' : y' = o.idxOf (K.getD y 0) := Option.some.inj nb
              have mx := inO i hi u hu oi x ha
              have my := inO j hj v hv oj y hb
              refine .inr (.inr ⟨x, y, rfl, rfl, .inr ⟨x', y', hx', hy', ?_, ?_, exy⟩, ins u hu x ha, ins v hv y hb⟩)
              · rw [na', List.getElem?_eq_getElem (List.idxOf_lt_length_iff.mpr mx), List.getElem_idxOf]
              · rw [nb', List.getElem?_eq_getElem (List.idxOf_lt_length_iff.mpr my), List.getElem_idxOf]
    · exact .inl ⟨by rw [gu]; exact List.getElem?_eq_none (by omega), by rw [gv]; exact List.getElem?_eq_none (by omega)⟩
  intro i j hi hj e
  have hio : i < o.length := by omega
  have hjo : j < o.length := by omega
  obtain ⟨u, hu, eu⟩ := kinds_all (olt _ (List.getElem_mem hio))
  obtain ⟨v, hv, ev⟩ := kinds_all (olt _ (List.getElem_mem hjo))
  have q := iter_bisim E bis (R.length * R.length) u v (.inr ⟨i, j, hi, hj, by rw [List.getElem?_eq_getElem hio]; exact congrArg some eu.symm, by rw [List.getElem?_eq_getElem hjo]; exact congrArg some ev.symm, e⟩) hu hv
  have hkR : (kindsOf R).length = R.length := iter_len R _
  have q' : (kindsOf R)[u]? = (kindsOf R)[v]? := q
  have q2 : (kindsOf R).getD u 0 = (kindsOf R).getD v 0 := by rw [List.getD_eq_getElem?_getD, List.getD_eq_getElem?_getD, q']
  rw [eu, ev] at q2
  exact (List.getElem_inj ond).mp q2
/-! numbered as they are met -/
theorem expand_map (f : Nat → Nat) : ∀ (x : List (Option Nat)) (o : List Nat), (∀ a, (a ∈ o ∨ some a ∈ x) → ∀ b, (b ∈ o ∨ some b ∈ x) → f a = f b → a = b) → expand (o.map f) (x.map (Option.map f)) = (expand o x).map f
  | [], o, _ => rfl
  | none :: x, o, h => expand_map f x o fun a ha b hb => h a (by rcases ha with z | z <;> simp [z]) b (by rcases hb with z | z <;> simp [z])
  | some k :: x, o, h => by
    show expand (if f k ∈ o.map f then o.map f else o.map f ++ [f k]) (x.map (Option.map f)) = (expand (if k ∈ o then o else o ++ [k]) x).map f
    by_cases hm : k ∈ o
    · rw [if_pos hm, if_pos (List.mem_map.mpr ⟨k, hm, rfl⟩)]
      exact expand_map f x o fun a ha b hb => h a (by rcases ha with z | z <;> simp [z]) b (by rcases hb with z | z <;> simp [z])
    · have hn : f k ∉ o.map f := fun z => by
        obtain ⟨a, ha, e⟩ := List.mem_map.mp z
        have := h a (.inl ha) k (.inr (by simp)) e
        exact hm (this ▸ ha)
      rw [if_neg hm, if_neg hn]
      have conv : ∀ a, (a ∈ o ++ [k] ∨ some a ∈ x) → (a ∈ o ∨ some a ∈ some k :: x) := fun a ha => by
        rcases ha with z | z
        · rcases List.mem_append.mp z with z | z
          · exact .inl z
          · rw [List.mem_singleton.mp z]; exact .inr List.mem_cons_self
        · exact .inr (List.mem_cons_of_mem _ z)
      have ih := expand_map f x (o ++ [k]) fun a ha b hb => h a (conv a ha) b (conv b hb)
      rw [List.map_append] at ih
      exact ih
theorem expand_app : ∀ (x y : List (Option Nat)) (o : List Nat), expand o (x ++ y) = expand (expand o x) y
  | [], _, _ => rfl
  | none :: x, y, o => expand_app x y o
  | some _ :: x, y, o => expand_app x y _
theorem expand_skip (P : Nat → Bool) (f : Nat → Option Nat) (t : Nat) : ∀ (l o : List Nat), t ∈ o → (∀ p ∈ l, P p = false → f p = some t) → expand o ((l.filter P).map f) = expand o (l.map f)
  | [], _, _, _ => rfl
  | p :: l, o, ht, h => by
    have ih := fun o ht => expand_skip P f t l o ht fun q hq => h q (List.mem_cons_of_mem _ hq)
    cases hp : P p with
    | true =>
      rw [List.filter_cons_of_pos hp, List.map_cons, List.map_cons]
      cases hf : f p with
      | none => exact ih o ht
      | some k =>
        show expand (if k ∈ o then o else o ++ [k]) _ = expand (if k ∈ o then o else o ++ [k]) _
        by_cases hk : k ∈ o
        · rw [if_pos hk]; exact ih o ht
        · rw [if_neg hk]; exact ih _ (List.mem_append_left _ ht)
    | false =>
      rw [List.filter_cons_of_neg (by simp [hp]), List.map_cons, h p List.mem_cons_self hp]
      show _ = expand (if t ∈ o then o else o ++ [t]) _
      rw [if_pos ht]; exact ih o ht
theorem bfs_prefix {M : Rms} (t : Nat) : ∀ s, ∃ u, bfs M (t + s) = bfs M t ++ u
  | 0 => ⟨[], by simp⟩
  | s + 1 => by
    obtain ⟨u, hu⟩ := bfs_prefix t s
    obtain ⟨v, hv⟩ := bfs_pre (M := M) (t + s)
    exact ⟨u ++ v, by rw [show t + (s + 1) = t + s + 1 by omega, hv, hu, List.append_assoc]⟩
theorem order_pre {M : Rms} (hi : Inside M) (h0 : 1 ≤ M.length) (t : Nat) : ∃ u, orderOf M = bfs M t ++ u := by
  rcases Nat.lt_or_ge t M.length with h | h
  · obtain ⟨u, hu⟩ := bfs_prefix (M := M) t (M.length - t)
    rw [show t + (M.length - t) = M.length by omega] at hu
    exact ⟨u, hu⟩
  · have hl := bfs_len hi h0 M.length
    have := bfs_fix (M := M) (t := M.length) hl (t - M.length)
    rw [show M.length + (t - M.length) = t by omega] at this
    exact ⟨[], by rw [this]; unfold orderOf; simp⟩
theorem map_idx_pre {l a b : List Nat} (nd : l.Nodup) (h : l = a ++ b) : a.map (fun x => l.idxOf x) = List.range a.length := by
  have := idxOf_take nd a.length (by rw [h, List.length_append]; omega)
  have e : l.take a.length = a := by rw [h, List.take_left]
  rwa [e] at this
/-- the least rooms' own order is 0, 1, 2 .. -/
theorem bfs_ordered {M : Rms} {m : Nat} (h : Rm M m) : ∀ t, bfs (orderedR M) t = List.range (bfs M t).length := by
  obtain ⟨ond, olt, ole⟩ := order_facts h.ins h.n0
  have main : ∀ t, bfs (orderedR M) t = (bfs M t).map fun x => (orderOf M).idxOf x := by
    intro t
    induction t with
    | zero =>
      show [0] = [(orderOf M).idxOf 0]
      have h0 := bfs_zero M M.length
      obtain ⟨hl, e⟩ := List.getElem?_eq_some_iff.mp h0
      have := ond.idxOf_getElem 0 hl
      have e' : (orderOf M)[0]'hl = 0 := e
      rw [e'] at this
      rw [this]
    | succ t ih =>
      obtain ⟨u, hu⟩ := order_pre h.ins h.n0 t
      show (match (bfs (orderedR M) t)[t]? with | some r => expand (bfs (orderedR M) t) ((orderedR M).getD r []) | none => bfs (orderedR M) t) = List.map _ (match (bfs M t)[t]? with | some r => expand (bfs M t) (M.getD r []) | none => bfs M t)
      rw [ih, List.getElem?_map]
      cases e : (bfs M t)[t]? with
      | none => rfl
      | some r =>
        show expand _ ((orderedR M).getD ((orderOf M).idxOf r) []) = _
        have hro : r ∈ orderOf M := by rw [hu]; exact List.mem_append_left _ (List.mem_of_getElem? e)
        have hlt := List.idxOf_lt_length_iff.mpr hro
        have hrow : (orderedR M).getD ((orderOf M).idxOf r) [] = waysO (orderOf M) (M.getD r []) := by
          unfold orderedR
          rw [List.getD_eq_getElem?_getD, List.getElem?_map, List.getElem?_eq_getElem hlt, List.getElem_idxOf]; rfl
        rw [hrow]
        unfold waysO
        refine expand_map _ _ _ fun a ha b hb e2 => ?_
        have mem : ∀ a, (a ∈ bfs M t ∨ some a ∈ M.getD r []) → a ∈ orderOf M := fun a ha => by
          rcases ha with z | z
          · rw [hu]; exact List.mem_append_left _ z
          · exact order_closed h.ins h.n0 hro z
        have h1 := List.getElem_idxOf (List.idxOf_lt_length_iff.mpr (mem a ha))
        have h2 := List.getElem_idxOf (List.idxOf_lt_length_iff.mpr (mem b hb))
        rw [← h1, ← h2]; congr 1
  intro t
  obtain ⟨u, hu⟩ := order_pre h.ins h.n0 t
  rw [main, map_idx_pre ond hu]
theorem row_range {x : List (Option Nat)} {m : Nat} (h : x.length = m) : (List.range m).map (fun p => x.getD p none) = x := by
  refine List.ext_getElem (by simp [h]) fun i h1 h2 => ?_
  rw [List.getElem_map, List.getElem_range, getD_ix h2]
theorem bfs_least {R : Rms} {m : Nat} (h : Rm R m) : ∀ t, bfs (pick (leastN R) (places (leastN R) m)) t = List.range (bfs (merged R) t).length := by
  have hN := h.least
  have hb := bfs_ordered h.merged
  intro t
  have : bfs (pick (leastN R) (places (leastN R) m)) t = bfs (leastN R) t := by
    induction t with
    | zero => rfl
    | succ t ih =>
      show (match (bfs (pick (leastN R) (places (leastN R) m)) t)[t]? with | some r => expand (bfs (pick (leastN R) (places (leastN R) m)) t) ((pick (leastN R) (places (leastN R) m)).getD r []) | none => bfs (pick (leastN R) (places (leastN R) m)) t) = (match (bfs (leastN R) t)[t]? with | some r => expand (bfs (leastN R) t) ((leastN R).getD r []) | none => bfs (leastN R) t)
      rw [ih]
      cases e : (bfs (leastN R) t)[t]? with
      | none => rfl
      | some r =>
        have hr : r < (leastN R).length := (bfs_facts hN.ins hN.n0 t).2 r (List.mem_of_getElem? e)
        show expand _ ((pick (leastN R) (places (leastN R) m)).getD r []) = expand _ ((leastN R).getD r [])
        rw [pick_row hr]
        have e2 := expand_skip (does (leastN R)) (fun p => ((leastN R).getD r []).getD p none) r (List.range m) (bfs (leastN R) t) (List.mem_of_getElem? e) fun p _ hp => not_does hp hr
        have e3 : (List.range m).map (fun p => ((leastN R).getD r []).getD p none) = (leastN R).getD r [] := row_range (by rw [getD_ix hr]; exact hN.row _ (List.getElem_mem hr))
        rw [e3] at e2
        exact e2
  rw [this]
  exact hb t
theorem least_reached {R : Rms} {m : Nat} (h : Rm R m) {t : Nat} (ht : t < (leastN R).length) : t < (bfs (merged R) t).length := by
  have hM := h.merged
  refine Classical.byContradiction fun hn => ?_
  have hl : (leastN R).length = (orderOf (merged R)).length := leastN_len
  obtain ⟨ond, olt, ole⟩ := order_facts hM.ins hM.n0
  have := order_of_fix (M := merged R) (t := t) (by omega) (by omega)
  rw [this] at hn
  omega
theorem order_least {R : Rms} {m : Nat} (h : Rm R m) : orderOf (pick (leastN R) (places (leastN R) m)) = List.range (leastN R).length := by
  have hM := h.merged
  have hl : (leastN R).length = (orderOf (merged R)).length := leastN_len
  obtain ⟨ond, olt, ole⟩ := order_facts hM.ins hM.n0
  unfold orderOf
  rw [pick_len, bfs_least h]
  obtain ⟨u, hu⟩ := order_pre hM.ins hM.n0 (leastN R).length
  have hul := congrArg List.length hu
  rw [List.length_append] at hul
  have h1 : (bfs (merged R) (leastN R).length).length ≤ (leastN R).length := by omega
  rw [order_of_fix h1 (by omega), ← hl]
/-! made least again -/
theorem kinds_least {R : Rms} {m : Nat} (h : Rm R m) : kindsOf (pick (leastN R) (places (leastN R) m)) = List.range (leastN R).length := by
  have hkl : (kindsOf (pick (leastN R) (places (leastN R) m))).length = (leastN R).length := by
    rw [show kindsOf (pick (leastN R) (places (leastN R) m)) = iter _ _ from rfl, iter_len, pick_len]
  have := canon_inj (l := kindsOf (pick (leastN R) (places (leastN R) m))) (iter_canon _ _) fun i j hi hj e => least_min h i j (by omega) (by omega) e
  rw [hkl] at this
  exact this
theorem range_idx {n k : Nat} (h : k < n) : (List.range n).idxOf k = k := by
  have := (List.nodup_range (n := n)).idxOf_getElem k (by simpa using h)
  rwa [List.getElem_range] at this
theorem firsts_range (n : Nat) : firsts [] (List.range n) = List.range n := by
  induction n with
  | zero => rfl
  | succ n ih => rw [List.range_succ, firsts_snoc, ih, if_neg (by simp)]
theorem map_self {n : Nat} {f : Nat → Nat} {x : List (Option Nat)} (hx : ∀ k, some k ∈ x → k < n) (hf : ∀ k, k < n → f k = k) : x.map (Option.map f) = x := by
  have : ∀ o ∈ x, Option.map f o = o := fun o ho => by
    cases o with
    | none => rfl
    | some k => show some (f k) = some k; rw [hf k (hx k ho)]
  rw [List.map_congr_left this]; simp
theorem merged_self {F : Rms} {n : Nat} (hn : F.length = n) (hi : Inside F) (hk : kindsOf F = List.range n) : merged F = F := by
  unfold merged mergedTo
  rw [hk, hn, List.take_of_length_le (by simp), firsts_range, List.length_range]
  refine List.ext_getElem (by simp [hn]) fun i h1 h2 => ?_
  rw [List.getElem_map, List.getElem_range, range_idx (by omega), getD_ix h2]
  unfold waysK
  refine map_self (n := n) (fun k hk' => by rw [← hn]; exact hi _ (List.getElem_mem h2) k hk') fun k hk' => ?_
  rw [getD_ix (by simpa using hk'), List.getElem_range]
theorem ordered_self {F : Rms} {n : Nat} (hn : F.length = n) (hi : Inside F) (ho : orderOf F = List.range n) : orderedR F = F := by
  unfold orderedR
  rw [ho]
  refine List.ext_getElem (by simp [hn]) fun i h1 h2 => ?_
  rw [List.getElem_map, List.getElem_range, getD_ix h2]
  unfold waysO
  exact map_self (n := n) (fun k hk' => by rw [← hn]; exact hi _ (List.getElem_mem h2) k hk') fun k hk' => range_idx hk'
theorem leastN_again {R : Rms} {m : Nat} (h : Rm R m) : leastN (pick (leastN R) (places (leastN R) m)) = pick (leastN R) (places (leastN R) m) := by
  have hplt : ∀ x ∈ places (leastN R) m, x < m := fun x hx => List.mem_range.mp (List.mem_filter.mp hx).1
  have hF := pick_rm h.least (places (leastN R) m) hplt
  have e1 := merged_self (pick_len (leastN R) (places (leastN R) m)) hF.ins (kinds_least h)
  have e2 := ordered_self (pick_len (leastN R) (places (leastN R) m)) hF.ins (order_least h)
  show orderedR (merged _) = _
  rw [e1, e2]
theorem places_again {R : Rms} {m : Nat} (h : Rm R m) : places (pick (leastN R) (places (leastN R) m)) (places (leastN R) m).length = List.range (places (leastN R) m).length := by
  unfold places
  refine List.filter_eq_self.mpr fun q hq => ?_
  have hq' := List.mem_range.mp hq
  have hm := List.getElem_mem hq'
  have hd := (List.mem_filter.mp hm).2
  have gen : ∀ (N : Rms) (p : Nat), does N p = true ↔ ∃ i, i < N.length ∧ (N.getD i []).getD p none ≠ some i := fun N p => by
    unfold does
    rw [List.any_eq_true]
    constructor
    · rintro ⟨i, hi, e⟩; exact ⟨i, List.mem_range.mp hi, of_decide_eq_true e⟩
    · rintro ⟨i, hi, e⟩; exact ⟨i, List.mem_range.mpr hi, decide_eq_true e⟩
  obtain ⟨i, hi', e⟩ := (gen _ _).mp hd
  refine (gen _ _).mpr ⟨i, by rw [pick_len]; exact hi', ?_⟩
  rw [pick_row hi']
  have e2 : (((List.filter (does (leastN R)) (List.range m)).map fun x => ((leastN R).getD i []).getD x none)).getD q none = ((leastN R).getD i []).getD ((List.filter (does (leastN R)) (List.range m))[q]) none := by
    rw [getD_ix (by simpa using hq'), List.getElem_map]
  rw [e2]; exact e
/-! ### the program's least rule, def by def -/
abbrev nV (k : Nat) : V := .int (k : Int)
structure RmsOk (R : Rms) (m : Nat) : Prop where
  n0 : 1 ≤ R.length
  n1 : R.length ≤ 60
  m1 : m ≤ 16
  row : ∀ x ∈ R, x.length = m
  ins : Inside R
def NumAt (H : Hp) (p : Addr) (k v : Nat) : Prop := (∃ ks : List Nat, H p = some (.lst (ks.map nV)) ∧ ks[k]? = some v) ∨ ∃ kvs, H p = some (.dK kvs) ∧ valV kvs (.inl (k : Int)) = some (nV v)
theorem NumAt.mono {H H' : Hp} {p : Addr} {k v : Nat} (h : NumAt H p k v) (sm : Same H H') : NumAt H' p k v := by
  rcases h with ⟨ks, h1, h2⟩ | ⟨kvs, h1, h2⟩
  · exact .inl ⟨ks, sm _ _ h1, h2⟩
  · exact .inr ⟨kvs, sm _ _ h1, h2⟩
def spWaysBy : Sp := fun vs H Q _ => ∃ (p b : Addr) (x : List (Option Nat)) (f : Nat → Nat), vs = [.ref p, .ref b] ∧ H b = some (.lst (x.map wayV)) ∧ x.length ≤ 1000 ∧ (∀ k, some k ∈ x → NumAt H p k (f k)) ∧
  ∀ (L : Addr) (H' : Hp), Same H H' → H L = none → H' L = some (.lst ((x.map (Option.map f)).map wayV)) → Q (.ref L) H'
def spFiner : Sp := fun vs H Q _ => ∃ (p q : Addr) (R : Rms) (m : Nat) (as : List Addr) (ks : List Nat), vs = [.ref p, .ref q] ∧ RoomsAs H p R as ∧ RmsOk R m ∧ H q = some (.lst (ks.map nV)) ∧ ks.length = R.length ∧
  ∀ (L : Addr) (H' : Hp), Same H H' → H L = none → H' L = some (.lst ((finer R ks).map nV)) → Q (.ref L) H'
def spKinds : Sp := fun vs H Q _ => ∃ (p : Addr) (R : Rms) (m : Nat) (as : List Addr), vs = [.ref p, nV R.length] ∧ RoomsAs H p R as ∧ RmsOk R m ∧
  ∀ (L : Addr) (H' : Hp), Same H H' → H L = none → H' L = some (.lst ((kindsOf R).map nV)) → Q (.ref L) H'
section
variable {P : Program} {w : World} {K : PySem.W.Frag} {mg : Str → Option Value} {base : Heap}
theorem ok_ways_by (D : DefAt K mg "ways_by" s_ways_by) : Cal P w K mg base 1 "ways_by" ["numbers", "ways"] spWaysBy := by
  refine D.cal sc_ways_by (fun _ _ _ _ _ _ us hl => match us, hl with | [_, _], _ => rfl) (fun vs H Q E h => by obtain ⟨p, b, x, f, rfl, _⟩ := h; rfl) (fun f cdv A outer s H vs Q E hr h => ?_)
  obtain ⟨p, b, x, f, rfl, hb, hx, hn, q⟩ := h
  refine ⟨_, (pss_one (ps_ret (pe_comp (CompSc.to (fsc := (defScope s_ways_by)) (N := ["numbers", "ways"]) (N0 := ["numbers", "ways"]) (T := ["way"]) ⟨by decide +kernel, by decide +kernel, by decide +kernel, by decide +kernel, by decide +kernel, by decide +kernel, by decide +kernel⟩ rfl rfl) rfl (pi_listK K (pv 1 (hv := v_ways_by_ways))) (fun _ _ _ _ => (pg_let 2 (show (["numbers", "ways", "way"] : List Str).Nodup from by decide +kernel) (hx := (locC (defScope s_ways_by) (by decide +kernel))) (hf := fnC (defScope s_ways_by) (by decide +kernel)))) (gfr_name (show (["numbers", "ways"] : List Str).length ≤ 2 from by decide)) (fun _ _ _ _ => pifs_nil) (fun _ _ _ _ => (pe_ifExp (pt_cmpR op_isNA (pv 2 (hv := (visC (defScope s_ways_by) (by decide +kernel)))) pe_non (nomark _)) pe_non (pe_ix (ix_B K) (pv 0 (hv := (visC (defScope s_ways_by) (by decide +kernel)))) (pv 2 (hv := (visC (defScope s_ways_by) (by decide +kernel)))) (fun _ _ => rfl))))))), ?_⟩
  walk_at "rd1"
  refine ⟨⟨_, SqL.of hb⟩, fun L hL => ?_⟩
  refine compW_list (xs := x.map wayV) (fun i ys H' => Same H H' ∧ H' L = some (.lst ys) ∧ ys = ((x.take i).map (Option.map f)).map wayV) ⟨same_new hL _, upd_same, rfl⟩ (fun i ys H' _ h => SqL.of (h.1 _ _ hb)) ?_ ?_
  · rintro i ys H' v hv hi ⟨sm, hl, rfl⟩
    rw [List.length_map] at hi
    rw [List.getElem?_map, List.getElem?_eq_getElem hi] at hv
    cases hv
    have hz : (((x.take i).map (Option.map f)).map wayV).length = i := by simp; omega
    have fin : ∀ z, z = wayV ((x[i]).map f) → CStep (x.map wayV).length i (fun i ys H' => Same H H' ∧ H' L = some (.lst ys) ∧ ys = ((x.take i).map (Option.map f)).map wayV) L (((x.take i).map (Option.map f)).map wayV) z H' := fun z e => by
      subst e
      refine cstep (by rw [List.length_map]; exact hi) hz (by rw [List.length_map]; exact smallL (by omega)) hl ⟨sm.upd hL _, upd_same, ?_⟩
      rw [List.take_add_one, List.getElem?_eq_getElem hi, List.map_append, List.map_append]; rfl
    have hm := List.getElem_mem hi
    cases hxi : x[i] with
    | none =>
      rw [hxi] at fin
      walk_at "rd1"
      refine ite2 (fun c => ?_) (fun c => ?_)
      · exact fin _ rfl
      · exact absurd rfl c
    | some k =>
      rw [hxi] at fin hm
      walk_at "rd1"
      refine ite2 (fun c => ?_) (fun c => ?_)
      · cases c
      · rcases (hn k hm).mono sm with ⟨ks, h1, h2⟩ | ⟨kvs, h1, h2⟩
        · exact .inl ⟨_, _, .inl (SqL.of h1), atI_nat (by rw [List.getElem?_map, h2]; rfl), fin _ rfl⟩
        · exact .inr ⟨p, kvs, .inl (k : Int), _, rfl, rfl, h1, h2, fin _ rfl⟩
  · rintro ys H' ⟨sm, hl, rfl⟩
    rw [List.length_map, List.take_length] at hl
    exact q L H' sm hL hl
/-! finer kinds -/
def nkOf (m : Nat × List (Option Nat)) : NKey := ((m.1 : Int), m.2.map (Option.map fun n : Nat => (n : Int)))
theorem nkOf_inj {m m' : Nat × List (Option Nat)} (h : nkOf m = nkOf m') : m = m' := by
  obtain ⟨a, b⟩ := m
  obtain ⟨c, d⟩ := m'
  unfold nkOf at h
  have h1 : (a : Int) = (c : Int) := congrArg (·.1) h
  have h2 : b.map (Option.map fun n : Nat => (n : Int)) = d.map (Option.map fun n : Nat => (n : Int)) := congrArg (·.2) h
  have h3 : b = d := by
    refine List.map_inj_right (f := Option.map fun n : Nat => (n : Int)) (fun x y e => ?_) |>.mp h2
    cases x <;> cases y <;> simp_all
    omega
  rw [h3, show a = c by omega]
def kvFrom (k : Nat) : List (Nat × List (Option Nat)) → List (NKey × V)
  | [] => []
  | m :: ms => (nkOf m, nV k) :: kvFrom (k + 1) ms
theorem kvFrom_len : ∀ (F : List (Nat × List (Option Nat))) (k : Nat), (kvFrom k F).length = F.length
  | [], k => rfl
  | m :: F, k => by show (kvFrom (k + 1) F).length + 1 = _; rw [kvFrom_len F]; rfl
theorem kvFrom_snoc : ∀ (F : List (Nat × List (Option Nat))) (k : Nat) (m : Nat × List (Option Nat)), kvFrom k (F ++ [m]) = kvFrom k F ++ [(nkOf m, nV (k + F.length))]
  | [], k, m => rfl
  | x :: F, k, m => by
    show (nkOf x, nV k) :: kvFrom (k + 1) (F ++ [m]) = _
    rw [kvFrom_snoc F, List.length_cons, show k + 1 + F.length = k + (F.length + 1) by omega]; rfl
theorem kvFrom_val : ∀ (F : List (Nat × List (Option Nat))) (k : Nat) (m : Nat × List (Option Nat)), valV (kvFrom k F) (nkOf m) = if m ∈ F then some (nV (k + idx m F)) else none
  | [], k, m => rfl
  | x :: F, k, m => by
    by_cases h : x = m
    · subst h
      rw [if_pos List.mem_cons_self, idx_self]
      show valV ((nkOf x, nV k) :: kvFrom (k + 1) F) (nkOf x) = _
      simp [valV]
    · have hn : ¬ nkOf x = nkOf m := fun z => h (nkOf_inj z)
      have e : valV (kvFrom k (x :: F)) (nkOf m) = valV (kvFrom (k + 1) F) (nkOf m) := by
        show valV ((nkOf x, nV k) :: kvFrom (k + 1) F) (nkOf m) = _
        simp [valV, hn]
      rw [e, kvFrom_val F]
      by_cases hm : m ∈ F
      · rw [if_pos hm, if_pos (List.mem_cons_of_mem _ hm), idx_other h, show k + 1 + idx m F = k + (idx m F + 1) by omega]
      · rw [if_neg hm, if_neg (by simp [Ne.symm h, hm])]
theorem way_opt (x : List (Option Nat)) : x.map wayV = (x.map (Option.map fun n : Nat => (n : Int))).map optV := by
  rw [List.map_map]
  refine List.map_congr_left fun o _ => ?_
  cases o <;> rfl
theorem DN.updL {H : Hp} {a fp : Addr} {kvs : List (NKey × V)} {xs : List V} {o : HO} (h : DN P w H a kvs) (hf : H fp = some (.lst xs)) : DN P w (upd H fp o) a kvs := by
  obtain ⟨ys, h1, h2, h3, h4⟩ := h
  have ht : ∀ c zs, H c = some (.tup zs) → upd H fp o c = some (.tup zs) := fun c zs e => by rw [upd_ne (ne_of e hf (fun z => nomatch z))]; exact e
  exact ⟨ys, by rw [upd_ne (ne_of h1 hf (fun z => nomatch z))]; exact h1, h2, h3, Paired.imp' (fun p q z => ⟨z.1, z.2.1.mono ht, z.2.2⟩) h4⟩
theorem DN.keyUpd {H : Hp} {a b : Addr} {k : NKey} {kvs : List (NKey × V)} {u : HO} (h : DN P w H a kvs) (hk : KeyAt H k b) : KeyAt (upd H a u) k b := by
  obtain ⟨ys, h1, _⟩ := h
  exact hk.mono fun c zs e => by rw [upd_ne (ne_of e h1 (fun z => nomatch z))]; exact e
theorem ok_finer (D : DefAt K mg "finer_kinds" s_finer_kinds) (z_enumerate : mg "enumerate" = none) (z_tuple : mg "tuple" = none) (z_len : mg "len" = none) (c_ways_by : Cal P w K mg base 1 "ways_by" ["numbers", "ways"] spWaysBy) :
    Cal P w K mg base 2 "finer_kinds" ["rooms", "kinds"] spFiner := by
  refine D.cal sc_finer_kinds (fun _ _ _ _ _ _ us hl => match us, hl with | [_, _], _ => rfl) (fun vs H Q E h => by obtain ⟨p, q, R, m, as, ks, rfl, _⟩ := h; rfl) (fun f cdv A outer s H vs Q E hr h => ?_)
  obtain ⟨p, q, R, m, as, ks, rfl, hR, ok, hq, hlk, qq⟩ := h
  obtain ⟨h1, h2, h3⟩ := hR
  have n1 := ok.n1
  refine ⟨_, (pss_cons (ps_let 2 sc_finer_kinds.nd pe_dnewN (hx := l_finer_kinds_seen))
      (pss_cons (ps_let 3 sc_finer_kinds.nd (pe_lst pa_nil) (hx := l_finer_kinds_finer))
      (pss_cons (ps_for PassesOwn.never rfl (pi_enumK K gl_finer_kinds_enumerate z_enumerate (pa_cons (pv 0 (hv := v_finer_kinds_rooms)) pa_nil)) (pg_tupK K (n := 2) (pgs_cons (pg_let 4 sc_finer_kinds.nd (hx := l_finer_kinds_at)) (pgs_cons (pg_let 5 sc_finer_kinds.nd (hx := l_finer_kinds_room)) pgs_nil))) (pss_cons (ps_let 6 sc_finer_kinds.nd (pe_tup (pa_cons (pe_ix (ix_K K) (pv 1 (hv := v_finer_kinds_kinds)) (pv 4 (hv := v_finer_kinds_at)) (fun _ _ => rfl)) (pa_cons (pe_bty (call_tupA K) z_tuple bt_tuple (pa_cons (pe_cal c_ways_by hr (pa_cons (pv 1 (hv := v_finer_kinds_kinds)) (pa_cons (pv 5 (hv := v_finer_kinds_room)) pa_nil)) (hg := gl_finer_kinds_ways_by)) pa_nil) (hg := gl_finer_kinds_tuple)) pa_nil))) (hx := l_finer_kinds_mark))
      (pss_cons (ps_if (pt_cmpR (op_notInN hr) (pv 6 (hv := v_finer_kinds_mark)) (pv 2 (hv := v_finer_kinds_seen)) (by with_unfolding_all rfl)) (pss_one (ps_asg (pe_blt call_lenN z_len bt_len (pa_cons (pv 2 (hv := v_finer_kinds_seen)) pa_nil) (hg := gl_finer_kinds_len)) (pg_sub (pv 2 (hv := v_finer_kinds_seen)) (pv 6 (hv := v_finer_kinds_mark)) (set_N hr)))) pss_nil)
      (pss_one (ps_expr (pe_bmK K PySem.F.plainAttrs_list PySem.F.slot_list_append PySem.F.type_list_append mt_appendA (pv 3 (hv := v_finer_kinds_finer)) (pa_cons (pe_ix (ix_N hr) (pv 2 (hv := v_finer_kinds_seen)) (pv 6 (hv := v_finer_kinds_mark)) (fun _ _ => rfl)) pa_nil)))))))
      (pss_one (ps_ret (pv 3 (hv := v_finer_kinds_finer))))))), ?_⟩
  walk_at "rd1"
  refine fun sp hsp u hdn => ?_
  generalize hH1 : upd H sp u = H1 at hdn ⊢
  have sm1 := al_same hH1 hsp
  walk_at "nx"
  refine ⟨by decide, fun fp hfp => ?_⟩
  have hdn2 := hdn.mono (same_new hfp (.lst []))
  generalize hH2 : upd H1 fp _ = H2 at hdn2 ⊢
  have sm2 := al_same hH2 hfp
  have e2 := al_at hH2
  have hsp2 : ∃ o, H2 sp = some o := by obtain ⟨ys, z, _⟩ := hdn2; exact ⟨_, z⟩
  walk_at "nx"
  refine ⟨⟨_, (sm1.trans sm2) _ _ h1⟩, ?_⟩
  refine forW_enum (xs := as.map V.ref) (fun i σ H' => ∃ o4 o5 o6 : Option V, σ = [some (.ref p), some (.ref q), some (.ref sp), some (.ref fp), o4, o5, o6] ∧ Same H H' ∧ DN P w H' sp (kvFrom 0 (firsts [] ((marks R ks).take i))) ∧ H' fp = some (.lst (((finer R ks).take i).map nV)))
    ⟨none, none, none, rfl, sm1.trans sm2, hdn2, e2⟩ (fun i σ H' _ h => by obtain ⟨_, _, _, _, sm, _⟩ := h; exact SqL.of (sm _ _ h1)) ?_ ?_
  · rintro i v t σ H' hv ⟨o4, o5, o6, rfl, sm, hdn, hf⟩ ht
    have hia : i < as.length := by have := (List.getElem?_eq_some_iff.mp hv).1; simpa using this
    have hi : i < R.length := by omega
    rw [List.getElem?_map, List.getElem?_eq_getElem hia] at hv
    cases hv
    have hrow := h3 i _ _ (List.getElem?_eq_getElem hia) (List.getElem?_eq_getElem hi)
    have hkd : ks[i]? = some (ks.getD i 0) := by rw [List.getD_eq_getElem?_getD, List.getElem?_eq_getElem (by omega)]; rfl
    have hms : (marks R ks)[i]? = some (mark R ks i) := marks_at hi
    have hdt := hdn.mono (same_new ht (.tup [nV i, .ref as[i]]))
    have ett : upd H' t (.tup [nV i, .ref as[i]]) t = some (.tup [nV i, .ref as[i]]) := upd_same
    have smt := sm.trans (same_new ht (.tup [nV i, .ref as[i]]))
    have hft := (same_new ht (.tup [nV i, .ref as[i]])) _ _ hf
    generalize upd H' t (.tup [nV i, .ref as[i]]) = Ht at hdt ett smt hft ⊢
    walk_at "rd1"
    refine ⟨t, _, rfl, SqT.of ett, rfl, ?_⟩
    walk_at "rd1"
    refine ⟨_, _, .inl (SqL.of (smt _ _ hq)), atI_nat (by rw [List.getElem?_map, hkd]; rfl), ?_⟩
    refine ⟨q, as[i], R[i], fun k => ks.getD k 0, rfl, smt _ _ hrow, by rw [ok.row _ (List.getElem_mem hi)]; have := ok.m1; omega, fun k hk => .inl ⟨ks, smt _ _ hq, ?_⟩, fun L H3 sm3 hL hl3 => ?_⟩
    · have := ok.ins _ (List.getElem_mem hi) k hk
      show ks[k]? = some (ks.getD k 0)
      rw [List.getD_eq_getElem?_getD, List.getElem?_eq_getElem (by omega)]; rfl
    walk_at "rd1"
    refine ⟨_, .inl ⟨SqL.of hl3, fun tp htp => ?_⟩⟩
    generalize hH4 : upd H3 tp _ = H4
    have sm4 := al_same hH4 htp
    have e4 := al_at hH4
    refine ⟨by decide, fun mp hmp => ?_⟩
    generalize hH5 : upd H4 mp _ = H5
    have sm5 := al_same hH5 hmp
    have e5 := al_at hH5
    have smx : Same Ht H5 := (sm3.trans sm4).trans sm5
    have hke : KeyAt H5 (nkOf (mark R ks i)) mp := by
      refine ⟨tp, e5, ?_⟩
      have e6 := sm5 _ _ e4
      rw [e6, way_opt]
      show some (HO.tup _) = some (HO.tup (((R.getD i []).map (Option.map fun k => ks.getD k 0)).map (Option.map fun n : Nat => (n : Int)) |>.map optV))
      rw [List.getD_eq_getElem?_getD, List.getElem?_eq_getElem hi]; rfl
    have hd5 := hdt.mono smx
    have hf5 := smx _ _ hft
    have sm05 := smt.trans smx
    have hspn : H fp = none := sm1.free hfp
    have htk : (marks R ks).take (i + 1) = (marks R ks).take i ++ [mark R ks i] := by rw [List.take_add_one, hms]; rfl
    have hFl : (firsts [] ((marks R ks).take i)).length ≤ 60 := by
      have := firsts_len_le ((marks R ks).take i) []
      rw [List.length_take, marks_len] at this
      simp at this; omega
    refine seq_by (fun σ' H' => ∃ (b : V), σ' = [some (.ref p), some (.ref q), some (.ref sp), some (.ref fp), some (nV i), some (.ref as[i]), some (.ref mp)] ∧ Same H H' ∧ KeyAt H' (nkOf (mark R ks i)) mp ∧ DN P w H' sp (kvFrom 0 (firsts [] ((marks R ks).take (i + 1)))) ∧ H' fp = some (.lst (((finer R ks).take i).map nV))) (fun kk hkk => ?_) ?_
    · walk_at "rd1"
      refine ⟨mp, sp, _, _, rfl, rfl, hd5, hke, ?_⟩
      rw [kvFrom_val]
      by_cases hm : mark R ks i ∈ firsts [] ((marks R ks).take i)
      · rw [if_pos hm]
        walk_at "rd1"
        refine hkk _ _ ⟨.non, rfl, sm05, hke, ?_, hf5⟩
        rw [htk, firsts_snoc, if_pos hm]; exact hd5
      · rw [if_neg hm]
        walk_at "rd1"
        refine ⟨sp, _, rfl, hd5, sp, mp, _, _, rfl, rfl, hd5, hke, by rw [kvFrom_val, if_neg hm], by rw [kvFrom_len]; exact small' (by omega), fun u' hdu => ?_⟩
        refine hkk _ _ ⟨.non, rfl, sm05.upd hsp _, DN.keyUpd hd5 hke, ?_, ?_⟩
        · rw [htk, firsts_snoc, if_neg hm, kvFrom_snoc, Nat.zero_add]
          rw [kvFrom_len] at hdu
          exact hdu
        · obtain ⟨ys, z, _⟩ := hd5
          rw [upd_ne (ne_of hf5 z (fun z => nomatch z))]; exact hf5
    rintro σ' H6 ⟨_, rfl, sm6, hk6, hd6, hf6⟩
    walk_at "nx"
    have hm6 : mark R ks i ∈ firsts [] ((marks R ks).take (i + 1)) := (firsts_mem _ _ _).mpr (.inr (by rw [htk]; simp))
    refine ⟨⟨_, SqL.of hf6⟩, sp, mp, _, _, _, rfl, rfl, hd6, hk6, by rw [kvFrom_val, if_pos hm6], ?_⟩
    walk_at "rd1"
    refine ⟨_, hf6, by rw [List.length_map, List.length_take, finer_len]; exact small' (by omega), _, _, _, rfl, sm6.upd hspn _, DN.updL hd6 hf6, ?_⟩
    rw [upd_same, List.take_add_one (l := finer R ks)]
    have e : (finer R ks)[i]? = some (idx (mark R ks i) (firsts [] ((marks R ks).take (i + 1)))) := numbered_ix hms
    rw [e, Nat.zero_add, List.map_append]; rfl
  · rintro σ H' ⟨o4, o5, o6, rfl, sm, hdn, hf⟩
    walk_at "nx"
    rw [List.length_map, List.take_of_length_le (by rw [finer_len]; omega)] at hf
    exact qq fp H' sm (sm1.free hfp) hf
theorem nV_ints (ks : List Nat) : ks.map nV = (ks.map fun k : Nat => (k : Int)).map V.int := by rw [List.map_map]; rfl
theorem ints_inj {a b : List Nat} : (a.map fun k : Nat => (k : Int)) = (b.map fun k : Nat => (k : Int)) ↔ a = b := by
  refine List.map_inj_right (fun x y e => ?_)
  omega
theorem finer_lt {R : Rms} {ks : List Nat} (h : ks.length = R.length) {y : Nat} (hy : y ∈ finer R ks) : y < R.length := by
  obtain ⟨i, hi, e⟩ := List.mem_iff_getElem.mp hy
  have hiR : i < R.length := by rw [finer_len] at hi; exact hi
  have e2 : (finer R ks)[i]? = some (idx (mark R ks i) (firsts [] ((marks R ks).take (i + 1)))) := numbered_ix (marks_at hiR)
  rw [List.getElem?_eq_getElem hi, e] at e2
  have e3 := Option.some.inj e2
  have hm : mark R ks i ∈ firsts [] ((marks R ks).take (i + 1)) := (firsts_mem _ _ _).mpr (.inr (by rw [List.take_add_one, marks_at hiR]; simp))
  have h1 : idx (mark R ks i) (firsts [] ((marks R ks).take (i + 1))) < (firsts [] ((marks R ks).take (i + 1))).length := idx_lt hm
  have h2 := firsts_len_le ((marks R ks).take (i + 1)) []
  rw [List.length_take, marks_len] at h2
  simp at h2
  omega
theorem ok_kinds (D : DefAt K mg "kinds_upto" s_kinds_upto) (z_max : mg "max" = none) (c_finer_kinds : Cal P w K mg base 2 "finer_kinds" ["rooms", "kinds"] spFiner) : Cal P w K mg base 3 "kinds_upto" ["rooms", "most"] spKinds := by
  refine D.cal sc_kinds_upto (fun _ _ _ _ _ _ us hl => match us, hl with | [_, _], _ => rfl) (fun vs H Q E h => by obtain ⟨p, R, m, as, rfl, _⟩ := h; rfl) (fun f cdv A outer s H vs Q E hr h => ?_)
  obtain ⟨p, R, m, as, rfl, hR, ok, q⟩ := h
  have n1 := ok.n1
  have h2 := hR.2.1
  refine ⟨_, (pss_cons (ps_setcomp (CompSc.to (fsc := (defScope s_kinds_upto)) (N := ["rooms", "most", "kinds", "finer"]) (N0 := ["rooms", "most", "kinds", "finer"]) (T := ["room"]) ⟨by decide +kernel, by decide +kernel, by decide +kernel, by decide +kernel, by decide +kernel, by decide +kernel, by decide +kernel⟩ rfl rfl) rfl sc_kinds_upto.nd (i := 2) rfl k_kinds_upto_kinds (pi_listK K (pv 0 (hv := v_kinds_upto_rooms))) (fun _ _ _ _ => (pg_let 4 (show (["rooms", "most", "kinds", "finer", "room"] : List Str).Nodup from by decide +kernel) (hx := (locC (defScope s_kinds_upto) (by decide +kernel))) (hf := fnC (defScope s_kinds_upto) (by decide +kernel)))) (gfr_name (show (["rooms", "most", "kinds", "finer"] : List Str).length ≤ 4 from by decide)) (fun _ _ _ _ => pifs_nil) (fun _ _ _ _ => pe_int))
      (pss_cons (ps_let 3 sc_kinds_upto.nd (pe_cal c_finer_kinds hr (pa_cons (pv 0 (hv := v_kinds_upto_rooms)) (pa_cons (pv 2 (hv := v_kinds_upto_kinds)) pa_nil)) (hg := gl_kinds_upto_finer_kinds)) (hx := l_kinds_upto_finer))
      (pss_cons (ps_while PassesOwn.never (pt_cmpR (op_neKD K hr) (pv 3 (hv := v_kinds_upto_finer)) (pv 2 (hv := v_kinds_upto_kinds)) (nomark _)) (pss_cons (ps_if (pt_cmpR op_ge (pe_blt (call_maxL K) z_max bt_max (pa_cons (pv 3 (hv := v_kinds_upto_finer)) pa_nil) (hg := gl_kinds_upto_max)) (pv 1 (hv := v_kinds_upto_most)) (nomark _)) (pss_one (ps_ret pe_non)) pss_nil)
      (pss_cons (ps_let 2 sc_kinds_upto.nd (pv 3 (hv := v_kinds_upto_finer)) (hx := l_kinds_upto_kinds))
      (pss_one (ps_let 3 sc_kinds_upto.nd (pe_cal c_finer_kinds hr (pa_cons (pv 0 (hv := v_kinds_upto_rooms)) (pa_cons (pv 2 (hv := v_kinds_upto_kinds)) pa_nil)) (hg := gl_kinds_upto_finer_kinds)) (hx := l_kinds_upto_finer))))))
      (pss_one (ps_ret (pv 2 (hv := v_kinds_upto_kinds))))))), ?_⟩
  walk_at "rd1"
  refine ⟨⟨_, SqL.of hR.1⟩, fun L hL => ?_⟩
  refine compW_list (xs := as.map V.ref) (fun i ys H' => Same H H' ∧ H' L = some (.lst ys) ∧ ys = (List.replicate i 0).map nV) ⟨same_new hL _, upd_same, rfl⟩ (fun i ys H' _ h => SqL.of (h.1 _ _ hR.1)) ?_ ?_
  · rintro i ys H' v hv hi ⟨sm, hl, rfl⟩
    rw [List.length_map] at hi
    walk_at "rd1"
    refine cstep (by rw [List.length_map]; exact hi) (by simp) (by rw [List.length_map]; exact smallL (by omega)) hl ⟨sm.upd hL _, upd_same, ?_⟩
    rw [List.replicate_succ', List.map_append]; rfl
  rintro ys H1 ⟨sm1, hl1, rfl⟩
  rw [List.length_map, h2] at hl1
  have hl1' : H1 L = some (.lst ((iter R 0).map nV)) := by
    show _ = some (HO.lst ((R.map fun _ => 0).map nV))
    rw [List.map_const']; exact hl1
  walk_at "nx"
  refine ⟨p, L, R, m, as, iter R 0, rfl, hR.mono sm1, ok, hl1', iter_len R 0, fun L2 H2 sm2 hL2 hl2 => ?_⟩
  walk_at "nx"
  refine ⟨fun mm σ H' => ∃ (t : Nat) (a b : Addr), mm = pairsIn R.length (iter R t) ∧ mm + t ≤ R.length * R.length ∧ σ = [some (.ref p), some (nV R.length), some (.ref a), some (.ref b)] ∧ Same H H' ∧ H a = none ∧ H' a = some (.lst ((iter R t).map nV)) ∧ H' b = some (.lst ((iter R (t + 1)).map nV)) ∧ H b = none,
    ⟨_, 0, L, L2, rfl, by have := pairs_le R.length (iter R 0); omega, rfl, sm1.trans sm2, hL, sm2 _ _ hl1', hl2, sm1.free hL2⟩, ?_⟩
  rintro mm σ H' ⟨t, a, b, rfl, hmm, rfl, sm, ha, hla, hlb, hb⟩
  walk_at "rd1"
  rw [nV_ints] at hla hlb
  refine ⟨0, _, by decide, EqN.ints (SqL.of hlb) (SqL.of hla), ?_⟩
  walk_at "rd1"
  by_cases he : iter R (t + 1) = iter R t
  · rw [decide_eq_true (ints_inj.mpr he)]
    walk_at "rd1"
    walk_at "nx"
    rw [← nV_ints, kinds_of_fix he (by omega)] at hla
    exact q a H' sm ha hla
  · rw [decide_eq_false (fun z => he (ints_inj.mp z))]
    walk_at "rd1"
    refine ⟨fun σ' H' => ∃ mm, mm < pairsIn R.length (iter R t) ∧ ∃ (t' : Nat) (a b : Addr), mm = pairsIn R.length (iter R t') ∧ mm + t' ≤ R.length * R.length ∧ σ' = [some (.ref p), some (nV R.length), some (.ref a), some (.ref b)] ∧ Same H H' ∧ H a = none ∧ H' a = some (.lst ((iter R t').map nV)) ∧ H' b = some (.lst ((iter R (t' + 1)).map nV)) ∧ H b = none, fun _ _ h => h, ?_⟩
    have hne : (iter R (t + 1)).map (fun k : Nat => (k : Int)) ≠ [] := by
      have h0 := iter_len R (t + 1)
      have h1 := ok.n0
      intro z
      have := congrArg List.length z
      rw [List.length_map, List.length_nil] at this
      omega
    refine ⟨_, SqL.of hlb, hne, fun M hM _ => ?_⟩
    have hMlt : M < (R.length : Int) := by
      obtain ⟨y, hy, rfl⟩ := List.mem_map.mp hM
      have := finer_lt (R := R) (ks := iter R t) (iter_len R t) hy
      omega
    walk_at "rd1"
    refine ite2 (fun c => ?_) (fun c => ?_)
    · exfalso; have c' : M ≥ (R.length : Int) := by simpa using c
      omega
    walk_at "nx"
    walk_at "nx"
    rw [← nV_ints] at hla hlb
    refine ⟨p, b, R, m, as, iter R (t + 1), rfl, hR.mono sm, ok, hlb, iter_len R _, fun L3 H3 sm3 hL3 hl3 => ?_⟩
    have hlt := pairs_lt (R := R) (iter_len R t) (iter_canon R t) he
    exact ⟨_, hlt, t + 1, b, L3, rfl, (by show pairsIn R.length (finer R (iter R t)) + (t + 1) ≤ _; omega), rfl, sm.trans sm3, hb, sm3 _ _ hlb, hl3, sm.free hL3⟩
/-! rooms that grow -/
structure NR (H H' : Hp) (mp : Addr) (rs : Rms) (as : List Addr) : Prop where
  at' : RoomsAs H' mp rs as
  new : ∀ a ∈ as, H a = none ∧ a ≠ mp
  nd : as.Nodup
theorem NR.held {H H' : Hp} {mp : Addr} {rs : Rms} {as : List Addr} (h : NR H H' mp rs as) {a : Addr} (ha : a ∈ as) : ∃ o, H' a = some o := by
  obtain ⟨i, hi, e⟩ := List.mem_iff_getElem.mp ha
  have hl := h.at'.2.1
  exact ⟨_, h.at'.2.2 i a _ (by rw [← e]; exact List.getElem?_eq_getElem hi) (List.getElem?_eq_getElem (by omega))⟩
theorem NR.mono {H H' H2 : Hp} {mp : Addr} {rs : Rms} {as : List Addr} (h : NR H H' mp rs as) (sm : Same H' H2) : NR H H2 mp rs as := ⟨h.at'.mono sm, h.new, h.nd⟩
theorem NR.push {H H' : Hp} {mp L : Addr} {rs : Rms} {as : List Addr} {x : List (Option Nat)} {H0 : Hp} (h : NR H H0 mp rs as) (sm : Same H0 H') (smH : Same H H0) (hL0 : H0 L = none) (hL : H' L = some (.lst (x.map wayV))) :
    NR H (upd H' mp (.lst (as.map V.ref ++ [.ref L]))) mp (rs ++ [x]) (as ++ [L]) := by
  obtain ⟨h1, h2, h3⟩ := h.at'
  have nL : L ≠ mp := Ne.symm (ne_of_none h1 hL0)
  refine ⟨⟨by rw [upd_same, List.map_append]; rfl, by simp [h2], fun i a y e1 e2 => ?_⟩, fun a ha => ?_, ?_⟩
  · rcases Nat.lt_or_ge i as.length with z | z
    · rw [List.getElem?_append_left z] at e1
      rw [List.getElem?_append_left (by omega)] at e2
      have hn := (h.new a (List.mem_of_getElem? e1)).2
      rw [upd_ne hn]; exact sm _ _ (h3 i a y e1 e2)
    · rw [List.getElem?_append_right z] at e1
      rw [List.getElem?_append_right (by omega)] at e2
      have hj0 : i - as.length = 0 := by
        have := (List.getElem?_eq_some_iff.mp e1).1
        simp at this; omega
      rw [hj0] at e1
      rw [show i - rs.length = 0 by omega] at e2
      have e1' : L = a := by simpa using e1
      have e2' : x = y := by simpa using e2
      subst e1' e2'
      rw [upd_ne nL]; exact hL
  · rcases List.mem_append.mp ha with z | z
    · exact h.new a z
    · rw [List.mem_singleton.mp z]; exact ⟨smH.free hL0, nL⟩
  · rw [List.nodup_append]
    refine ⟨h.nd, by simp, fun a ha b hb e => ?_⟩
    rw [List.mem_singleton.mp hb] at e
    subst e
    obtain ⟨o, z⟩ := h.held ha
    rw [hL0] at z; cases z
def spRms (g : Rms → Rms) : Sp := fun vs H Q _ => ∃ (p : Addr) (R : Rms) (m : Nat) (as : List Addr), vs = [.ref p] ∧ RoomsAs H p R as ∧ RmsOk R m ∧ ∀ (L : Addr) (H' : Hp) (bs : List Addr), Same H H' → H L = none → NR H H' L (g R) bs → Q (.ref L) H'
def spMerged : Sp := fun vs H Q _ => ∃ (p kp : Addr) (R : Rms) (m : Nat) (as : List Addr), vs = [.ref p, .ref kp] ∧ RoomsAs H p R as ∧ RmsOk R m ∧ H kp = some (.lst ((kindsOf R).map nV)) ∧ ∀ (L : Addr) (H' : Hp) (bs : List Addr), Same H H' → H L = none → NR H H' L (merged R) bs → Q (.ref L) H'
theorem ok_merged (D : DefAt K mg "merged_rooms" s_merged_rooms) (z_enumerate : mg "enumerate" = none) (z_len : mg "len" = none) (c_ways_by : Cal P w K mg base 1 "ways_by" ["numbers", "ways"] spWaysBy) :
    Cal P w K mg base 4 "merged_rooms" ["rooms", "kinds"] spMerged := by
  refine D.cal sc_merged_rooms (fun _ _ _ _ _ _ us hl => match us, hl with | [_, _], _ => rfl) (fun vs H Q E h => by obtain ⟨p, kp, R, m, as, rfl, _⟩ := h; rfl) (fun f cdv A outer s H vs Q E hr h => ?_)
  obtain ⟨p, kp, R, m, as, rfl, hR, ok, hk1, q⟩ := h
  obtain ⟨h1, h2, h3⟩ := hR
  have n1 := ok.n1
  have hlk : (kindsOf R).length = R.length := iter_len R _
  have hcn : Canon (kindsOf R) := iter_canon R _
  refine ⟨_, (pss_cons (ps_let 2 sc_merged_rooms.nd (pe_lst pa_nil) (hx := l_merged_rooms_merged))
      (pss_cons (ps_for PassesOwn.never rfl (pi_enumK K gl_merged_rooms_enumerate z_enumerate (pa_cons (pv 0 (hv := v_merged_rooms_rooms)) pa_nil)) (pg_tupK K (n := 2) (pgs_cons (pg_let 3 sc_merged_rooms.nd (hx := l_merged_rooms_at)) (pgs_cons (pg_let 4 sc_merged_rooms.nd (hx := l_merged_rooms_room)) pgs_nil))) (pss_one (ps_if (pt_cmpR op_eqA (pe_ix (ix_K K) (pv 1 (hv := v_merged_rooms_kinds)) (pv 3 (hv := v_merged_rooms_at)) (fun _ _ => rfl)) (pe_blt (call_lenK K) z_len bt_len (pa_cons (pv 2 (hv := v_merged_rooms_merged)) pa_nil) (hg := gl_merged_rooms_len)) (nomark _)) (pss_one (ps_expr (pe_bmK K PySem.F.plainAttrs_list PySem.F.slot_list_append PySem.F.type_list_append mt_appendA (pv 2 (hv := v_merged_rooms_merged)) (pa_cons (pe_cal c_ways_by hr (pa_cons (pv 1 (hv := v_merged_rooms_kinds)) (pa_cons (pv 4 (hv := v_merged_rooms_room)) pa_nil)) (hg := gl_merged_rooms_ways_by)) pa_nil)))) pss_nil)))
      (pss_one (ps_ret (pv 2 (hv := v_merged_rooms_merged)))))), ?_⟩
  walk_at "rd1"
  refine ⟨by decide, fun mp hmp => ?_⟩
  generalize hH2 : upd H mp _ = H2
  have sm2 := al_same hH2 hmp
  have e2 := al_at hH2
  have hmpH : H mp = none := hmp
  walk_at "nx"
  refine ⟨⟨_, sm2 _ _ h1⟩, ?_⟩
  refine forW_enum (xs := as.map V.ref) (fun i σ H' => ∃ (o3 o4 : Option V) (bs : List Addr), σ = [some (.ref p), some (.ref kp), some (.ref mp), o3, o4] ∧ Same H H' ∧ H' kp = some (.lst ((kindsOf R).map nV)) ∧ NR H H' mp (mergedTo R (kindsOf R) i) bs)
    ⟨none, none, [], rfl, sm2, sm2 _ _ hk1, ⟨e2, rfl, by simp⟩, by simp, List.nodup_nil⟩ (fun i σ H' _ h => by obtain ⟨_, _, _, _, sm, _⟩ := h; exact SqL.of (sm _ _ h1)) ?_ ?_
  · rintro i v t σ H' hv ⟨o3, o4, bs, rfl, sm, hk, hN⟩ ht
    have hia : i < as.length := by have := (List.getElem?_eq_some_iff.mp hv).1; simpa using this
    have hi : i < R.length := by omega
    rw [List.getElem?_map, List.getElem?_eq_getElem hia] at hv
    cases hv
    have hrow := h3 i _ _ (List.getElem?_eq_getElem hia) (List.getElem?_eq_getElem hi)
    have hkd : (kindsOf R)[i]? = some ((kindsOf R).getD i 0) := by rw [List.getD_eq_getElem?_getD, List.getElem?_eq_getElem (by omega)]; rfl
    have st := same_new ht (.tup [nV i, .ref as[i]])
    have ett : upd H' t (.tup [nV i, .ref as[i]]) t = some (.tup [nV i, .ref as[i]]) := upd_same
    have smt := sm.trans st
    have hkt := st _ _ hk
    have hNt := hN.mono st
    generalize upd H' t (.tup [nV i, .ref as[i]]) = Ht at st ett smt hkt hNt ⊢
    have hml : bs.length = (mergedTo R (kindsOf R) i).length := hNt.at'.2.1
    have hms := merged_step hcn hlk hi
    have hbl : (mergedTo R (kindsOf R) i).length ≤ 60 := by
      show ((List.range _).map _).length ≤ 60
      rw [List.length_map, List.length_range]
      have := firsts_len_le ((kindsOf R).take i) []
      rw [List.length_take] at this
      simp at this; omega
    walk_at "rd1"
    refine ⟨t, _, rfl, SqT.of ett, rfl, ?_⟩
    walk_at "rd1"
    refine ⟨_, _, .inl (SqL.of hkt), atI_nat (by rw [List.getElem?_map, hkd]; rfl), ⟨_, .inl (SqL.of hNt.at'.1), ?_⟩⟩
    rw [List.length_map, hml]
    walk_at "rd1"
    refine ite2 (fun c => ?_) (fun c => ?_)
    · rw [if_pos (by omega)] at hms
      refine ⟨⟨_, SqL.of hNt.at'.1⟩, kp, as[i], R[i], fun k => (kindsOf R).getD k 0, rfl, smt _ _ hrow, by rw [ok.row _ (List.getElem_mem hi)]; have := ok.m1; omega, fun k hk' => .inl ⟨_, hkt, ?_⟩, fun L H3 sm3 hL hl3 => ?_⟩
      · have := ok.ins _ (List.getElem_mem hi) k hk'
        show (kindsOf R)[k]? = some ((kindsOf R).getD k 0)
        rw [List.getD_eq_getElem?_getD, List.getElem?_eq_getElem (by omega)]; rfl
      walk_at "rd1"
      refine ⟨_, sm3 _ _ hNt.at'.1, by rw [List.length_map]; exact small' (by omega), _, _, bs ++ [L], rfl, (smt.trans sm3).upd hmpH _, ?_, ?_⟩
      · rw [upd_ne (fun z => ?_)]
        · exact sm3 _ _ hkt
        · subst z
          rw [hk1] at hmp; cases hmp
      · rw [hms]
        have e : R.getD i [] = R[i] := by rw [List.getD_eq_getElem?_getD, List.getElem?_eq_getElem hi]; rfl
        rw [e]
        exact hNt.push sm3 smt hL hl3
    · rw [if_neg (by omega)] at hms
      exact ⟨_, _, bs, rfl, smt, hkt, by rw [hms]; exact hNt⟩
  · rintro σ H' ⟨o3, o4, bs, rfl, sm, hk, hN⟩
    walk_at "nx"
    rw [List.length_map, h2] at hN
    exact q mp H' bs sm hmpH hN
/-! the order of the rooms -/
def metOf (o : List Nat) : List (Key × V) := o.map fun k : Nat => (Sum.inl (k : Int), V.bl true)
theorem metOf_val (k : Nat) : ∀ (o : List Nat), (valV (metOf o) (.inl (k : Int))).isSome = decide (k ∈ o)
  | [] => rfl
  | x :: o => by
    have ih := metOf_val k o
    show (valV ((Sum.inl (x : Int), V.bl true) :: metOf o) (.inl (k : Int))).isSome = _
    by_cases h : x = k
    · subst h; simp [valV]
    · have hn : ¬ ((Sum.inl (x : Int) : Key) = Sum.inl (k : Int)) := fun z => h (by have := Sum.inl.inj z; omega)
      have e : valV ((Sum.inl (x : Int), V.bl true) :: metOf o) (.inl (k : Int)) = valV (metOf o) (.inl (k : Int)) := by simp [valV, hn]
      rw [e, ih]
      simp [Ne.symm h]
theorem metOf_put {k : Nat} {o : List Nat} (h : k ∉ o) : putK (metOf o) (.inl (k : Int)) (.bl true) = metOf (o ++ [k]) := by
  unfold putK
  have hn : ((metOf o).any fun kv => decide (kv.1 = (Sum.inl (k : Int) : Key))) = false := by
    rw [List.any_eq_false]
    intro x hx
    obtain ⟨y, hy, rfl⟩ := List.mem_map.mp hx
    have : y ≠ k := fun e => h (e ▸ hy)
    simp; omega
  rw [if_neg (by rw [hn]; exact Bool.false_ne_true)]
  unfold metOf
  rw [List.map_append]; rfl
def spOrder : Sp := fun vs H Q _ => ∃ (p : Addr) (R : Rms) (m : Nat) (as : List Addr), vs = [.ref p] ∧ RoomsAs H p R as ∧ RmsOk R m ∧ ∀ (L : Addr) (H' : Hp), Same H H' → H L = none → H' L = some (.lst ((orderOf R).map nV)) → Q (.ref L) H'
theorem ok_led (D : DefAt K mg "rooms_led_to" s_rooms_led_to) (z_len : mg "len" = none) : Cal P w K mg base 1 "rooms_led_to" ["rooms"] spOrder := by
  refine D.cal sc_rooms_led_to (fun _ _ _ _ _ _ us hl => match us, hl with | [_], _ => rfl) (fun vs H Q E h => by obtain ⟨p, R, m, as, rfl, _⟩ := h; rfl) (fun f cdv A outer s H vs Q E hr h => ?_)
  obtain ⟨p, R, m, as, rfl, hR, ok, q⟩ := h
  obtain ⟨h1, h2, h3⟩ := hR
  have n1 := ok.n1
  refine ⟨_, (pss_cons (ps_let 1 sc_rooms_led_to.nd (pe_lst (pa_cons pe_int pa_nil)) (hx := l_rooms_led_to_order))
      (pss_cons (ps_let 2 sc_rooms_led_to.nd (pe_disp (pps_cons pe_int pe_bl pps_nil) rfl rfl (by decide) (by decide)) (hx := l_rooms_led_to_met))
      (pss_cons (ps_let 3 sc_rooms_led_to.nd pe_int (hx := l_rooms_led_to_at))
      (pss_cons (ps_while PassesOwn.never (pt_cmpR op_ltA (pv 3 (hv := v_rooms_led_to_at)) (pe_blt (call_lenK K) z_len bt_len (pa_cons (pv 1 (hv := v_rooms_led_to_order)) pa_nil) (hg := gl_rooms_led_to_len)) (nomark _)) (pss_cons (ps_let 4 sc_rooms_led_to.nd (pe_ix (ix_K K) (pv 1 (hv := v_rooms_led_to_order)) (pv 3 (hv := v_rooms_led_to_at)) (fun _ _ => rfl)) (hx := l_rooms_led_to_room))
      (pss_cons (ps_for PassesOwn.never rfl (pi_listK K (pe_ix (ix_K K) (pv 0 (hv := v_rooms_led_to_rooms)) (pv 4 (hv := v_rooms_led_to_room)) (fun _ _ => rfl))) (pg_let 5 sc_rooms_led_to.nd (hx := l_rooms_led_to_way)) (pss_one (ps_if (PW.pt' (pw_and (pt_cmpR op_notNA (pv 5 (hv := v_rooms_led_to_way)) pe_non (nomark _)) (pw_and1 (pt_cmpR (op_notInD hr) (pv 5 (hv := v_rooms_led_to_way)) (pv 2 (hv := v_rooms_led_to_met)) (by with_unfolding_all rfl))))) (pss_cons (ps_asg pe_bl (pg_sub (pv 2 (hv := v_rooms_led_to_met)) (pv 5 (hv := v_rooms_led_to_way)) (set_D hr)))
      (pss_one (ps_expr (pe_bmK K PySem.F.plainAttrs_list PySem.F.slot_list_append PySem.F.type_list_append mt_appendA (pv 1 (hv := v_rooms_led_to_order)) (pa_cons (pv 5 (hv := v_rooms_led_to_way)) pa_nil))))) pss_nil)))
      (pss_one (ps_let 3 sc_rooms_led_to.nd (pe_op op_addA (pv 3 (hv := v_rooms_led_to_at)) pe_int) (hx := l_rooms_led_to_at))))))
      (pss_one (ps_ret (pv 1 (hv := v_rooms_led_to_order)))))))), ?_⟩
  walk_at "rd1"
  refine ⟨by decide, fun op hop => ?_⟩
  generalize hH1 : upd H op _ = H1
  have sm1 := al_same hH1 hop
  have e1 := al_at hH1
  walk_at "nx"
  refine fun dp hdp => ⟨upd_same, [(.inl 0, .bl true)], rfl, by decide, ?_⟩
  rw [upd_upd]
  generalize hH2 : upd H1 dp _ = H2
  have sm2 := al_same hH2 hdp
  have e2 : H2 dp = some (.dK (metOf [0])) := al_at hH2
  have hdpH : H dp = none := sm1.free hdp
  walk_at "nx"
  walk_at "nx"
  refine ⟨fun mm σ H' => ∃ (t : Nat) (o4 o5 : Option V), mm = R.length - t ∧ t ≤ (bfs R t).length ∧ σ = [some (.ref p), some (.ref op), some (.ref dp), some (.int (t : Int)), o4, o5] ∧ Same H H' ∧ H' op = some (.lst ((bfs R t).map nV)) ∧ H' dp = some (.dK (metOf (bfs R t))),
    ⟨_, 0, none, none, rfl, Nat.zero_le _, rfl, sm1.trans sm2, sm2 _ _ e1, e2⟩, ?_⟩
  rintro mm σ H' ⟨t, o4, o5, rfl, htl, rfl, sm, ho, hd⟩
  have hbl := bfs_len ok.ins ok.n0 t
  have hbf := (bfs_facts ok.ins ok.n0 t).2
  walk_at "rd1"
  refine ⟨_, .inl (SqL.of ho), ?_⟩
  rw [List.length_map]
  refine ite2 (fun c => ?_) (fun c => ?_)
  · have ht : t < (bfs R t).length := by simpa using c
    refine ⟨fun σ' H' => ∃ mm, mm < R.length - t ∧ ∃ (t' : Nat) (o4 o5 : Option V), mm = R.length - t' ∧ t' ≤ (bfs R t').length ∧ σ' = [some (.ref p), some (.ref op), some (.ref dp), some (.int (t' : Int)), o4, o5] ∧ Same H H' ∧ H' op = some (.lst ((bfs R t').map nV)) ∧ H' dp = some (.dK (metOf (bfs R t'))), fun _ _ h => h, ?_⟩
    walk_at "rd1"
    refine ⟨_, _, .inl (SqL.of ho), atI_nat (by rw [List.getElem?_map, List.getElem?_eq_getElem ht]; rfl), ?_⟩
    have hr' : (bfs R t)[t] < R.length := hbf _ (List.getElem_mem ht)
    have hbt : (bfs R t)[t]? = some (bfs R t)[t] := List.getElem?_eq_getElem ht
    have hb1 : bfs R (t + 1) = expand (bfs R t) (R.getD (bfs R t)[t] []) := by
      show (match (bfs R t)[t]? with | some r => expand (bfs R t) (R.getD r []) | none => bfs R t) = _
      rw [hbt]
    generalize (bfs R t)[t] = r at hr' hbt hb1 ⊢
    have hra : r < as.length := by omega
    have hrow := h3 r _ _ (List.getElem?_eq_getElem hra) (List.getElem?_eq_getElem hr')
    have hgd : R.getD r [] = R[r] := by rw [List.getD_eq_getElem?_getD, List.getElem?_eq_getElem hr']; rfl
    rw [hgd] at hb1
    have hrm := ok.row _ (List.getElem_mem hr')
    have hm1 := ok.m1
    walk_at "nx"
    refine ⟨_, _, .inl (SqL.of (sm _ _ h1)), atI_nat (by rw [List.getElem?_map, List.getElem?_eq_getElem hra]; rfl), ?_⟩
    walk_at "rd1"
    refine ⟨⟨_, SqL.of (sm _ _ hrow)⟩, ?_⟩
    refine forW_list (xs := (R[r]).map wayV) (fun j σ H' => ∃ o5, σ = [some (.ref p), some (.ref op), some (.ref dp), some (.int (t : Int)), some (nV r), o5] ∧ Same H H' ∧ H' op = some (.lst ((expand (bfs R t) ((R[r]).take j)).map nV)) ∧ H' dp = some (.dK (metOf (expand (bfs R t) ((R[r]).take j)))))
      ⟨o5, rfl, sm, ho, hd⟩ (fun j σ H' _ h => by obtain ⟨_, _, sm, _⟩ := h; exact SqL.of (sm _ _ hrow)) ?_ ?_
    · rintro j v σ H' hv ⟨o5, rfl, sm, ho, hd⟩
      have hj : j < (R[r]).length := by have := (List.getElem?_eq_some_iff.mp hv).1; simpa using this
      rw [List.getElem?_map, List.getElem?_eq_getElem hj] at hv
      cases hv
      have htk : (R[r]).take (j + 1) = (R[r]).take j ++ [(R[r])[j]] := by rw [List.take_add_one, List.getElem?_eq_getElem hj]; rfl
      have hes := expand_snoc ((R[r]).take j) (bfs R t) (R[r])[j]
      rw [← htk] at hes
      have hxm := List.getElem_mem hj
      generalize (R[r])[j] = xo at hes hxm ⊢
      have hel : (expand (bfs R t) ((R[r]).take j)).length ≤ R.length := by
        refine nodup_le _ _ (expand_nodup _ _ (bfs_facts ok.ins ok.n0 t).1) fun y hy => ?_
        rcases (expand_mem _ _ _).mp hy with z | z
        · exact hbf y z
        · exact ok.ins _ (List.getElem_mem hr') y (List.mem_of_mem_take z)
      have hop' : op ≠ dp := by
        rintro rfl
        rw [e1] at hdp; cases hdp
      cases xo with
      | none =>
        walk_at "rd1"
        refine ite2 (fun c => ?_) (fun c => ?_)
        · exact absurd c (by decide)
        · exact ⟨_, rfl, sm, by rw [hes]; exact ho, by rw [hes]; exact hd⟩
      | some k =>
        rw [show wayV (some k) = V.int (k : Int) from rfl]
        walk_at "rd1"
        refine ite2 (fun c => ?_) (fun c => ?_)
        · refine ⟨dp, _, .inl (k : Int), rfl, rfl, hd, ?_⟩
          rw [metOf_val]
          by_cases hm : k ∈ expand (bfs R t) ((R[r]).take j)
          · rw [decide_eq_true hm]
            walk_at "rd1"
            simp only [if_pos hm] at hes
            exact ⟨_, rfl, sm, by rw [hes]; exact ho, by rw [hes]; exact hd⟩
          · rw [decide_eq_false hm]
            simp only [if_neg hm] at hes
            walk_at "rd1"
            refine ⟨dp, _, .inl (k : Int), rfl, rfl, hd, by show (List.map _ _).length < _; rw [List.length_map]; exact small' (by omega), ?_⟩
            rw [metOf_put hm]
            walk_at "nx"
            have ho' : upd H' dp (.dK (metOf (expand (bfs R t) ((R[r]).take j) ++ [k]))) op = some (.lst ((expand (bfs R t) ((R[r]).take j)).map nV)) := by rw [upd_ne hop']; exact ho
            refine ⟨⟨_, SqL.of ho'⟩, _, ho', by rw [List.length_map]; exact small' (by omega), _, rfl, (sm.upd hdpH _).upd hop _, ?_, ?_⟩
            · rw [upd_same, hes, List.map_append]; rfl
            · rw [upd_ne (Ne.symm hop'), upd_same, hes]
        · exact absurd (by simp) c
    · rintro σ H' ⟨o5, rfl, sm, ho, hd⟩
      rw [List.length_map, List.take_length, ← hb1] at ho hd
      walk_at "nx"
      refine ⟨_, (by omega : R.length - (t + 1) < R.length - t), t + 1, some (nV r), o5, rfl, ?_, ?_, sm, ho, hd⟩
      · obtain ⟨u, hu⟩ := bfs_pre (M := R) t
        rw [hu, List.length_append]; omega
      · rw [show ((t + 1 : Nat) : Int) = (t : Int) + 1 by omega]
  · have ht : (bfs R t).length ≤ t := by
      have : ¬ ((t : Int) < ((bfs R t).length : Int)) := by simpa using c
      omega
    walk_at "nx"
    rw [order_of_fix ht (by omega)] at ho
    exact q op H' sm hop ho
/-! numbered -/
def numFrom (k : Nat) : List Nat → List (Key × V)
  | [] => []
  | r :: o => (Sum.inl (r : Int), nV k) :: numFrom (k + 1) o
theorem numFrom_len : ∀ (o : List Nat) (k : Nat), (numFrom k o).length = o.length
  | [], _ => rfl
  | r :: o, k => by show (numFrom (k + 1) o).length + 1 = _; rw [numFrom_len o]; rfl
theorem numFrom_key : ∀ (o : List Nat) (k : Nat), ∀ kv ∈ numFrom k o, ∃ r ∈ o, kv.1 = Sum.inl (r : Int)
  | [], _, kv, h => by simp [numFrom] at h
  | r :: o, k, kv, h => by
    rcases List.mem_cons.mp h with rfl | h
    · exact ⟨r, List.mem_cons_self, rfl⟩
    · obtain ⟨x, hx, e⟩ := numFrom_key o (k + 1) kv h
      exact ⟨x, List.mem_cons_of_mem _ hx, e⟩
theorem numFrom_snoc : ∀ (o : List Nat) (k r : Nat), numFrom k (o ++ [r]) = numFrom k o ++ [(Sum.inl (r : Int), nV (k + o.length))]
  | [], k, r => rfl
  | x :: o, k, r => by
    show (Sum.inl (x : Int), nV k) :: numFrom (k + 1) (o ++ [r]) = _
    rw [numFrom_snoc o, List.length_cons, show k + 1 + o.length = k + (o.length + 1) by omega]; rfl
theorem numFrom_put {o : List Nat} {r : Nat} (h : r ∉ o) : putK (numFrom 0 o) (.inl (r : Int)) (nV o.length) = numFrom 0 (o ++ [r]) := by
  unfold putK
  have hn : ((numFrom 0 o).any fun kv => decide (kv.1 = (Sum.inl (r : Int) : Key))) = false := by
    rw [List.any_eq_false]
    intro x hx
    obtain ⟨y, hy, e⟩ := numFrom_key o 0 x hx
    have : y ≠ r := fun e => h (e ▸ hy)
    rw [e]; simp; omega
  rw [if_neg (by rw [hn]; exact Bool.false_ne_true), numFrom_snoc, Nat.zero_add]
theorem numFrom_val : ∀ (o : List Nat) (k r : Nat), r ∈ o → valV (numFrom k o) (.inl (r : Int)) = some (nV (k + o.idxOf r))
  | [], _, _, h => by cases h
  | x :: o, k, r, h => by
    by_cases e : x = r
    · subst e
      rw [List.idxOf_cons_self]
      show valV ((Sum.inl (x : Int), nV k) :: numFrom (k + 1) o) (.inl (x : Int)) = _
      simp [valV]
    · have hr : r ∈ o := (List.mem_cons.mp h).resolve_left (fun z => e z.symm)
      have hn : ¬ ((Sum.inl (x : Int) : Key) = Sum.inl (r : Int)) := fun z => e (by have := Sum.inl.inj z; omega)
      have e1 : valV (numFrom k (x :: o)) (.inl (r : Int)) = valV (numFrom (k + 1) o) (.inl (r : Int)) := by
        show valV ((Sum.inl (x : Int), nV k) :: numFrom (k + 1) o) (.inl (r : Int)) = _
        simp [valV, hn]
      rw [e1, numFrom_val o (k + 1) r hr, List.idxOf_cons]
      have hb : (x == r) = false := beq_eq_false_iff_ne.mpr e
      rw [hb]
      show some (nV (k + 1 + o.idxOf r)) = some (nV (k + (o.idxOf r + 1)))
      rw [show k + 1 + o.idxOf r = k + (o.idxOf r + 1) by omega]
theorem ok_numbered (D : DefAt K mg "numbered_rooms" s_numbered_rooms) (z_enumerate : mg "enumerate" = none) (c_rooms_led_to : Cal P w K mg base 1 "rooms_led_to" ["rooms"] spOrder) (c_ways_by : Cal P w K mg base 1 "ways_by" ["numbers", "ways"] spWaysBy) :
    Cal P w K mg base 2 "numbered_rooms" ["rooms"] (spRms orderedR) := by
  refine D.cal sc_numbered_rooms (fun _ _ _ _ _ _ us hl => match us, hl with | [_], _ => rfl) (fun vs H Q E h => by obtain ⟨p, R, m, as, rfl, _⟩ := h; rfl) (fun f cdv A outer s H vs Q E hr h => ?_)
  obtain ⟨p, R, m, as, rfl, hR, ok, q⟩ := h
  obtain ⟨h1, h2, h3⟩ := hR
  have n1 := ok.n1
  have hm1 := ok.m1
  obtain ⟨ond, olt, ole⟩ := order_facts ok.ins ok.n0
  refine ⟨_, (pss_cons (ps_let 1 sc_numbered_rooms.nd (pe_cal c_rooms_led_to hr (pa_cons (pv 0 (hv := v_numbered_rooms_rooms)) pa_nil) (hg := gl_numbered_rooms_rooms_led_to)) (hx := l_numbered_rooms_order))
      (pss_cons (ps_let 2 sc_numbered_rooms.nd pe_dnewK (hx := l_numbered_rooms_numbers))
      (pss_cons (ps_for PassesOwn.never rfl (pi_enumK K gl_numbered_rooms_enumerate z_enumerate (pa_cons (pv 1 (hv := v_numbered_rooms_order)) pa_nil)) (pg_tupK K (n := 2) (pgs_cons (pg_let 3 sc_numbered_rooms.nd (hx := l_numbered_rooms_number)) (pgs_cons (pg_let 4 sc_numbered_rooms.nd (hx := l_numbered_rooms_room)) pgs_nil))) (pss_one (ps_asg (pv 3 (hv := v_numbered_rooms_number)) (pg_sub (pv 2 (hv := v_numbered_rooms_numbers)) (pv 4 (hv := v_numbered_rooms_room)) (set_D hr)))))
      (pss_one (ps_ret (pe_comp (CompSc.to (fsc := (defScope s_numbered_rooms)) (N := ["rooms", "order", "numbers", "number", "room"]) (N0 := ["rooms", "order", "numbers", "number", "room'"]) (T := ["room"]) ⟨by decide +kernel, by decide +kernel, by decide +kernel, by decide +kernel, by decide +kernel, by decide +kernel, by decide +kernel⟩ rfl rfl) rfl (pi_listK K (pv 1 (hv := v_numbered_rooms_order))) (fun _ _ _ _ => (pg_let 5 (show (["rooms", "order", "numbers", "number", "room'", "room"] : List Str).Nodup from by decide +kernel) (hx := (locC (defScope s_numbered_rooms) (by decide +kernel))) (hf := fnC (defScope s_numbered_rooms) (by decide +kernel)))) (gfr_name (show (["rooms", "order", "numbers", "number", "room"] : List Str).length ≤ 5 from by decide)) (fun _ _ _ _ => pifs_nil) (fun _ _ _ _ => (pe_cal c_ways_by hr (pa_cons (pv 2 (hv := (visC (defScope s_numbered_rooms) (by decide +kernel)))) (pa_cons (pe_ix (ix_K K) (pv 0 (hv := (visC (defScope s_numbered_rooms) (by decide +kernel)))) (pv 5 (hv := (visC (defScope s_numbered_rooms) (by decide +kernel)))) (fun _ _ => rfl)) pa_nil)) (hg := (glC (defScope s_numbered_rooms) (by decide +kernel))))))))))), ?_⟩
  walk_at "rd1"
  refine ⟨p, R, m, as, rfl, ⟨h1, h2, h3⟩, ok, fun op H1 sm1 hop ho => ?_⟩
  walk_at "nx"
  refine fun np hnp => ?_
  generalize hH2 : upd H1 np _ = H2
  have sm2 := al_same hH2 hnp
  have e2 := al_at hH2
  have hnpH : H np = none := sm1.free hnp
  walk_at "nx"
  refine ⟨⟨_, sm2 _ _ ho⟩, ?_⟩
  refine forW_enum (xs := (orderOf R).map nV) (fun i σ H' => ∃ (o3 o4 : Option V), σ = [some (.ref p), some (.ref op), some (.ref np), o3, o4] ∧ Same H H' ∧ H' op = some (.lst ((orderOf R).map nV)) ∧ H' np = some (.dK (numFrom 0 ((orderOf R).take i))))
    ⟨none, none, rfl, sm1.trans sm2, sm2 _ _ ho, e2⟩ (fun i σ H' _ h => by obtain ⟨_, _, _, _, z, _⟩ := h; exact SqL.of z) ?_ ?_
  · rintro i v t σ H' hv ⟨o3, o4, rfl, sm, ho', hn⟩ ht
    have hi : i < (orderOf R).length := by have := (List.getElem?_eq_some_iff.mp hv).1; simpa using this
    rw [List.getElem?_map, List.getElem?_eq_getElem hi] at hv
    cases hv
    have hnot : (orderOf R)[i] ∉ (orderOf R).take i := fun z => by
      obtain ⟨j, hj, e⟩ := List.mem_iff_getElem.mp z
      rw [List.getElem_take] at e
      have := (List.getElem_inj ond).mp e
      simp at hj; omega
    have htk : (orderOf R).take (i + 1) = (orderOf R).take i ++ [(orderOf R)[i]] := by rw [List.take_add_one, List.getElem?_eq_getElem hi]; rfl
    have hlt : ((orderOf R).take i).length = i := by rw [List.length_take]; omega
    generalize (orderOf R)[i] = r at hnot htk ⊢
    have st := same_new ht (.tup [nV i, nV r])
    have ett : upd H' t (.tup [nV i, nV r]) t = some (.tup [nV i, nV r]) := upd_same
    have smt := sm.trans st
    have hot := st _ _ ho'
    have hnt := st _ _ hn
    generalize upd H' t (.tup [nV i, nV r]) = Ht at st ett smt hot hnt ⊢
    walk_at "rd1"
    refine ⟨t, _, rfl, SqT.of ett, rfl, ?_⟩
    walk_at "rd1"
    refine ⟨np, _, .inl (r : Int), rfl, rfl, hnt, by rw [numFrom_len]; exact small' (by omega), ?_⟩
    refine ⟨_, _, rfl, smt.upd hnpH _, ?_, ?_⟩
    · rw [upd_ne (ne_of hot hnt (fun z => nomatch z))]; exact hot
    · have e := numFrom_put hnot
      rw [hlt] at e
      rw [upd_same, htk, ← e]
  · rintro σ H3 ⟨o3, o4, rfl, sm3, ho3, hn3⟩
    rw [List.length_map, List.take_length] at hn3
    walk_at "nx"
    refine ⟨⟨_, SqL.of ho3⟩, fun L hL => ?_⟩
    refine compW_list (xs := (orderOf R).map nV) (fun i ys H' => ∃ bs : List Addr, Same H3 H' ∧ ys = bs.map V.ref ∧ bs.length = i ∧ NR H H' L ((orderedR R).take i) bs) ⟨[], same_new hL _, rfl, rfl, ⟨⟨upd_same, rfl, by simp⟩, by simp, List.nodup_nil⟩⟩ (fun i ys H' _ h => by obtain ⟨_, sm, _⟩ := h; exact SqL.of (sm _ _ ho3)) ?_ ?_
    · rintro i ys H' v hv hi ⟨bs, sm, rfl, hb, hN⟩
      rw [List.length_map] at hi
      rw [List.getElem?_map, List.getElem?_eq_getElem hi] at hv
      cases hv
      have hrm := List.getElem_mem hi
      have hod : (orderedR R)[i]? = some (waysO (orderOf R) (R.getD (orderOf R)[i] [])) := by unfold orderedR; rw [List.getElem?_map, List.getElem?_eq_getElem hi]; rfl
      generalize (orderOf R)[i] = r at hrm hod ⊢
      have hr' := olt r hrm
      have hra : r < as.length := by omega
      have hrow := h3 r _ _ (List.getElem?_eq_getElem hra) (List.getElem?_eq_getElem hr')
      have hgd : R.getD r [] = R[r] := by rw [List.getD_eq_getElem?_getD, List.getElem?_eq_getElem hr']; rfl
      walk_at "rd1"
      refine ⟨_, _, .inl (SqL.of ((sm3.trans sm) _ _ h1)), atI_nat (by rw [List.getElem?_map, List.getElem?_eq_getElem hra]; rfl), ?_⟩
      refine ⟨np, as[r], R[r], fun k => (orderOf R).idxOf k, rfl, (sm3.trans sm) _ _ hrow, by rw [ok.row _ (List.getElem_mem hr')]; omega, fun k hk => .inr ⟨_, sm _ _ hn3, ?_⟩, fun L' H4 sm4 hL' hl4 => ?_⟩
      · rw [numFrom_val _ _ _ (order_closed ok.ins ok.n0 hrm (by rw [hgd]; exact hk)), Nat.zero_add]
      · have hps := hN.push sm4 (sm3.trans sm) hL' hl4
        refine cstep (by rw [List.length_map]; exact hi) (by rw [List.length_map]; exact hb) (by rw [List.length_map]; exact smallL (by omega)) (sm4 _ _ hN.at'.1) ⟨bs ++ [L'], ?_, by rw [List.map_append]; rfl, by simp [hb], ?_⟩
        · intro b o e
          have hbL : b ≠ L := ne_of_none e hL
          rw [upd_ne hbL]; exact sm4 _ _ (sm _ _ e)
        · rw [List.take_add_one, hod]
          have e : waysO (orderOf R) (R.getD r []) = (R[r]).map (Option.map fun k => (orderOf R).idxOf k) := by rw [hgd]; rfl
          rw [e]; exact hps
    · rintro ys H' ⟨bs, sm, rfl, hb, hN⟩
      have hol : (orderedR R).length = (orderOf R).length := by simp [orderedR]
      rw [List.length_map, List.take_of_length_le (by omega)] at hN
      exact q L H' bs (sm3.trans sm) (sm3.free hL) hN
/-! words that do something; what is picked -/
def spDoes : Sp := fun vs H Q _ => ∃ (p : Addr) (N : Rms) (m : Nat) (as : List Addr) (pl : Nat), vs = [.ref p, nV pl] ∧ RoomsAs H p N as ∧ RmsOk N m ∧ pl < m ∧ ∀ H', Same H H' → Q (.bl (does N pl)) H'
theorem ok_does (D : DefAt K mg "does_something" s_does_something) (z_enumerate : mg "enumerate" = none) (z_any : mg "any" = none) : Cal P w K mg base 1 "does_something" ["rooms", "place"] spDoes := by
  refine D.cal sc_does_something (fun _ _ _ _ _ _ us hl => match us, hl with | [_, _], _ => rfl) (fun vs H Q E h => by obtain ⟨p, N, m, as, pl, rfl, _⟩ := h; rfl) (fun f cdv A outer s H vs Q E hr h => ?_)
  obtain ⟨p, N, m, as, pl, rfl, hR, ok, hpl, q⟩ := h
  obtain ⟨h1, h2, h3⟩ := hR
  have n1 := ok.n1
  refine ⟨_, (pss_one (ps_ret (pe_blt (call_anyK K) z_any bt_any (pa_cons (pe_comp (CompSc.to (fsc := (defScope s_does_something)) (N := ["rooms", "place"]) (N0 := ["rooms", "place"]) (T := ["number", "room"]) ⟨by decide +kernel, by decide +kernel, by decide +kernel, by decide +kernel, by decide +kernel, by decide +kernel, by decide +kernel⟩ rfl rfl) rfl (pi_enumK K gl_does_something_enumerate z_enumerate (pa_cons (pv 0 (hv := v_does_something_rooms)) pa_nil)) (fun _ _ _ _ => (pg_tupK K (n := 2) (pgs_cons (pg_let 2 (show (["rooms", "place", "number", "room"] : List Str).Nodup from by decide +kernel) (hx := (locC (defScope s_does_something) (by decide +kernel))) (hf := fnC (defScope s_does_something) (by decide +kernel))) (pgs_cons (pg_let 3 (show (["rooms", "place", "number", "room"] : List Str).Nodup from by decide +kernel) (hx := (locC (defScope s_does_something) (by decide +kernel))) (hf := fnC (defScope s_does_something) (by decide +kernel))) pgs_nil)))) (gfr_tup (gsfr_cons (gfr_name (show (["rooms", "place"] : List Str).length ≤ 2 from by decide)) gm_name (gsfr_cons (gfr_name (show (["rooms", "place"] : List Str).length ≤ 3 from by decide)) gm_name gsfr_nil gsm_nil) (gsm_cons gm_name gsm_nil))) (fun _ _ _ _ => pifs_nil) (fun _ _ _ _ => (pe_cmpR op_neI (pe_ix (ix_K K) (pv 3 (hv := (visC (defScope s_does_something) (by decide +kernel)))) (pv 1 (hv := (visC (defScope s_does_something) (by decide +kernel)))) (fun _ _ => rfl)) (pv 2 (hv := (visC (defScope s_does_something) (by decide +kernel)))) (nomark _)))) pa_nil) (hg := gl_does_something_any)))), ?_⟩
  walk_at "rd1"
  refine ⟨⟨_, h1⟩, fun L hL => ?_⟩
  refine compW_enum (xs := as.map V.ref) (fun i ys H' => Same H H' ∧ H' L = some (.lst ys) ∧ ys = ((List.range i).map fun i => decide ((N.getD i []).getD pl none ≠ some i)).map V.bl) ⟨same_new hL _, upd_same, rfl⟩ (fun i ys H' _ h => SqL.of (h.1 _ _ h1)) ?_ ?_
  · rintro i ys H' v t hv hi ⟨sm, hl, rfl⟩ ht
    rw [List.length_map] at hi
    rw [List.getElem?_map, List.getElem?_eq_getElem hi] at hv
    cases hv
    have hi' : i < N.length := by omega
    have hrow := h3 i _ _ (List.getElem?_eq_getElem hi) (List.getElem?_eq_getElem hi')
    have hgd : N.getD i [] = N[i] := by rw [List.getD_eq_getElem?_getD, List.getElem?_eq_getElem hi']; rfl
    have hrl := ok.row _ (List.getElem_mem hi')
    have st := same_new ht (.tup [nV i, .ref as[i]])
    have nt : L ≠ t := ne_of_none hl ht
    walk_at "rd1"
    refine ⟨t, _, rfl, SqT.of upd_same, rfl, ?_⟩
    walk_at "rd1"
    refine ⟨_, _, .inl (SqL.of (st _ _ (sm _ _ hrow))), atI_nat (by rw [List.getElem?_map, List.getElem?_eq_getElem (by omega)]; rfl), ?_⟩
    refine ⟨((N[i])[pl]'(by omega)).map (fun n : Nat => (n : Int)), (i : Int), ?_, rfl, ?_⟩
    · cases (N[i])[pl]'(by omega) <;> rfl
    · refine cstep (by rw [List.length_map]; exact hi) (by simp) (by rw [List.length_map]; exact smallL (by omega)) (by rw [upd_ne nt]; exact hl) ⟨(sm.trans st).upd hL _, upd_same, ?_⟩
      rw [List.range_succ, List.map_append, List.map_append]
      congr 1
      show [V.bl _] = [V.bl _]
      congr 2
      show decide (_ ≠ _) = decide ((N.getD i []).getD pl none ≠ some i)
      rw [hgd, List.getD_eq_getElem?_getD, List.getElem?_eq_getElem (by omega)]
      show decide (_ ≠ _) = decide ((N[i])[pl]'(by omega) ≠ some i)
      cases (N[i])[pl]'(by omega) with
      | none => simp
      | some k => simp; omega
  · rintro ys H' ⟨sm, hl, rfl⟩
    walk_at "rd1"
    rw [List.length_map, h2] at hl
    refine ⟨_, SqL.of hl, ?_⟩
    have e : ((List.range N.length).map fun i => decide ((N.getD i []).getD pl none ≠ some i)).any id = does N pl := by
      unfold does; rw [List.any_map]; rfl
    rw [e]; exact q H' sm
def spPicked : Sp := fun vs H Q _ => ∃ (p b : Addr) (ts : List V) (ps : List Nat), vs = [.ref p, .ref b] ∧ H p = some (.lst ts) ∧ H b = some (.lst (ps.map nV)) ∧ ps.length ≤ 1000 ∧ (∀ x ∈ ps, x < ts.length) ∧
  ∀ (L : Addr) (H' : Hp), Same H H' → H L = none → H' L = some (.lst (ps.map fun x => ts.getD x .non)) → Q (.ref L) H'
theorem ok_picked (D : DefAt K mg "picked" s_picked) : Cal P w K mg base 1 "picked" ["things", "places"] spPicked := by
  refine D.cal sc_picked (fun _ _ _ _ _ _ us hl => match us, hl with | [_, _], _ => rfl) (fun vs H Q E h => by obtain ⟨p, b, ts, ps, rfl, _⟩ := h; rfl) (fun f cdv A outer s H vs Q E hr h => ?_)
  obtain ⟨p, b, ts, ps, rfl, hp, hb, hl, hx, q⟩ := h
  refine ⟨_, (pss_one (ps_ret (pe_comp (CompSc.to (fsc := (defScope s_picked)) (N := ["things", "places"]) (N0 := ["things", "places"]) (T := ["place"]) ⟨by decide +kernel, by decide +kernel, by decide +kernel, by decide +kernel, by decide +kernel, by decide +kernel, by decide +kernel⟩ rfl rfl) rfl (pi_listK K (pv 1 (hv := v_picked_places))) (fun _ _ _ _ => (pg_let 2 (show (["things", "places", "place"] : List Str).Nodup from by decide +kernel) (hx := (locC (defScope s_picked) (by decide +kernel))) (hf := fnC (defScope s_picked) (by decide +kernel)))) (gfr_name (show (["things", "places"] : List Str).length ≤ 2 from by decide)) (fun _ _ _ _ => pifs_nil) (fun _ _ _ _ => (pe_ix (ix_K K) (pv 0 (hv := (visC (defScope s_picked) (by decide +kernel)))) (pv 2 (hv := (visC (defScope s_picked) (by decide +kernel)))) (fun _ _ => rfl)))))), ?_⟩
  walk_at "rd1"
  refine ⟨⟨_, SqL.of hb⟩, fun L hL => ?_⟩
  refine compW_list (xs := ps.map nV) (fun i ys H' => Same H H' ∧ H' L = some (.lst ys) ∧ ys = (ps.take i).map fun x => ts.getD x .non) ⟨same_new hL _, upd_same, rfl⟩ (fun i ys H' _ h => SqL.of (h.1 _ _ hb)) ?_ ?_
  · rintro i ys H' v hv hi ⟨sm, hl', rfl⟩
    rw [List.length_map] at hi
    rw [List.getElem?_map, List.getElem?_eq_getElem hi] at hv
    cases hv
    have hxi := hx _ (List.getElem_mem hi)
    walk_at "rd1"
    refine ⟨_, ts.getD ps[i] .non, .inl (SqL.of (sm _ _ hp)), atI_nat (by rw [List.getD_eq_getElem?_getD, List.getElem?_eq_getElem hxi]; rfl), ?_⟩
    refine cstep (by rw [List.length_map]; exact hi) (by simp; omega) (by rw [List.length_map]; exact smallL (by omega)) hl' ⟨sm.upd hL _, upd_same, ?_⟩
    rw [List.take_add_one, List.getElem?_eq_getElem hi, List.map_append]; rfl
  · rintro ys H' ⟨sm, hl', rfl⟩
    rw [List.length_map, List.take_length] at hl'
    exact q L H' sm hL hl'
/-! the least rule -/
def leastR (r : Rl) : Rl := ⟨r.s, (places (leastN r.rs) r.ws.length).map (fun x => r.ws.getD x default), (leastN r.rs).map fun y => (places (leastN r.rs) r.ws.length).map fun x => y.getD x none⟩
theorem rl_rms {r : Rl} (ok : RlOk r) : RmsOk r.rs r.ws.length := ⟨ok.n0, ok.n1, ok.nw, fun x hx => (ok.row x hx).1, fun x hx k hk => (ok.row x hx).2 k hk⟩
theorem rms_merged {R : Rms} {m : Nat} (ok : RmsOk R m) : RmsOk (merged R) m := by
  obtain ⟨a, b, c⟩ := merged_inside ok.n0 ok.ins
  have := ok.n1
  exact ⟨b, by omega, ok.m1, merged_row ok.row, a⟩
theorem rms_ordered {R : Rms} {m : Nat} (ok : RmsOk R m) : RmsOk (orderedR R) m := by
  obtain ⟨a, b, c, d⟩ := ordered_facts ok.ins ok.n0 ok.row
  have := ok.n1
  exact ⟨b, by omega, ok.m1, d, a⟩
theorem places_lt {N : Rms} {n x : Nat} (h : x ∈ places N n) : x < n := List.mem_range.mp (List.mem_filter.mp h).1
theorem places_len (N : Rms) (n : Nat) : (places N n).length ≤ n := by
  have := List.length_filter_le (does N) (List.range n)
  rw [List.length_range] at this
  exact this
theorem least_ok {r : Rl} (ok : RlOk r) : RlOk (leastR r) := by
  have o2 := rms_ordered (rms_merged (rl_rms ok))
  have hp := places_len (leastN r.rs) r.ws.length
  have := ok.nw
  refine ⟨ok.s, ?_, ?_, ?_, fun x hx => ?_, fun x hx => ?_⟩
  · show (List.map _ _).length ≤ 16
    rw [List.length_map]; omega
  · show 1 ≤ (List.map _ _).length
    rw [List.length_map]; exact o2.n0
  · show (List.map _ _).length ≤ 60
    rw [List.length_map]; exact o2.n1
  · obtain ⟨y, hy, rfl⟩ := List.mem_map.mp hx
    refine ⟨by show (List.map _ _).length = (List.map _ _).length; rw [List.length_map, List.length_map], fun k hk => ?_⟩
    obtain ⟨x, hx', e⟩ := List.mem_map.mp hk
    show k < (List.map _ _).length
    rw [List.length_map]
    refine o2.ins y hy k ?_
    have hlt : x < y.length := by rw [o2.row y hy]; exact places_lt hx'
    rw [List.getD_eq_getElem?_getD, List.getElem?_eq_getElem hlt] at e
    exact e ▸ List.getElem_mem hlt
  · obtain ⟨y, hy, rfl⟩ := List.mem_map.mp hx
    have hlt := places_lt hy
    rw [List.getD_eq_getElem?_getD, List.getElem?_eq_getElem hlt]
    exact ok.lw _ (List.getElem_mem hlt)
def spLeast : Sp := fun vs H Q _ => ∃ (p : Addr) (r : Rl), vs = [.ref p] ∧ RuleAt H p r ∧ RlOk r ∧ ∀ (q pw pr : Addr) (H' : Hp) (as : List Addr), Same H H' → H' q = some (.tup [.int r.s, .ref pw, .ref pr]) → H' pw = some (.lst ((leastR r).ws.map V.str)) →
  NR H H' pr (leastR r).rs as → H q = none → H pw = none → H pr = none → pw ≠ pr → pw ∉ as → Q (.ref q) H'
def spUpto : Sp := fun vs H Q _ => ∃ (p : Addr) (r : Rl), vs = [.ref p, nV r.rs.length] ∧ RuleAt H p r ∧ RlOk r ∧ ∀ (q pw pr : Addr) (H' : Hp) (as : List Addr), Same H H' → H' q = some (.tup [.int r.s, .ref pw, .ref pr]) → H' pw = some (.lst ((leastR r).ws.map V.str)) →
  NR H H' pr (leastR r).rs as → H q = none → H pw = none → H pr = none → pw ≠ pr → pw ∉ as → Q (.ref q) H'
theorem ok_upto (D : DefAt K mg "least_upto" s_least_upto) (z_range : mg "range" = none) (z_len : mg "len" = none) (c_kinds_upto : Cal P w K mg base 3 "kinds_upto" ["rooms", "most"] spKinds) (c_merged_rooms : Cal P w K mg base 4 "merged_rooms" ["rooms", "kinds"] spMerged) (c_numbered_rooms : Cal P w K mg base 2 "numbered_rooms" ["rooms"] (spRms orderedR))
    (c_does_something : Cal P w K mg base 1 "does_something" ["rooms", "place"] spDoes) (c_picked : Cal P w K mg base 1 "picked" ["things", "places"] spPicked) : Cal P w K mg base 5 "least_upto" ["rule", "most"] spUpto := by
  refine D.cal sc_least_upto (fun _ _ _ _ _ _ us hl => match us, hl with | [_, _], _ => rfl) (fun vs H Q E h => by obtain ⟨p, r, rfl, _⟩ := h; rfl) (fun f cdv A outer s H vs Q E hr h => ?_)
  obtain ⟨p, r, rfl, hR, ok, q⟩ := h
  obtain ⟨pw0, pr0, as0, g1, g2, g3⟩ := hR
  have o0 := rl_rms ok
  have o1 := rms_merged o0
  have o2 := rms_ordered o1
  have nw := ok.nw
  have hpl := places_len (leastN r.rs) r.ws.length
  refine ⟨_, (pss_cons (ps_let 2 sc_least_upto.nd (pe_cal c_kinds_upto hr (pa_cons (pe_ix (ix_K K) (pv 0 (hv := v_least_upto_rule)) pe_int (fun _ _ => rfl)) (pa_cons (pv 1 (hv := v_least_upto_most)) pa_nil)) (hg := gl_least_upto_kinds_upto)) (hx := l_least_upto_kinds))
      (pss_cons (ps_if (pt_cmpR op_isNA (pv 2 (hv := v_least_upto_kinds)) pe_non (nomark _)) (pss_one (ps_ret pe_non)) pss_nil)
      (pss_cons (ps_let 3 sc_least_upto.nd (pe_ix (ix_K K) (pv 0 (hv := v_least_upto_rule)) pe_int (fun _ _ => rfl)) (hx := l_least_upto_words))
      (pss_cons (ps_let 4 sc_least_upto.nd (pe_cal c_numbered_rooms hr (pa_cons (pe_cal c_merged_rooms hr (pa_cons (pe_ix (ix_K K) (pv 0 (hv := v_least_upto_rule)) pe_int (fun _ _ => rfl)) (pa_cons (pv 2 (hv := v_least_upto_kinds)) pa_nil)) (hg := gl_least_upto_merged_rooms)) pa_nil) (hg := gl_least_upto_numbered_rooms)) (hx := l_least_upto_rooms))
      (pss_cons (ps_let 5 sc_least_upto.nd (pe_comp (CompSc.to (fsc := (defScope s_least_upto)) (N := ["rule", "most", "kinds", "words", "rooms", "places"]) (N0 := ["rule", "most", "kinds", "words", "rooms", "places"]) (T := ["place"]) ⟨by decide +kernel, by decide +kernel, by decide +kernel, by decide +kernel, by decide +kernel, by decide +kernel, by decide +kernel⟩ rfl rfl) rfl (pi_range1 gl_least_upto_range z_range (pa_cons (pe_blt (call_lenK K) z_len bt_len (pa_cons (pv 3 (hv := v_least_upto_words)) pa_nil) (hg := gl_least_upto_len)) pa_nil)) (fun _ _ _ _ => (pg_let 6 (show (["rule", "most", "kinds", "words", "rooms", "places", "place"] : List Str).Nodup from by decide +kernel) (hx := (locC (defScope s_least_upto) (by decide +kernel))) (hf := fnC (defScope s_least_upto) (by decide +kernel)))) (gfr_name (show (["rule", "most", "kinds", "words", "rooms", "places"] : List Str).length ≤ 6 from by decide)) (fun _ _ _ _ => (pifs_one (pt_val (pe_cal c_does_something hr (pa_cons (pv 4 (hv := (visC (defScope s_least_upto) (by decide +kernel)))) (pa_cons (pv 6 (hv := (visC (defScope s_least_upto) (by decide +kernel)))) pa_nil)) (hg := (glC (defScope s_least_upto) (by decide +kernel))))))) (fun _ _ _ _ => (pv 6 (hv := (visC (defScope s_least_upto) (by decide +kernel)))))) (hx := l_least_upto_places))
      (pss_one (ps_ret (pe_tup (pa_cons (pe_ix (ix_K K) (pv 0 (hv := v_least_upto_rule)) pe_int (fun _ _ => rfl)) (pa_cons (pe_cal c_picked hr (pa_cons (pv 3 (hv := v_least_upto_words)) (pa_cons (pv 5 (hv := v_least_upto_places)) pa_nil)) (hg := gl_least_upto_picked)) (pa_cons (pe_comp (CompSc.to (fsc := (defScope s_least_upto)) (N := ["rule", "most", "kinds", "words", "rooms", "places"]) (N0 := ["rule", "most", "kinds", "words", "rooms", "places"]) (T := ["room"]) ⟨by decide +kernel, by decide +kernel, by decide +kernel, by decide +kernel, by decide +kernel, by decide +kernel, by decide +kernel⟩ rfl rfl) rfl (pi_listK K (pv 4 (hv := v_least_upto_rooms))) (fun _ _ _ _ => (pg_let 6 (show (["rule", "most", "kinds", "words", "rooms", "places", "room"] : List Str).Nodup from by decide +kernel) (hx := (locC (defScope s_least_upto) (by decide +kernel))) (hf := fnC (defScope s_least_upto) (by decide +kernel)))) (gfr_name (show (["rule", "most", "kinds", "words", "rooms", "places"] : List Str).length ≤ 6 from by decide)) (fun _ _ _ _ => pifs_nil) (fun _ _ _ _ => (pe_cal c_picked hr (pa_cons (pv 6 (hv := (visC (defScope s_least_upto) (by decide +kernel)))) (pa_cons (pv 5 (hv := (visC (defScope s_least_upto) (by decide +kernel)))) pa_nil)) (hg := (glC (defScope s_least_upto) (by decide +kernel)))))) pa_nil))))))))))), ?_⟩
  walk_at "rd1"
  refine ⟨_, _, .inr (SqT.of g1), rfl, ?_⟩
  refine ⟨pr0, r.rs, r.ws.length, as0, rfl, g3, o0, fun KP H0 sm0 hKP hl0 => ?_⟩
  walk_at "nx"
  walk_at "nx"
  refine ⟨_, _, .inr (SqT.of (sm0 _ _ g1)), rfl, ?_⟩
  walk_at "nx"
  refine ⟨_, _, .inr (SqT.of (sm0 _ _ g1)), rfl, ?_⟩
  refine ⟨pr0, KP, r.rs, r.ws.length, as0, rfl, g3.mono sm0, o0, hl0, fun M1 H1 bs1 sm1' hM1 hN1 => ?_⟩
  have sm1 := sm0.trans sm1'
  refine ⟨M1, merged r.rs, r.ws.length, bs1, rfl, hN1.at', o1, fun M2 H2 bs2 sm2 hM2 hN2 => ?_⟩
  have sm12 := sm1.trans sm2
  have hN2' := hN2.at'
  walk_at "nx"
  refine ⟨_, .inl (SqL.of (sm12 _ _ g2)), ?_⟩
  rw [List.length_map]
  walk_at "rd1"
  refine ⟨by omega, by omega, fun L hL => ?_⟩
  refine compT_range (fun i ys H' => Same H2 H' ∧ H' L = some (.lst ys) ∧ ys = ((List.range i).filter (does (leastN r.rs))).map nV) ⟨same_new hL _, upd_same, rfl⟩ ?_ ?_
  · rintro i ys H' hi ⟨sm, hl, rfl⟩
    have hi' : i < r.ws.length := by omega
    have hlen : (((List.range i).filter (does (leastN r.rs))).map nV).length ≤ i := by
      rw [List.length_map]
      have := List.length_filter_le (does (leastN r.rs)) (List.range i)
      rw [List.length_range] at this; exact this
    walk_at "rd1"
    refine ⟨M2, leastN r.rs, r.ws.length, bs2, i, by rw [Int.zero_add], hN2'.mono sm, o2, hi', fun H5 sm5 => ?_⟩
    cases hdo : does (leastN r.rs) i with
    | false =>
      walk_at "rd1"
      refine cskip hi ⟨sm.trans sm5, sm5 _ _ hl, ?_⟩
      rw [List.range_succ, List.filter_append]; simp [hdo]
    | true =>
      walk_at "rd1"
      refine cstepT hi hlen (smallL (by omega)) (sm5 _ _ hl) ⟨(sm.trans sm5).upd hL _, upd_same, ?_⟩
      rw [List.range_succ, List.filter_append, List.map_append]; simp [hdo]
  rintro ys H3 ⟨sm3, hl3, rfl⟩
  have hl3' : H3 L = some (.lst ((places (leastN r.rs) r.ws.length).map nV)) := by
    unfold places; rw [hl3]; simp
  have sm13 := sm12.trans sm3
  walk_at "nx"
  refine ⟨_, _, .inr (SqT.of (sm13 _ _ g1)), rfl, ?_⟩
  refine ⟨pw0, L, r.ws.map V.str, places (leastN r.rs) r.ws.length, rfl, sm13 _ _ g2, hl3', by omega, fun x hx => by rw [List.length_map]; exact places_lt hx, fun W H4 sm4 hW hl4 => ?_⟩
  have hws : ((places (leastN r.rs) r.ws.length).map fun x => (r.ws.map V.str).getD x .non) = (leastR r).ws.map V.str := by
    show _ = List.map V.str (List.map _ _)
    rw [List.map_map]
    refine List.map_congr_left fun x hx => ?_
    have hlt := places_lt hx
    show _ = V.str (r.ws.getD x default)
    rw [List.getD_eq_getElem?_getD, List.getElem?_map, List.getD_eq_getElem?_getD, List.getElem?_eq_getElem hlt]; rfl
  rw [hws] at hl4
  walk_at "rd1"
  refine ⟨⟨_, SqL.of (sm4 _ _ (sm3 _ _ hN2'.1))⟩, fun Z hZ => ?_⟩
  have hN4 := (hN2'.mono sm3).mono sm4
  obtain ⟨k1, k2, k3⟩ := hN4
  refine compW_list (xs := bs2.map V.ref) (fun i ys H' => ∃ cs : List Addr, Same H4 H' ∧ ys = cs.map V.ref ∧ cs.length = i ∧ NR H H' Z ((leastR r).rs.take i) cs ∧ W ∉ cs) ⟨[], same_new hZ _, rfl, rfl, ⟨⟨upd_same, rfl, by simp⟩, by simp, List.nodup_nil⟩, by simp⟩ (fun i ys H' _ h => by obtain ⟨_, sm, _⟩ := h; exact SqL.of (sm _ _ k1)) ?_ ?_
  · rintro i ys H' v hv hi ⟨cs, sm, rfl, hc, hN, hWc⟩
    rw [List.length_map] at hi
    rw [List.getElem?_map, List.getElem?_eq_getElem hi] at hv
    cases hv
    have hi' : i < (leastN r.rs).length := by
      have : bs2.length = (orderedR (merged r.rs)).length := k2
      show i < (orderedR (merged r.rs)).length
      omega
    have hrow := k3 i _ _ (List.getElem?_eq_getElem hi) (List.getElem?_eq_getElem hi')
    have hrl : ((leastN r.rs)[i]).length = r.ws.length := o2.row _ (List.getElem_mem hi')
    walk_at "rd1"
    refine ⟨bs2[i], L, ((leastN r.rs)[i]).map wayV, places (leastN r.rs) r.ws.length, rfl, sm _ _ hrow, sm _ _ (sm4 _ _ hl3'), by omega, fun x hx => by rw [List.length_map]; have := places_lt hx; omega, fun L' H5 sm5 hL' hl5 => ?_⟩
    have hxs : ((places (leastN r.rs) r.ws.length).map fun x => (((leastN r.rs)[i]).map wayV).getD x .non) = ((places (leastN r.rs) r.ws.length).map fun x => ((leastN r.rs)[i]).getD x none).map wayV := by
      rw [List.map_map]
      refine List.map_congr_left fun x hx => ?_
      have hlt : x < ((leastN r.rs)[i]).length := by have := places_lt hx; omega
      show _ = wayV (((leastN r.rs)[i]).getD x none)
      rw [List.getD_eq_getElem?_getD, List.getElem?_map, List.getD_eq_getElem?_getD, List.getElem?_eq_getElem hlt]; rfl
    rw [hxs] at hl5
    have smH : Same H H' := (sm13.trans sm4).trans sm
    have hps := hN.push sm5 smH hL' hl5
    refine cstep (by rw [List.length_map]; exact hi) (by rw [List.length_map]; exact hc) (by rw [List.length_map]; have := o2.n1; exact smallL (by have : bs2.length = (orderedR (merged r.rs)).length := k2; omega)) (sm5 _ _ hN.at'.1) ⟨cs ++ [L'], ?_, by rw [List.map_append]; rfl, by simp [hc], ?_, ?_⟩
    · intro b o e
      rw [upd_ne (ne_of_none e hZ)]; exact sm5 _ _ (sm _ _ e)
    · have e : (leastR r).rs.take (i + 1) = (leastR r).rs.take i ++ [(places (leastN r.rs) r.ws.length).map fun x => ((leastN r.rs)[i]).getD x none] := by
        rw [List.take_add_one]
        show _ ++ (List.map _ (leastN r.rs))[i]?.toList = _
        rw [List.getElem?_map, List.getElem?_eq_getElem hi']; rfl
      rw [e]; exact hps
    · intro z
      rcases List.mem_append.mp z with z | z
      · exact hWc z
      · have e := List.mem_singleton.mp z
        subst e
        have := sm _ _ hl4
        rw [hL'] at this; cases this
  rintro ys H5 ⟨cs, sm5, rfl, hc, hN, hWc⟩
  have hfull : (leastR r).rs.take (bs2.map V.ref).length = (leastR r).rs := List.take_of_length_le (by
    show (List.map _ (leastN r.rs)).length ≤ _
    rw [List.length_map, List.length_map]
    have : bs2.length = (orderedR (merged r.rs)).length := k2
    show (orderedR (merged r.rs)).length ≤ _
    omega)
  rw [hfull] at hN
  walk_at "rd1"
  refine ⟨by decide, fun tp htp => ?_⟩
  have st := same_new htp (.tup [.int r.s, .ref W, .ref Z])
  have smA : Same H H5 := (sm13.trans sm4).trans sm5
  refine q tp W Z _ cs (smA.trans st) upd_same (st _ _ (sm5 _ _ hl4)) (hN.mono st) (smA.free htp) (sm13.free hW) ((sm13.trans sm4).free hZ) (ne_of_none hl4 hZ) hWc
theorem ok_least (D : DefAt K mg "least_rule" s_least_rule) (z_len : mg "len" = none) (c_least_upto : Cal P w K mg base 5 "least_upto" ["rule", "most"] spUpto) : Cal P w K mg base 6 "least_rule" ["rule"] spLeast := by
  refine D.cal sc_least_rule (fun _ _ _ _ _ _ us hl => match us, hl with | [_], _ => rfl) (fun vs H Q E h => by obtain ⟨p, r, rfl, _⟩ := h; rfl) (fun f cdv A outer s H vs Q E hr h => ?_)
  obtain ⟨p, r, rfl, hR, ok, q⟩ := h
  obtain ⟨pw0, pr0, as0, g1, g2, g3⟩ := id hR
  refine ⟨_, (pss_one (ps_ret (pe_cal c_least_upto hr (pa_cons (pv 0 (hv := v_least_rule_rule)) (pa_cons (pe_blt (call_lenK K) z_len bt_len (pa_cons (pe_ix (ix_K K) (pv 0 (hv := v_least_rule_rule)) pe_int (fun _ _ => rfl)) pa_nil) (hg := gl_least_rule_len)) pa_nil)) (hg := gl_least_rule_least_upto)))), ?_⟩
  walk_at "rd1"
  refine ⟨_, _, .inr (SqT.of g1), rfl, ⟨_, .inl (SqL.of g3.1), ?_⟩⟩
  refine ⟨p, r, ?_, hR, ok, q⟩
  rw [List.length_map, g3.2.1]
end
section
variable {P : Program} {w : World} {K : PySem.W.Frag} {mg : Str → Option Value} {base : Heap}
theorem ok_words (D : DefAt K mg "_law_words" s_law_words) (z_range : mg "range" = none) (z_sorted : mg "sorted" = none) (z_str : mg "str" = none) (z_int : mg "int" = none) (c_law_mixed : Cal P w K mg base 1 "_law_mixed" ["_law_cell", "_law_many"] spMixed) : Cal P w K mg base 2 "_law_words" ["_law_cell", "_law_many", "_law_sides"] spWords := by
  refine D.cal sc_law_words (fun _ _ _ _ _ _ us hl => match us, hl with | [_, _, _], _ => rfl) (fun vs H Q E h => by obtain ⟨c, n, s, rfl, _⟩ := h; rfl) (fun f cdv A outer s H vs Q E hr h => ?_)
  obtain ⟨c, n, si, rfl, n0, n1, q⟩ := h
  refine ⟨_, (pss_cons (ps_let 3 sc_law_words.nd pe_str (hx := l_law_words__law_letters))
      (pss_cons (ps_let 4 sc_law_words.nd (pe_cal c_law_mixed hr (pa_cons (pv 0 (hv := v_law_words__law_cell)) (pa_cons pe_int pa_nil)) (hg := gl_law_words__law_mixed)) (hx := l_law_words__law_xs))
      (pss_cons (ps_let 5 sc_law_words.nd (pe_op op_addA pe_int (pe_op op_mod (pe_ix (ix_K K) (pv 4 (hv := v_law_words__law_xs)) pe_int (fun _ _ => rfl)) pe_int)) (hx := l_law_words__law_size))
      (pss_cons (ps_let 6 sc_law_words.nd (pe_op op_mod (pe_ix (ix_K K) (pv 4 (hv := v_law_words__law_xs)) pe_int (fun _ _ => rfl)) (pv 5 (hv := v_law_words__law_size))) (hx := l_law_words__law_at))
      (pss_cons (ps_let 7 sc_law_words.nd (pe_lst pa_nil) (hx := l_law_words__law_words_here))
      (pss_cons (ps_for PassesOwn.never rfl (pi_range1 gl_law_words_range z_range (pa_cons (pv 1 (hv := v_law_words__law_many)) pa_nil)) (pg_let 8 sc_law_words.nd (hx := l_law_words__law_k)) (pss_cons (ps_let 9 sc_law_words.nd pe_str (hx := l_law_words__law_word))
      (pss_cons (ps_for PassesOwn.never rfl (pi_range1 gl_law_words_range z_range (pa_cons (pv 5 (hv := v_law_words__law_size)) pa_nil)) (pg_let 10 sc_law_words.nd (hx := l_law_words__law_j)) (pss_one (ps_let 9 sc_law_words.nd (pe_op op_addA (pv 9 (hv := v_law_words__law_word)) (pe_ix (ix_K K) (pv 3 (hv := v_law_words__law_letters)) (pe_op op_mod (pe_op op_addA (pe_ix (ix_K K) (pv 4 (hv := v_law_words__law_xs)) (pe_op op_addA pe_int (pv 10 (hv := v_law_words__law_j))) (fun _ _ => rfl)) (pe_op op_mulB (pv 8 (hv := v_law_words__law_k)) (pe_bty call_intA z_int bt_int (pa_cons (pe_cmpR op_eqA (pv 10 (hv := v_law_words__law_j)) (pv 6 (hv := v_law_words__law_at)) (nomark _)) pa_nil) (hg := gl_law_words_int)))) pe_int) (fun _ _ => rfl))) (hx := l_law_words__law_word))))
      (pss_cons (ps_if (pt_cmpR op_eqA (pv 2 (hv := v_law_words__law_sides)) pe_int (nomark _)) (pss_one (ps_let 9 sc_law_words.nd (pe_op op_addA (pe_op op_addA (pe_bty call_strI z_str bt_str (pa_cons (pe_op op_addA pe_int (pe_op op_mod (pe_op op_fdiv (pe_op op_fdiv (pe_ix (ix_K K) (pv 4 (hv := v_law_words__law_xs)) (pe_op op_addA pe_int (pe_op op_mod (pv 8 (hv := v_law_words__law_k)) pe_int)) (fun _ _ => rfl)) pe_int) (pe_op op_addA pe_int (pe_op op_fdiv (pv 8 (hv := v_law_words__law_k)) pe_int))) pe_int)) pa_nil) (hg := gl_law_words_str)) pe_str) (pv 9 (hv := v_law_words__law_word))) (hx := l_law_words__law_word))) pss_nil)
      (pss_one (ps_expr (pe_bmK K PySem.F.plainAttrs_list PySem.F.slot_list_append PySem.F.type_list_append mt_appendA (pv 7 (hv := v_law_words__law_words_here)) (pa_cons (pv 9 (hv := v_law_words__law_word)) pa_nil))))))))
      (pss_one (ps_ret (pe_blt (call_sortS K) z_sorted bt_sorted (pa_cons (pv 7 (hv := v_law_words__law_words_here)) pa_nil) (hg := gl_law_words_sorted)))))))))), ?_⟩
  walk_at "rd1"
  walk_at "nx"
  refine ⟨c, 10, rfl, by decide, by decide, fun xp H1 ms sm1 hxp hxl hxn hxb => ?_⟩
  have item : ∀ {H' : Hp} {i : Int}, Same H1 H' → 0 ≤ i → i < 10 → ∃ v : Int, ∃ xs v', (SqL K H' xp xs ∨ SqT K H' xp xs) ∧ atI xs i = some v' ∧ v' = .int v := fun {H' i} sm h0 h1 => by
    obtain ⟨v, _, hv⟩ := at_lst (xs := ms) h0 (by omega)
    exact ⟨v, _, _, .inl (SqL.of (sm _ _ hxl)), at_map h0 ‹_›, rfl⟩
  walk_at "nx"
  obtain ⟨v, xs, v', h1, h2, rfl⟩ := item (Same.refl H1) (show (0 : Int) ≤ 0 by decide) (by decide)
  refine ⟨xs, _, h1, h2, ?_⟩
  walk_at "rd1"
  refine ⟨by decide, ?_⟩
  walk_at "nx"
  obtain ⟨v9, xs, v', h1, h2, rfl⟩ := item (Same.refl H1) (show (0 : Int) ≤ 9 by decide) (by decide)
  refine ⟨xs, _, h1, h2, ?_⟩
  walk_at "rd1"
  refine ⟨by omega, ?_⟩
  generalize hsz : 1 + v % 8 = sz
  have sz0 : 1 ≤ sz := by omega
  have sz1 : sz ≤ 8 := by omega
  generalize v9 % sz = at9
  walk_at "nx"
  refine ⟨by decide, fun L hL => ?_⟩
  generalize hH2 : upd H1 L _ = H2
  have sm2 := al_same hH2 hL
  have e2 := al_at hH2
  walk_at "nx"
  refine ⟨by omega, by omega, ?_⟩
  refine forW_range (fun i σ H' => ∃ (ss : List Str) (o8 o9 o10 : Option V), σ = [some (.int c), some (.int n), some (.int si), some (.str letters), some (.ref xp), some (.int sz), some (.int at9), some (.ref L), o8, o9, o10] ∧ Same H1 H' ∧ H' L = some (.lst (ss.map V.str)) ∧ ss.length = i ∧ ∀ s ∈ ss, s.length ≤ 10)
    ⟨[], none, none, none, rfl, sm2, e2, rfl, by simp⟩ ?_ ?_
  · rintro i σ H' hi ⟨ss, o8, o9, o10, rfl, sm, hl, hn, hb⟩
    walk_at "rd1"
    walk_at "nx"
    refine ⟨by omega, by omega, ?_⟩
    refine forW_range (fun j σ H2' => ∃ (wd : Str) (o10 : Option V), σ = [some (.int c), some (.int n), some (.int si), some (.str letters), some (.ref xp), some (.int sz), some (.int at9), some (.ref L), some (.int (0 + (i : Int))), some (.str wd), o10] ∧ H' = H2' ∧ wd.length = j)
      ⟨_, o10, rfl, rfl, rfl⟩ ?_ ?_
    · rintro j σ H2' hj ⟨wd, o10, rfl, rfl, hw⟩
      walk_at "rd1"
      obtain ⟨v2, xs, v', h1, h2, rfl⟩ := item sm (show (0 : Int) ≤ 1 + (0 + (j : Int)) by omega) (by omega)
      refine ⟨xs, _, h1, h2, .inl ⟨by omega, by omega⟩, ?_⟩
      walk_at "rd1"
      obtain ⟨c', z1, z2, z3⟩ := letter_at (v2 + (0 + (i : Int)) * if decide (0 + (j : Int) = at9) = true then 1 else 0)
      refine ⟨by decide, c', z1, ?_, ?_⟩
      · simpa using z2
      exact ⟨by rw [hw]; exact smallL (by show j + 1 ≤ _; omega), _, _, rfl, by rw [len_app1, hw]⟩
    · rintro σ H2' ⟨wd, o10, rfl, rfl, hw⟩
      dsimp only
      refine seq_by (fun σ' H2' => ∃ wd : Str, σ' = [some (.int c), some (.int n), some (.int si), some (.str letters), some (.ref xp), some (.int sz), some (.int at9), some (.ref L), some (.int (0 + (i : Int))), some (.str wd), o10] ∧ H' = H2' ∧ wd.length ≤ 10) (fun k hk => ?_) ?_
      · walk_at "rd1"
        refine ite2 (fun c1 => ?_) (fun c1 => ?_)
        · obtain ⟨v2, xs, v', h1, h2, rfl⟩ := item sm (show (0 : Int) ≤ 1 + (0 + (i : Int)) % 8 by omega) (by omega)
          refine ⟨by decide, xs, _, h1, h2, ?_⟩
          walk_at "rd1"
          obtain ⟨s1, s2⟩ := side_str (v2 / 64 / (1 + (0 + (i : Int)) / 8))
          obtain ⟨l1, l2⟩ := sided_len (y := wd) s2 (by omega)
          refine ⟨⟨by decide, by decide⟩, ⟨by decide, by decide⟩, ⟨by omega, by omega⟩, by decide, s1, ?_, ?_, hk _ _ ⟨_, rfl, rfl, l2⟩⟩
          · rw [← Str.length_append, l1]; exact smallL (by omega)
          · rw [← Str.length_append]; exact smallL (by omega)
        · exact hk _ _ ⟨_, rfl, rfl, by omega⟩
      · rintro σ' H2' ⟨wd, rfl, rfl, hw⟩
        walk_at "nx"
        refine ⟨⟨_, SqL.of hl⟩, _, hl, by rw [List.length_map]; exact small' (by omega), ?_⟩
        refine ⟨ss ++ [wd], _, _, _, rfl, sm.upd hL _, ?_, by simp [hn], all_push hb hw⟩
        rw [upd_same, List.map_append]; rfl
  · rintro σ H' ⟨ss, o8, o9, o10, rfl, sm, hl, hn, hb⟩
    walk_at "nx"
    exact texts_sorted q (sm1.trans sm) (by omega) n1 hb (SqL.of hl)
end
/-! ### rooms that are changed in their place -/
theorem rooms_set {H' : Hp} {p L : Addr} {rs : List (List (Option Nat))} {as : List Addr} {r : Nat} {x : List (Option Nat)} (h : RoomsAs H' p rs as) (hr : r < rs.length) (hp : p ∉ as) (hL : H' L = some (.lst (x.map wayV))) (hLp : L ≠ p) :
    RoomsAs (upd H' p (.lst ((as.map V.ref).set r (.ref L)))) p (rs.set r x) (as.set r L) := by
  obtain ⟨h1, h2, h3⟩ := h
  refine ⟨by rw [upd_same, List.map_set], by simp [h2], fun i a y e1 e2 => ?_⟩
  by_cases hi : i = r
  · subst hi
    rw [List.getElem?_set_self (by omega)] at e1 e2
    cases e1; cases e2
    rw [upd_ne hLp]; exact hL
  · rw [List.getElem?_set_ne (Ne.symm hi)] at e1 e2
    have : a ≠ p := fun z => hp (z ▸ List.mem_of_getElem? e1)
    rw [upd_ne this]; exact h3 i a y e1 e2
theorem rooms_set0 {H' : Hp} {p : Addr} {rs : List (List (Option Nat))} {as : List Addr} {r : Nat} {x : List (Option Nat)} (h : RoomsAs H' p rs as) (nd : as.Nodup) (hp : p ∉ as) (hr : r < as.length) :
    RoomsAs (upd H' as[r] (.lst (x.map wayV))) p (rs.set r x) as := by
  obtain ⟨h1, h2, h3⟩ := h
  have hpr : p ≠ as[r] := fun z => hp (z ▸ List.getElem_mem hr)
  refine ⟨by rw [upd_ne hpr]; exact h1, by simp [h2], fun i a y e1 e2 => ?_⟩
  by_cases hi : i = r
  · subst hi
    rw [List.getElem?_set_self (by omega)] at e2
    rw [List.getElem?_eq_getElem hr] at e1
    cases e1; cases e2
    exact upd_same
  · rw [List.getElem?_set_ne (Ne.symm hi)] at e2
    have hne : a ≠ as[r] := fun z => by
      obtain ⟨hi', e⟩ := List.getElem?_eq_some_iff.mp e1
      exact hi ((List.getElem_inj nd).mp (e.trans z))
    rw [upd_ne hne]; exact h3 i a y e1 e2
/-- rooms of n rooms and m words, in the heap, each list once; all else stands as it stood -/
structure Sh (H H' : Hp) (p : Addr) (as0 : List Addr) (n m : Nat) (rs : List (List (Option Nat))) (as : List Addr) : Prop where
  at' : RoomsAs H' p rs as
  nd : as.Nodup
  np : p ∉ as
  len : rs.length = n
  row : ∀ x ∈ rs, x.length = m
  own : ∀ a ∈ as, a ∈ as0 ∨ H a = none
  rest : ∀ b o, b ≠ p → b ∉ as0 → H b = some o → H' b = some o
  held : ∀ b, H' b = none → H b = none
theorem Sh.mono {H H' H2 : Hp} {p : Addr} {as0 as : List Addr} {n m : Nat} {rs : List (List (Option Nat))} (h : Sh H H' p as0 n m rs as) (sm : Same H' H2) : Sh H H2 p as0 n m rs as :=
  ⟨h.at'.mono sm, h.nd, h.np, h.len, h.row, h.own, fun b o h1 h2 e => sm _ _ (h.rest b o h1 h2 e), fun b hb => h.held b (sm.free hb)⟩
def insd (n : Nat) (rs : List (List (Option Nat))) : Prop := ∀ x ∈ rs, ∀ k, some k ∈ x → k < n
theorem insd_set {n r : Nat} {rs : List (List (Option Nat))} {x : List (Option Nat)} (h : insd n rs) (hx : ∀ k, some k ∈ x → k < n) : insd n (rs.set r x) := fun y hy k hk => by
  rcases List.mem_or_eq_of_mem_set hy with z | z
  · exact h y z k hk
  · subst z; exact hx k hk
theorem row_set {m r : Nat} {rs : List (List (Option Nat))} {x : List (Option Nat)} (h : ∀ x ∈ rs, x.length = m) (hx : x.length = m) : ∀ y ∈ rs.set r x, y.length = m := fun y hy => by
  rcases List.mem_or_eq_of_mem_set hy with z | z
  · exact h y z
  · subst z; exact hx
theorem Sh.put {H H' H2 : Hp} {p L : Addr} {as0 as : List Addr} {n m r : Nat} {rs : List (List (Option Nat))} {x : List (Option Nat)} (h : Sh H H' p as0 n m rs as) (sm : Same H' H2) (hr : r < n) (hx : x.length = m) (hL0 : H' L = none) (hHL : H L = none) (hL : H2 L = some (.lst (x.map wayV))) :
    Sh H (upd H2 p (.lst ((as.map V.ref).set r (.ref L)))) p as0 n m (rs.set r x) (as.set r L) := by
  have h2 := h.mono sm
  have hLp : L ≠ p := Ne.symm (ne_of_none h.at'.1 hL0)
  have hl := h.at'.2.1
  have hLa : L ∉ as := fun z => by
    obtain ⟨i, hi, e⟩ := List.mem_iff_getElem.mp z
    have := h.at'.2.2 i L _ (by rw [← e]; exact List.getElem?_eq_getElem hi) (List.getElem?_eq_getElem (by omega))
    rw [hL0] at this; cases this
  have hlen := h.len
  refine ⟨rooms_set h2.at' (by omega) h.np hL hLp, ?_, ?_, by simp [h.len], row_set h.row hx, fun a ha => ?_, fun b o hb1 hb2 e => ?_, fun b hb => ?_⟩
  · refine List.pairwise_iff_getElem.mpr fun i j hi hj hij => ?_
    have hi' : i < as.length := by simpa using hi
    have hj' : j < as.length := by simpa using hj
    rw [List.getElem_set, List.getElem_set]
    by_cases h1 : r = i
    · rw [if_pos h1, if_neg (by omega)]
      exact fun e => hLa (e ▸ List.getElem_mem hj')
    · rw [if_neg h1]
      by_cases h2 : r = j
      · rw [if_pos h2]
        exact fun e => hLa (e ▸ List.getElem_mem hi')
      · rw [if_neg h2]
        exact fun e => absurd ((List.getElem_inj h.nd).mp e) (by omega)
  · intro z
    rcases List.mem_or_eq_of_mem_set z with z | z
    · exact h.np z
    · exact hLp z.symm
  · rcases List.mem_or_eq_of_mem_set ha with z | z
    · exact h.own a z
    · subst z; exact .inr hHL
  · rw [upd_ne hb1]; exact sm _ _ (h.rest b o hb1 hb2 e)
  · exact h.held b (sm.free (fresh_upd hb).2)
theorem Sh.put0 {H H' : Hp} {p : Addr} {as0 as : List Addr} {n m r : Nat} {rs : List (List (Option Nat))} {x : List (Option Nat)} (h : Sh H H' p as0 n m rs as) (hr : r < as.length) (hx : x.length = m) :
    Sh H (upd H' as[r] (.lst (x.map wayV))) p as0 n m (rs.set r x) as := by
  refine ⟨rooms_set0 h.at' h.nd h.np hr, h.nd, h.np, by simp [h.len], row_set h.row hx, h.own, fun b o hb1 hb2 e => ?_, fun b hb => h.held b (fresh_upd hb).2⟩
  have hne : b ≠ as[r] := fun z => by
    rcases h.own _ (List.getElem_mem hr) with y | y
    · exact hb2 (z ▸ y)
    · rw [← z, e] at y; cases y
  rw [upd_ne hne]; exact h.rest b o hb1 hb2 e
def spShaped : Sp := fun vs H Q _ => ∃ (p : Addr) (rs : List (List (Option Nat))) (as : List Addr) (n m : Nat) (sh c : Int), vs = [.ref p, .int sh, .int c] ∧ Sh H H p as n m rs as ∧ insd n rs ∧ 1 ≤ n ∧ n ≤ 60 ∧ m ≤ 16 ∧
  ∀ (H' : Hp) (rs' : List (List (Option Nat))) (as' : List Addr), Sh H H' p as n m rs' as' → insd n rs' → Q (.ref p) H'
section
variable {P : Program} {w : World} {K : PySem.W.Frag} {mg : Str → Option Value} {base : Heap}
theorem ix_of {xs : List V} {i : Nat} (h : i < xs.length) : ixN xs.length (0 + (i : Int)) = some i := by
  unfold ixN
  rw [if_pos (by omega), if_pos (by omega)]
  congr 1
  omega
theorem ok_shaped (D : DefAt K mg "_law_shaped" s_law_shaped) (z_range : mg "range" = none) (z_len : mg "len" = none) (z_list : mg "list" = none) (c_law_mixed : Cal P w K mg base 1 "_law_mixed" ["_law_cell", "_law_many"] spMixed) :
    Cal P w K mg base 2 "_law_shaped" ["_law_rooms", "_law_shape", "_law_cell"] spShaped := by
  refine D.cal sc_law_shaped (fun _ _ _ _ _ _ us hl => match us, hl with | [_, _, _], _ => rfl) (fun vs H Q E h => by obtain ⟨p, rs, as, n, m, sh, c, rfl, _⟩ := h; rfl) (fun f cdv A outer s H vs Q E hr h => ?_)
  obtain ⟨p, rs0, as0, n, m, sh, c, rfl, hS, hI, n0, n1, m1, q⟩ := h
  refine ⟨_, (pss_cons (ps_let 3 sc_law_shaped.nd (pe_blt (call_lenK K) z_len bt_len (pa_cons (pv 0 (hv := v_law_shaped__law_rooms)) pa_nil) (hg := gl_law_shaped_len)) (hx := l_law_shaped__law_size))
      (pss_cons (ps_let 4 sc_law_shaped.nd (pe_cal c_law_mixed hr (pa_cons (pv 2 (hv := v_law_shaped__law_cell)) (pa_cons (pv 3 (hv := v_law_shaped__law_size)) pa_nil)) (hg := gl_law_shaped__law_mixed)) (hx := l_law_shaped__law_xs))
      (pss_cons (ps_for PassesOwn.never rfl (pi_range1 gl_law_shaped_range z_range (pa_cons (pv 3 (hv := v_law_shaped__law_size)) pa_nil)) (pg_let 5 sc_law_shaped.nd (hx := l_law_shaped__law_r)) (pss_cons (ps_if (PW.pt' (pw_and (pt_cmpR op_eqA (pv 1 (hv := v_law_shaped__law_shape)) pe_int (nomark _)) (pw_and (pt_cmpR op_gt (pv 5 (hv := v_law_shaped__law_r)) pe_int (nomark _)) (pw_and1 (pt_cmpR op_gt (pe_op op_mod (pe_ix (ix_K K) (pv 4 (hv := v_law_shaped__law_xs)) (pv 5 (hv := v_law_shaped__law_r)) (fun _ _ => rfl)) pe_int) pe_int (nomark _)))))) (pss_one (ps_asg (pe_bty (call_listA K) z_list bt_list (pa_cons (pe_ix (ix_K K) (pv 0 (hv := v_law_shaped__law_rooms)) (pe_op op_mod (pe_op op_fdiv (pe_ix (ix_K K) (pv 4 (hv := v_law_shaped__law_xs)) (pv 5 (hv := v_law_shaped__law_r)) (fun _ _ => rfl)) pe_int) (pv 5 (hv := v_law_shaped__law_r))) (fun _ _ => rfl)) pa_nil) (hg := gl_law_shaped_list)) (pg_sub (pv 0 (hv := v_law_shaped__law_rooms)) (pv 5 (hv := v_law_shaped__law_r)) set_A))) pss_nil)
      (pss_cons (ps_if (PW.pt' (pw_and (pt_cmpR op_eqA (pv 1 (hv := v_law_shaped__law_shape)) pe_int (nomark _)) (pw_and1 (pt_cmpR (op_neKD K hr) (pe_ix (ix_K K) (pv 0 (hv := v_law_shaped__law_rooms)) (pv 5 (hv := v_law_shaped__law_r)) (fun _ _ => rfl)) (pe_lst pa_nil) (nomark _))))) (pss_cons (ps_asg (pe_op op_addA (pv 5 (hv := v_law_shaped__law_r)) pe_int) (pg_sub (pe_ix (ix_K K) (pv 0 (hv := v_law_shaped__law_rooms)) (pv 5 (hv := v_law_shaped__law_r)) (fun _ _ => rfl)) pe_int set_A))
      (pss_one (ps_if (pt_cmpR op_eqA (pe_op op_addA (pv 5 (hv := v_law_shaped__law_r)) pe_int) (pv 3 (hv := v_law_shaped__law_size)) (nomark _)) (pss_one (ps_asg (pe_ix (ix_K K) (pe_lst (pa_cons pe_int (pa_cons pe_non pa_nil))) (pe_op op_mod (pv 2 (hv := v_law_shaped__law_cell)) pe_int) (fun _ _ => rfl)) (pg_sub (pe_ix (ix_K K) (pv 0 (hv := v_law_shaped__law_rooms)) (pv 5 (hv := v_law_shaped__law_r)) (fun _ _ => rfl)) pe_int set_A))) pss_nil))) pss_nil)
      (pss_one (ps_if (pt_cmpR op_eqA (pv 1 (hv := v_law_shaped__law_shape)) pe_int (nomark _)) (pss_one (ps_asg (pe_comp (CompSc.to (fsc := (defScope s_law_shaped)) (N := ["_law_rooms", "_law_shape", "_law_cell", "_law_size", "_law_xs", "_law_r"]) (N0 := ["_law_rooms", "_law_shape", "_law_cell", "_law_size", "_law_xs", "_law_r"]) (T := ["_law_j"]) ⟨by decide +kernel, by decide +kernel, by decide +kernel, by decide +kernel, by decide +kernel, by decide +kernel, by decide +kernel⟩ rfl rfl) rfl (pi_range1 gl_law_shaped_range z_range (pa_cons (pe_blt (call_lenK K) z_len bt_len (pa_cons (pe_ix (ix_K K) (pv 0 (hv := v_law_shaped__law_rooms)) (pv 5 (hv := v_law_shaped__law_r)) (fun _ _ => rfl)) pa_nil) (hg := gl_law_shaped_len)) pa_nil)) (fun _ _ _ _ => (pg_let 6 (show (["_law_rooms", "_law_shape", "_law_cell", "_law_size", "_law_xs", "_law_r", "_law_j"] : List Str).Nodup from by decide +kernel) (hx := (locC (defScope s_law_shaped) (by decide +kernel))) (hf := fnC (defScope s_law_shaped) (by decide +kernel)))) (gfr_name (show (["_law_rooms", "_law_shape", "_law_cell", "_law_size", "_law_xs", "_law_r"] : List Str).length ≤ 6 from by decide)) (fun _ _ _ _ => pifs_nil) (fun _ _ _ _ => (pe_ifExp (pt_cmpR op_eqA (pe_op op_mod (pv 6 (hv := (visC (defScope s_law_shaped) (by decide +kernel)))) pe_int) (pe_op op_mod (pv 2 (hv := (visC (defScope s_law_shaped) (by decide +kernel)))) pe_int) (nomark _)) (pv 5 (hv := (visC (defScope s_law_shaped) (by decide +kernel)))) (pe_ix (ix_K K) (pe_ix (ix_K K) (pv 0 (hv := (visC (defScope s_law_shaped) (by decide +kernel)))) (pv 5 (hv := (visC (defScope s_law_shaped) (by decide +kernel)))) (fun _ _ => rfl)) (pv 6 (hv := (visC (defScope s_law_shaped) (by decide +kernel)))) (fun _ _ => rfl))))) (pg_sub (pv 0 (hv := v_law_shaped__law_rooms)) (pv 5 (hv := v_law_shaped__law_r)) set_A))) pss_nil)))))
      (pss_one (ps_ret (pv 0 (hv := v_law_shaped__law_rooms))))))), ?_⟩
  walk_at "rd1"
  refine ⟨_, .inl (SqL.of hS.at'.1), ?_⟩
  have hal : as0.length = n := by rw [hS.at'.2.1, hS.len]
  rw [List.length_map, hal]
  walk_at "nx"
  refine ⟨c, (n : Int), rfl, by omega, by omega, fun xp H1 ms sm1 hxp hxl hxn _ => ?_⟩
  have hxn' : ms.length = n := by omega
  have item : ∀ {H' : Hp} {i : Nat}, H' xp = some (.lst (ms.map V.int)) → i < n → ∃ v : Int, ∃ xs v', (SqL K H' xp xs ∨ SqT K H' xp xs) ∧ atI xs (0 + (i : Int)) = some v' ∧ v' = .int v := fun {H' i} hx hi => by
    obtain ⟨v, hv, _⟩ := at_lst (xs := ms) (i := 0 + (i : Int)) (by omega) (by omega)
    exact ⟨v, _, _, .inl (SqL.of hx), at_map (by omega) hv, rfl⟩
  walk_at "nx"
  refine ⟨by omega, by omega, ?_⟩
  -- xs stands apart from all that is changed
  have xpa : xp ≠ p := Ne.symm (ne_of_none hS.at'.1 hxp)
  have held0 : ∀ a ∈ as0, ∃ o, H a = some o := fun a ha => by
    obtain ⟨i, hi, e⟩ := List.mem_iff_getElem.mp ha
    have hl := hS.at'.2.1
    exact ⟨_, hS.at'.2.2 i a _ (by rw [← e]; exact List.getElem?_eq_getElem hi) (List.getElem?_eq_getElem (by omega))⟩
  have hal' : (n : Int).toNat = n := by omega
  refine forW_range (fun i σ H' => ∃ (rs : List (List (Option Nat))) (as : List Addr) (o : Option V), σ = [some (.ref p), some (.int sh), some (.int c), some (.int (n : Int)), some (.ref xp), o] ∧ Sh H H' p as0 n m rs as ∧ insd n rs ∧ H' xp = some (.lst (ms.map V.int)) ∧ xp ∉ as)
    ⟨rs0, as0, none, rfl, hS.mono sm1, hI, hxl, fun z => by obtain ⟨o, e⟩ := held0 _ z; rw [hxp] at e; cases e⟩ ?_ ?_
  · rintro i σ H' hi ⟨rs, as, o, rfl, hS1, hI1, hx1, hxa1⟩
    have hi' : i < n := by omega
    have rowat : ∀ {H' : Hp} {rs : List (List (Option Nat))} {as : List Addr}, Sh H H' p as0 n m rs as → ∀ r, r < n → ∃ (hra : r < as.length) (hrr : r < rs.length), H' as[r] = some (.lst ((rs[r]).map wayV)) ∧ (rs[r]).length = m := fun {H' rs as} hS r hr => by
      have h1 := hS.at'.2.1
      have h2 := hS.len
      have hra : r < as.length := by omega
      have hrr : r < rs.length := by omega
      exact ⟨hra, hrr, hS.at'.2.2 r _ _ (List.getElem?_eq_getElem hra) (List.getElem?_eq_getElem hrr), hS.row _ (List.getElem_mem hrr)⟩
    -- 1: some rooms are copies of others
    refine seq_by (fun σ' H' => ∃ (rs : List (List (Option Nat))) (as : List Addr), σ' = [some (.ref p), some (.int sh), some (.int c), some (.int (n : Int)), some (.ref xp), some (.int (0 + (i : Int)))] ∧ Sh H H' p as0 n m rs as ∧ insd n rs ∧ H' xp = some (.lst (ms.map V.int)) ∧ xp ∉ as) (fun k hk => ?_) ?_
    · walk_at "rd1"
      have same := hk _ _ ⟨rs, as, rfl, hS1, hI1, hx1, hxa1⟩
      refine ite2 (fun c1 => ?_) (fun c1 => ?_)
      · refine ite2 (fun c2 => ?_) (fun c2 => ?_)
        · obtain ⟨v, xs, v', g1, g2, rfl⟩ := item hx1 hi'
          refine ⟨xs, _, g1, g2, ?_⟩
          walk_at "rd1"
          refine ⟨by decide, ite2 (fun c3 => ?_) (fun c3 => ?_)⟩
          · have hi0 : 0 < (0 + (i : Int)) := by omega
            have e0 := Int.emod_nonneg (v / 5) (show (0 + (i : Int)) ≠ 0 by omega)
            have e1 := Int.emod_lt_of_pos (v / 5) hi0
            obtain ⟨hra, hrr, hrow, hrl⟩ := rowat hS1 (v / 5 % (0 + (i : Int))).toNat (by omega)
            refine ⟨xs, _, g1, g2, ?_⟩
            walk_at "rd1"
            refine ⟨⟨by decide, by decide⟩, hi0, _, _, .inl (SqL.of hS1.at'.1), at_map e0 (List.getElem?_eq_getElem hra), ?_⟩
            walk_at "rd1"
            refine ⟨_, .inl (SqL.of hrow), fun L hL => ?_⟩
            have st := same_new hL (.lst ((rs[(v / 5 % (0 + (i : Int))).toNat]).map wayV))
            have hps := hS1.put (r := i) st hi' hrl hL (hS1.held L hL) upd_same
            have hxs := st _ _ hx1
            have hp2 := st _ _ hS1.at'.1
            generalize upd H' L (.lst ((rs[(v / 5 % (0 + (i : Int))).toNat]).map wayV)) = H2 at hps hxs hp2 ⊢
            refine ⟨_, i, hp2, ?_, ?_⟩
            · exact ix_of (by rw [List.length_map, hS1.at'.2.1, hS1.len]; exact hi')
            · refine hk _ _ ⟨_, _, rfl, hps, insd_set hI1 (fun k hk' => hI1 _ (List.getElem_mem hrr) k hk'), by rw [upd_ne xpa]; exact hxs, fun z => ?_⟩
              rcases List.mem_or_eq_of_mem_set z with z | z
              · exact hxa1 z
              · subst z; rw [hx1] at hL; cases hL
          · exact same
        · exact same
      · exact same
    rintro σ' H2 ⟨rs, as, rfl, hS2, hI2, hx2, hxa2⟩
    -- 2: the first word counts on
    refine seq_by (fun σ' H' => ∃ (rs : List (List (Option Nat))) (as : List Addr), σ' = [some (.ref p), some (.int sh), some (.int c), some (.int (n : Int)), some (.ref xp), some (.int (0 + (i : Int)))] ∧ Sh H H' p as0 n m rs as ∧ insd n rs ∧ H' xp = some (.lst (ms.map V.int)) ∧ xp ∉ as) (fun k hk => ?_) ?_
    · walk_at "rd1"
      have same := fun (H' : Hp) (sm : Same H2 H') => hk _ _ ⟨rs, as, rfl, hS2.mono sm, hI2, sm _ _ hx2, hxa2⟩
      refine ite2 (fun c1 => ?_) (fun c1 => ?_)
      · obtain ⟨hra, hrr, hrow, hrl⟩ := rowat hS2 i hi'
        have hxr : xp ≠ as[i] := fun z => hxa2 (by rw [z]; exact List.getElem_mem hra)
        refine ⟨_, _, .inl (SqL.of hS2.at'.1), at_map (by omega) (show as[(0 + (i : Int)).toNat]? = some as[i] by rw [show (0 + (i : Int)).toNat = i by omega]; exact List.getElem?_eq_getElem hra), ?_⟩
        refine ⟨by decide, fun ep hep => ?_⟩
        have st := same_new hep (.lst [])
        generalize hH3 : upd H2 ep _ = H3 at st ⊢
        have e3 := al_at hH3
        have hS3 := hS2.mono st
        have hrow3 := st _ _ hrow
        have hx3 := st _ _ hx2
        have same3 := same H3 st
        walk_at "rd1"
        cases hrx : rs[i] with
        | nil =>
          rw [hrx] at hrow3
          refine ⟨0, true, by decide, EqN.seqFlat (.inl ⟨SqL.of hrow3, SqL.of e3⟩) (by simp), ?_⟩
          walk_at "rd1"
          exact same3
        | cons y ys =>
          rw [hrx] at hrow3
          have hins := hI2 _ (List.getElem_mem hrr)
          rw [hrx] at hins hrl
          refine ⟨0, false, by decide, .inr ⟨as[i], ep, _, _, rfl, rfl, .inl ⟨SqL.of hrow3, SqL.of e3⟩, .inr ⟨SqL.of hrow3, SqL.of e3, by simp, rfl⟩⟩, ?_⟩
          walk_at "rd1"
          refine ⟨_, _, .inl (SqL.of hS3.at'.1), at_map (by omega) (show as[(0 + (i : Int)).toNat]? = some as[i] by rw [show (0 + (i : Int)).toNat = i by omega]; exact List.getElem?_eq_getElem hra), ?_⟩
          walk_at "rd1"
          refine ⟨_, 0, hrow3, by unfold ixN; simp, ?_⟩
          have e4 : ((y :: ys).map wayV).set 0 (.int (0 + (i : Int) + 1)) = ((some (i + 1) :: ys).map wayV) := by
            show V.int (0 + (i : Int) + 1) :: _ = V.int (((i + 1 : Nat)) : Int) :: _
            rw [show 0 + (i : Int) + 1 = ((i + 1 : Nat) : Int) by omega]
          rw [e4]
          have hput := hS3.put0 (x := some (i + 1) :: ys) hra (by simpa using hrl)
          have hx4 : upd H3 as[i] (.lst ((some (i + 1) :: ys).map wayV)) xp = some (.lst (ms.map V.int)) := by rw [upd_ne hxr]; exact hx3
          have hr4 : upd H3 as[i] (.lst ((some (i + 1) :: ys).map wayV)) as[i] = some (.lst ((some (i + 1) :: ys).map wayV)) := upd_same
          generalize upd H3 as[i] (.lst ((some (i + 1) :: ys).map wayV)) = H4 at hput hx4 hr4 ⊢
          walk_at "nx"
          refine ite2 (fun c2 => ?_) (fun c2 => ?_)
          · refine ⟨by decide, fun zp hzp => ?_⟩
            have stz := same_new hzp (.lst [.int 0, .non])
            generalize hH5 : upd H4 zp _ = H5 at stz ⊢
            have e5 := al_at hH5
            have hS5 := hput.mono stz
            have hr5 := stz _ _ hr4
            have hx5 := stz _ _ hx4
            obtain ⟨ov, hov, hov2⟩ : ∃ ov : Option Nat, atI [V.int 0, .non] (c % 2) = some (wayV ov) ∧ ∀ k, ov = some k → k < n := by
              have h2 : c % 2 = 0 ∨ c % 2 = 1 := by omega
              rcases h2 with h2 | h2 <;> rw [h2]
              · exact ⟨some 0, rfl, fun k e => by cases e; omega⟩
              · exact ⟨none, rfl, fun k e => by cases e⟩
            refine ⟨by decide, _, _, .inl (SqL.of e5), hov, ?_⟩
            walk_at "rd1"
            refine ⟨_, _, .inl (SqL.of hS5.at'.1), at_map (by omega) (show as[(0 + (i : Int)).toNat]? = some as[i] by rw [show (0 + (i : Int)).toNat = i by omega]; exact List.getElem?_eq_getElem hra), ?_⟩
            walk_at "rd1"
            refine ⟨_, 0, hr5, by unfold ixN; simp, ?_⟩
            have e6 : ((some (i + 1) :: ys).map wayV).set 0 (wayV ov) = ((ov :: ys).map wayV) := rfl
            rw [e6]
            refine hk _ _ ⟨_, _, rfl, hS5.put0 (x := ov :: ys) hra (by simpa using hrl), ?_, by rw [upd_ne hxr]; exact hx5, hxa2⟩
            rw [List.set_set]
            refine insd_set hI2 (fun k hk' => ?_)
            rcases List.mem_cons.mp hk' with z | z
            · exact hov2 k z.symm
            · exact hins k (List.mem_cons_of_mem _ z)
          · refine hk _ _ ⟨_, _, rfl, hput, insd_set hI2 (fun k hk' => ?_), hx4, hxa2⟩
            rcases List.mem_cons.mp hk' with z | z
            · cases z; omega
            · exact hins k (List.mem_cons_of_mem _ z)
      · exact same _ (Same.refl _)
    rintro σ' H3 ⟨rs, as, rfl, hS3, hI3, hx3, hxa3⟩
    -- 3: words that stay
    walk_at "nx"
    refine ite2 (fun c1 => ?_) (fun c1 => ?_)
    · obtain ⟨hra, hrr, hrow, hrl⟩ := rowat hS3 i hi'
      have ixr : ∀ {H' : Hp}, Same H3 H' → ∃ xs v', (SqL K H' p xs ∨ SqT K H' p xs) ∧ atI xs (0 + (i : Int)) = some v' ∧ v' = .ref as[i] := fun {H'} sm =>
        ⟨_, _, .inl (SqL.of (sm _ _ hS3.at'.1)), at_map (by omega) (show as[(0 + (i : Int)).toNat]? = some as[i] by rw [show (0 + (i : Int)).toNat = i by omega]; exact List.getElem?_eq_getElem hra), rfl⟩
      obtain ⟨xs, v', g1, g2, rfl⟩ := ixr (Same.refl H3)
      refine ⟨xs, _, g1, g2, ?_⟩
      walk_at "rd1"
      refine ⟨_, .inl (SqL.of hrow), ?_⟩
      rw [List.length_map, hrl]
      walk_at "rd1"
      refine ⟨by omega, by omega, fun L hL => ?_⟩
      have hins := hI3 _ (List.getElem_mem hrr)
      refine compW_range (fun j ys H'' => ∃ x : List (Option Nat), Same H3 H'' ∧ H'' L = some (.lst ys) ∧ ys = x.map wayV ∧ x.length = j ∧ ∀ k, some k ∈ x → k < n) ⟨[], same_new hL _, upd_same, rfl, rfl, by simp⟩ ?_ ?_
      · rintro j ys H'' hj ⟨x, smx, hlx, rfl, hx, hxk⟩
        have hjm : j < m := by omega
        walk_at "rd1"
        have fin : ∀ (z : V) (o : Option Nat), z = wayV o → (∀ k, o = some k → k < n) → CStep (m : Int).toNat j (fun j ys H'' => ∃ x : List (Option Nat), Same H3 H'' ∧ H'' L = some (.lst ys) ∧ ys = x.map wayV ∧ x.length = j ∧ ∀ k, some k ∈ x → k < n) L (x.map wayV) z H'' := fun z o e ho => by
          subst e
          refine cstep hj (by rw [List.length_map]; exact hx) (smallL (by omega)) hlx ⟨x ++ [o], smx.upd hL _, upd_same, map_push _ _, len_push hx, fun k hk => ?_⟩
          rcases List.mem_append.mp hk with z' | z'
          · exact hxk k z'
          · exact ho k (List.mem_singleton.mp z').symm
        refine ⟨by decide, by decide, ite2 (fun c2 => ?_) (fun c2 => ?_)⟩
        · exact fin _ (some i) (by show V.int (0 + (i : Int)) = V.int (i : Int); rw [Int.zero_add]) (fun k e => by cases e; exact hi')
        · obtain ⟨xs, v', g1, g2, rfl⟩ := ixr smx
          refine ⟨xs, _, g1, g2, ?_⟩
          walk_at "rd1"
          have hjl : j < (rs[i]).length := by omega
          refine ⟨_, _, .inl (SqL.of (smx _ _ hrow)), at_map (by omega) (show (rs[i])[(0 + (j : Int)).toNat]? = some (rs[i])[j] by rw [show (0 + (j : Int)).toNat = j by omega]; exact List.getElem?_eq_getElem hjl), ?_⟩
          exact fin _ _ rfl (fun k e => hins k (e ▸ List.getElem_mem hjl))
      · rintro ys H'' ⟨x, smx, hlx, rfl, hx, hxk⟩
        walk_at "rd1"
        have hxm : x.length = m := by omega
        refine ⟨_, i, smx _ _ hS3.at'.1, ix_of (by rw [List.length_map, hS3.at'.2.1, hS3.len]; exact hi'), ?_⟩
        refine ⟨_, _, _, rfl, hS3.put smx hi' hxm hL (hS3.held L hL) hlx, insd_set hI3 hxk, by rw [upd_ne xpa]; exact smx _ _ hx3, fun z => ?_⟩
        rcases List.mem_or_eq_of_mem_set z with z | z
        · exact hxa3 z
        · subst z; rw [hx3] at hL; cases hL
    · exact ⟨_, _, _, rfl, hS3, hI3, hx3, hxa3⟩
  · rintro σ H' ⟨rs, as, o, rfl, hS1, hI1, hx1, hxa1⟩
    walk_at "nx"
    exact q H' rs as hS1 hI1
end
section
variable {P : Program} {w : World} {K : PySem.W.Frag} {mg : Str → Option Value} {base : Heap}
theorem ok_rule (D : DefAt K mg "_law_rule" s_law_rule) (z_range : mg "range" = none) (z_min : mg "min" = none) (z_len : mg "len" = none) (c_law_cell_at : Cal P w K mg base 1 "_law_cell_at" ["_law_script", "_law_k"] (spCell K)) (c_law_words : Cal P w K mg base 2 "_law_words" ["_law_cell", "_law_many", "_law_sides"] spWords)
    (c_law_mixed : Cal P w K mg base 1 "_law_mixed" ["_law_cell", "_law_many"] spMixed) (c_law_shaped : Cal P w K mg base 2 "_law_shaped" ["_law_rooms", "_law_shape", "_law_cell"] spShaped) (c_law_way : Cal P w K mg base 1 "_law_way" ["_law_number", "_law_share", "_law_many"] spWay) : Cal P w K mg base 4 "_law_rule" ["_law_script"] (spRule K) := by
  refine D.cal sc_law_rule (fun _ _ _ _ _ _ us hl => match us, hl with | [_], _ => rfl) (fun vs H Q E h => by obtain ⟨a, ns, rfl, _⟩ := h; rfl) (fun f cdv A outer s H vs Q E hr h => ?_)
  obtain ⟨a, ns, rfl, hS, h63, q⟩ := h
  refine ⟨_, (pss_cons (ps_let 1 sc_law_rule.nd (pe_cal c_law_cell_at hr (pa_cons (pv 0 (hv := v_law_rule__law_script)) (pa_cons pe_int pa_nil)) (hg := gl_law_rule__law_cell_at)) (hx := l_law_rule__law_first))
      (pss_cons (ps_let 2 sc_law_rule.nd (pe_op op_addA pe_int (pe_op op_mod (pv 1 (hv := v_law_rule__law_first)) pe_int)) (hx := l_law_rule__law_sides))
      (pss_cons (ps_let 3 sc_law_rule.nd (pe_op op_mod (pe_op op_fdiv (pv 1 (hv := v_law_rule__law_first)) pe_int) pe_int) (hx := l_law_rule__law_many))
      (pss_cons (ps_let 4 sc_law_rule.nd (pe_cal c_law_cell_at hr (pa_cons (pv 0 (hv := v_law_rule__law_script)) (pa_cons pe_int pa_nil)) (hg := gl_law_rule__law_cell_at)) (hx := l_law_rule__law_cell))
      (pss_cons (ps_let 5 sc_law_rule.nd (pe_op op_addA pe_int (pe_op op_mod (pe_op op_fdiv (pv 4 (hv := v_law_rule__law_cell)) pe_int) pe_int)) (hx := l_law_rule__law_size))
      (pss_cons (ps_if (pt_cmpR op_eqA (pe_op op_mod (pe_op op_fdiv (pv 1 (hv := v_law_rule__law_first)) pe_int) pe_int) pe_int (nomark _)) (pss_one (ps_let 3 sc_law_rule.nd pe_int (hx := l_law_rule__law_many))) (pss_one (ps_if (pt_cmpR op_eqA (pe_op op_mod (pe_op op_fdiv (pv 4 (hv := v_law_rule__law_cell)) pe_int) pe_int) pe_int (nomark _)) (pss_cons (ps_let 3 sc_law_rule.nd (pe_blt call_minA z_min bt_min (pa_cons (pv 3 (hv := v_law_rule__law_many)) (pa_cons pe_int pa_nil)) (hg := gl_law_rule_min)) (hx := l_law_rule__law_many))
      (pss_one (ps_let 5 sc_law_rule.nd (pe_op op_addA pe_int (pe_op op_mod (pe_op op_fdiv (pv 4 (hv := v_law_rule__law_cell)) pe_int) pe_int)) (hx := l_law_rule__law_size)))) pss_nil)))
      (pss_cons (ps_let 6 sc_law_rule.nd (pe_cal c_law_words hr (pa_cons (pe_cal c_law_cell_at hr (pa_cons (pv 0 (hv := v_law_rule__law_script)) (pa_cons pe_int pa_nil)) (hg := gl_law_rule__law_cell_at)) (pa_cons (pv 3 (hv := v_law_rule__law_many)) (pa_cons (pv 2 (hv := v_law_rule__law_sides)) pa_nil))) (hg := gl_law_rule__law_words)) (hx := l_law_rule__law_words_here))
      (pss_cons (ps_let 7 sc_law_rule.nd (pe_ix (ix_K K) (pe_lst (pa_cons pe_int (pa_cons pe_int (pa_cons pe_int (pa_cons pe_int pa_nil))))) (pe_op op_mod (pv 4 (hv := v_law_rule__law_cell)) pe_int) (fun _ _ => rfl)) (hx := l_law_rule__law_share))
      (pss_cons (ps_let 8 sc_law_rule.nd (pe_cal c_law_mixed hr (pa_cons (pv 4 (hv := v_law_rule__law_cell)) (pa_cons (pe_op op_mulB (pv 3 (hv := v_law_rule__law_many)) (pv 5 (hv := v_law_rule__law_size))) pa_nil)) (hg := gl_law_rule__law_mixed)) (hx := l_law_rule__law_xs))
      (pss_cons (ps_for PassesOwn.never rfl (pi_range1 gl_law_rule_range z_range (pa_cons (pe_blt call_minA z_min bt_min (pa_cons (pe_op op_sub (pe_blt (call_lenK K) z_len bt_len (pa_cons (pv 0 (hv := v_law_rule__law_script)) pa_nil) (hg := gl_law_rule_len)) pe_int) (pa_cons (pe_op op_mulB (pv 3 (hv := v_law_rule__law_many)) (pv 5 (hv := v_law_rule__law_size))) pa_nil)) (hg := gl_law_rule_min)) pa_nil)) (pg_let 9 sc_law_rule.nd (hx := l_law_rule__law_k)) (pss_one (ps_asg (pe_op op_mod (pe_ix (ix_K K) (pv 0 (hv := v_law_rule__law_script)) (pe_op op_addA pe_int (pv 9 (hv := v_law_rule__law_k))) (fun _ _ => rfl)) pe_int) (pg_sub (pv 8 (hv := v_law_rule__law_xs)) (pv 9 (hv := v_law_rule__law_k)) set_A))))
      (pss_cons (ps_let 10 sc_law_rule.nd (pe_lst pa_nil) (hx := l_law_rule__law_rooms))
      (pss_cons (ps_for PassesOwn.never rfl (pi_range1 gl_law_rule_range z_range (pa_cons (pv 5 (hv := v_law_rule__law_size)) pa_nil)) (pg_let 11 sc_law_rule.nd (hx := l_law_rule__law_r)) (pss_one (ps_expr (pe_bmK K PySem.F.plainAttrs_list PySem.F.slot_list_append PySem.F.type_list_append mt_appendA (pv 10 (hv := v_law_rule__law_rooms)) (pa_cons (pe_comp (CompSc.to (fsc := (defScope s_law_rule)) (N := ["_law_script", "_law_first", "_law_sides", "_law_many", "_law_cell", "_law_size", "_law_words_here", "_law_share", "_law_xs", "_law_k", "_law_rooms", "_law_r"]) (N0 := ["_law_script", "_law_first", "_law_sides", "_law_many", "_law_cell", "_law_size", "_law_words_here", "_law_share", "_law_xs", "_law_k", "_law_rooms", "_law_r"]) (T := ["_law_j"]) ⟨by decide +kernel, by decide +kernel, by decide +kernel, by decide +kernel, by decide +kernel, by decide +kernel, by decide +kernel⟩ rfl rfl) rfl (pi_range1 gl_law_rule_range z_range (pa_cons (pv 3 (hv := v_law_rule__law_many)) pa_nil)) (fun _ _ _ _ => (pg_let 12 (show (["_law_script", "_law_first", "_law_sides", "_law_many", "_law_cell", "_law_size", "_law_words_here", "_law_share", "_law_xs", "_law_k", "_law_rooms", "_law_r", "_law_j"] : List Str).Nodup from by decide +kernel) (hx := (locC (defScope s_law_rule) (by decide +kernel))) (hf := fnC (defScope s_law_rule) (by decide +kernel)))) (gfr_name (show (["_law_script", "_law_first", "_law_sides", "_law_many", "_law_cell", "_law_size", "_law_words_here", "_law_share", "_law_xs", "_law_k", "_law_rooms", "_law_r"] : List Str).length ≤ 12 from by decide)) (fun _ _ _ _ => pifs_nil) (fun _ _ _ _ => (pe_cal c_law_way hr (pa_cons (pe_ix (ix_K K) (pv 8 (hv := (visC (defScope s_law_rule) (by decide +kernel)))) (pe_op op_addA (pe_op op_mulB (pv 3 (hv := (visC (defScope s_law_rule) (by decide +kernel)))) (pv 11 (hv := (visC (defScope s_law_rule) (by decide +kernel))))) (pv 12 (hv := (visC (defScope s_law_rule) (by decide +kernel))))) (fun _ _ => rfl)) (pa_cons (pv 7 (hv := (visC (defScope s_law_rule) (by decide +kernel)))) (pa_cons (pv 5 (hv := (visC (defScope s_law_rule) (by decide +kernel)))) pa_nil))) (hg := (glC (defScope s_law_rule) (by decide +kernel)))))) pa_nil)))))
      (pss_one (ps_ret (pe_tup (pa_cons (pv 2 (hv := v_law_rule__law_sides)) (pa_cons (pv 6 (hv := v_law_rule__law_words_here)) (pa_cons (pe_cal c_law_shaped hr (pa_cons (pv 10 (hv := v_law_rule__law_rooms)) (pa_cons (pe_op op_mod (pe_op op_fdiv (pv 4 (hv := v_law_rule__law_cell)) pe_int) pe_int) (pa_cons (pe_op op_fdiv (pv 4 (hv := v_law_rule__law_cell)) pe_int) pa_nil))) (hg := gl_law_rule__law_shaped)) pa_nil)))))))))))))))))), ?_⟩
  walk_at "rd1"
  refine ⟨a, ns, 0, rfl, hS, by decide, ?_⟩
  generalize ns.getD (Int.toNat 0) 0 = c0
  walk_at "nx"
  refine ⟨by decide, ?_⟩
  generalize hsd : 1 + c0 % 2 = sd
  have hsd' : sd = 1 ∨ sd = 2 := by omega
  walk_at "nx"
  refine ⟨⟨by decide, by decide⟩, by decide, ?_⟩
  walk_at "nx"
  refine ⟨a, ns, 2, rfl, hS, by decide, ?_⟩
  generalize ns.getD (Int.toNat 2) 0 = c2
  walk_at "nx"
  refine ⟨⟨by decide, by decide⟩, by decide, ?_⟩
  refine seq_by (fun σ' H' => ∃ n z : Int, 0 ≤ n ∧ n ≤ 16 ∧ 1 ≤ z ∧ z ≤ 60 ∧ σ' = [some (.ref a), some (.int c0), some (.int sd), some (.int n), some (.int c2), some (.int z), none, none, none, none, none, none] ∧ H = H') (fun k hk => ?_) ?_
  · walk_at "rd1"
    refine ⟨⟨by decide, by decide⟩, by decide, ite2 (fun _ => ?_) (fun _ => ?_)⟩
    · exact hk _ _ ⟨16, _, by decide, by decide, by omega, by omega, rfl, rfl⟩
    · refine ⟨⟨by decide, by decide⟩, by decide, ite2 (fun _ => ?_) (fun _ => ?_)⟩
      · walk_at "nx"
        refine ⟨⟨by decide, by decide⟩, by decide, hk _ _ ⟨_, _, ?_, ?_, by omega, by omega, rfl, rfl⟩⟩
        · split <;> omega
        · split <;> omega
      · exact hk _ _ ⟨_, _, by omega, by omega, by omega, by omega, rfl, rfl⟩
  rintro σ' H' ⟨n, z, n0, n1, z0, z1, rfl, rfl⟩
  obtain ⟨b0, b1⟩ := mul_16_60 n0 n1 z0 z1
  walk_at "nx"
  refine ⟨a, ns, 1, rfl, hS, by decide, ?_⟩
  refine ⟨_, n, sd, rfl, n0, n1, fun wp H1 ws sm1 hwp hwl hwn hwb => ?_⟩
  walk_at "nx"
  refine ⟨by decide, fun lp hlp => ?_⟩
  generalize hH2 : upd H1 lp _ = H2
  have sm2 := al_same hH2 hlp
  have e2 := al_at hH2
  obtain ⟨sh, hsh, sh0, sh1⟩ := share_at [2, 5, 9, 101] c2 rfl (by decide)
  refine ⟨by decide, ⟨_, _, .inl (SqL.of e2), hsh, ?_⟩⟩
  walk_at "nx"
  refine ⟨.inl ⟨by omega, by omega⟩, _, _, rfl, b0, by omega, fun xp H3' ms' sm3' hxp hxl' hxn' _ => ?_⟩
  refine seq_by (fun σ' H3 => ∃ (ms : List Int) (o : Option V), σ' = [some (.ref a), some (.int c0), some (.int sd), some (.int n), some (.int c2), some (.int z), some (.ref wp), some (.int sh), some (.ref xp), o, none, none] ∧ Same H2 H3 ∧ H3 xp = some (.lst (ms.map V.int)) ∧ (ms.length : Int) = n * z) (fun k hk => ?_) ?_
  · walk_at "rd1"
    refine ⟨_, .inl ((sm1.trans (sm2.trans sm3')).seq hS), .inl ⟨by omega, by omega⟩, ?_⟩
    rw [List.length_map]
    generalize hmn : (if n * z < (ns.length : Int) - 3 then n * z else (ns.length : Int) - 3) = mn
    have hmn1 : mn ≤ n * z := by rw [← hmn]; split <;> omega
    have hmn2 : mn ≤ (ns.length : Int) - 3 := by rw [← hmn]; split <;> omega
    have hmn0 : -1000 ≤ mn := by rw [← hmn]; split <;> omega
    refine ⟨by omega, by omega, ?_⟩
    refine forW_range (fun i σ' H3 => ∃ (ms : List Int) (o : Option V), σ' = [some (.ref a), some (.int c0), some (.int sd), some (.int n), some (.int c2), some (.int z), some (.ref wp), some (.int sh), some (.ref xp), o, none, none] ∧ Same H2 H3 ∧ H3 xp = some (.lst (ms.map V.int)) ∧ (ms.length : Int) = n * z)
      ⟨ms', none, rfl, sm3', hxl', hxn'⟩ ?_ (fun σ' H3 h => hk _ _ h)
    rintro i σ H3 hi ⟨ms, o, rfl, sm3, hxl, hxn⟩
    have hi1 : (i : Int) < mn := by omega
    walk_at "rd1"
    obtain ⟨v, hv, _⟩ := at_lst (xs := ns) (i := 3 + (0 + (i : Int))) (by omega) (by omega)
    refine ⟨_, _, .inl ((sm1.trans (sm2.trans sm3)).seq hS), at_map (by omega) hv, ?_⟩
    walk_at "rd1"
    refine ⟨by decide, _, i, hxl, ?_, ?_⟩
    · rw [List.length_map]
      unfold ixN
      rw [if_pos (by omega), if_pos (by omega)]
      congr 1
      omega
    · refine ⟨ms.set i (v % 998244353), _, rfl, sm3.upd hxp _, ?_, by rw [List.length_set]; exact hxn⟩
      rw [upd_same, List.map_set]
  rintro σ' H3 ⟨ms, ok, rfl, sm3, hxl, hxn⟩
  walk_at "nx"
  refine ⟨by decide, fun rp hrp => ?_⟩
  generalize hH4 : upd H3 rp _ = H4
  have sm4 := al_same hH4 hrp
  have e4 := al_at hH4
  have sm13 : Same H1 H3 := sm2.trans sm3
  walk_at "nx"
  refine ⟨by omega, by omega, ?_⟩
  refine forW_range (fun i σ H' => ∃ (as : List Addr) (rows : List (List (Option Nat))) (o : Option V), σ = [some (.ref a), some (.int c0), some (.int sd), some (.int n), some (.int c2), some (.int z), some (.ref wp), some (.int sh), some (.ref xp), ok, some (.ref rp), o] ∧ Same H3 H' ∧ NR H3 H' rp rows as ∧ rows.length = i
      ∧ ∀ x ∈ rows, (x.length : Int) = n ∧ ∀ k, some k ∈ x → (k : Int) < z)
    ⟨[], [], none, rfl, sm4, ⟨⟨e4, rfl, by simp⟩, by simp, List.nodup_nil⟩, rfl, by simp⟩ ?_ ?_
  · rintro i σ H' hi ⟨as, rows, o, rfl, sm, hN, hn', hrb⟩
    have hiz : (i : Int) < z := by omega
    have hn := hN.at'.2.1
    walk_at "rd1"
    refine ⟨⟨_, SqL.of hN.at'.1⟩, by omega, by omega, fun L hL => ?_⟩
    refine compW_range (fun j ys H'' => ∃ x : List (Option Nat), Same H' H'' ∧ H'' L = some (.lst ys) ∧ ys = x.map wayV ∧ x.length = j ∧ ∀ k, some k ∈ x → (k : Int) < z) ⟨[], same_new hL _, upd_same, rfl, rfl, by simp⟩ ?_ ?_
    · rintro j ys H'' hj ⟨x, smx, hlx, rfl, hx, hxk⟩
      have hjn : (j : Int) < n := by omega
      walk_at "rd1"
      obtain ⟨m, hm, _⟩ := at_lst (xs := ms) (i := n * (0 + (i : Int)) + (0 + (j : Int))) (mul_nn n0 (by omega) (by omega)) (by rw [hxn]; exact mul_in n0 (by omega) (by omega))
      refine ⟨.inl ⟨by omega, by omega⟩, ⟨_, _, .inl (SqL.of ((sm.trans smx) _ _ hxl)), (at_map (mul_nn n0 (by omega) (by omega)) hm), ?_⟩⟩
      walk_at "rd1"
      refine ⟨_, _, _, rfl, sh0, sh1, by omega, by omega, fun o ho => ?_⟩
      refine cstep hj (by rw [List.length_map]; exact hx) (smallL (by omega)) hlx ⟨x ++ [o], smx.upd hL _, upd_same, map_push _ _, len_push hx, fun k hk => ?_⟩
      rcases List.mem_append.mp hk with z' | z'
      · exact hxk k z'
      · exact ho k (List.mem_singleton.mp z').symm
    · rintro ys H'' ⟨x, smx, hlx, rfl, hx, hxk⟩
      walk_at "rd1"
      have hxn' : (x.length : Int) = n := by omega
      refine ⟨_, smx _ _ hN.at'.1, by rw [List.length_map]; exact small' (by omega), as ++ [L], rows ++ [x], _, rfl, (sm.trans smx).upd hrp _, hN.push smx sm hL hlx, by simp [hn'], all_push hrb ⟨hxn', hxk⟩⟩
  · rintro σ H' ⟨as, rows, o, rfl, sm, hN, hn', hrb⟩
    walk_at "nx"
    have hrl : ∀ x ∈ rows, x.length = n.toNat := fun x hx => by have := (hrb x hx).1; omega
    have hSh : Sh H' H' rp as rows.length n.toNat rows as := ⟨hN.at', hN.nd, fun z => (hN.new _ z).2 rfl, rfl, hrl, fun a ha => .inl ha, fun _ _ _ _ e => e, fun _ e => e⟩
    refine ⟨⟨by decide, by decide⟩, by decide, ⟨by decide, by decide⟩, rp, rows, as, rows.length, n.toNat, _, _, rfl, hSh, fun x hx k hk => ?_, by omega, by omega, by omega, fun H5 rs' as' hS' hI' => ?_⟩
    · have := (hrb x hx).2 k hk
      omega
    refine ⟨by decide, fun tp htp => ?_⟩
    have smt := same_new htp (.tup [.int sd, .ref wp, .ref rp])
    have keep : Same H3 H5 := fun b o' e => hS'.rest b o' (fun zz => by subst zz; rw [hrp] at e; cases e) (fun zz => by have := (hN.new _ zz).1; rw [this] at e; cases e) (sm _ _ e)
    refine q tp _ ⟨sd, ws, rs'⟩ (((sm1.trans sm13).trans keep).trans smt) ⟨wp, rp, as', upd_same, smt _ _ (keep _ _ (sm13 _ _ hwl)), hS'.at'.mono smt⟩
      ⟨hsd', by show ws.length ≤ 16; omega, by show 1 ≤ rs'.length; rw [hS'.len]; omega, by show rs'.length ≤ 60; rw [hS'.len]; omega, fun x hx => ⟨by show x.length = ws.length; rw [hS'.row x hx]; omega, fun k hk => by show k < rs'.length; rw [hS'.len]; exact hI' x hx k hk⟩, hwb⟩
end
/-! ### what the law looks at -/
def spIsWay : Sp := fun vs H Q _ => ∃ (o : Option Nat) (n : Nat), vs = [wayV o, nV n] ∧ (∀ k, o = some k → k < n) ∧ Q (.bl true) H
def spIsRooms : Sp := fun vs H Q _ => ∃ (p : Addr) (R : Rms) (as : List Addr) (m : Nat), vs = [.ref p, nV m] ∧ RoomsAs H p R as ∧ RmsOk R m ∧ ∀ H', Same H H' → Q (.bl true) H'
def spUnlike : Sp := fun vs H Q _ => ∃ (p : Addr) (R : Rms) (as : List Addr) (m : Nat), vs = [.ref p] ∧ RoomsAs H p R as ∧ RmsOk R m ∧ kindsOf R = List.range R.length ∧ ∀ H', Same H H' → Q (.bl true) H'
section
variable {P : Program} {w : World} {K : PySem.W.Frag} {mg : Str → Option Value} {base : Heap}
theorem ok_is_way (D : DefAt K mg "_law_is_way" s_law_is_way) (z_isinstance : mg "isinstance" = none) (z_int : mg "int" = none) (z_bool : mg "bool" = none) : Cal P w K mg base 1 "_law_is_way" ["_law_to", "_law_many"] spIsWay := by
  refine D.cal sc_law_is_way (fun _ _ _ _ _ _ us hl => match us, hl with | [_, _], _ => rfl) (fun vs H Q E h => by obtain ⟨o, n, rfl, _⟩ := h; rfl) (fun f cdv A outer s H vs Q E hr h => ?_)
  obtain ⟨o, n, rfl, ho, q⟩ := h
  refine ⟨_, (pss_cons (ps_if (pt_cmpR op_isNA (pv 0 (hv := v_law_is_way__law_to)) pe_non (nomark _)) (pss_one (ps_ret pe_bl)) pss_nil)
      (pss_one (ps_ret (pe_and (pe_blt call_isT z_isinstance bt_isinstance (pa_cons (pv 0 (hv := v_law_is_way__law_to)) (pa_cons (pe_gty z_int bt_int (hg := gl_law_is_way_int)) pa_nil)) (hg := gl_law_is_way_isinstance)) (pe_and (pe_not (pe_blt call_isT z_isinstance bt_isinstance (pa_cons (pv 0 (hv := v_law_is_way__law_to)) (pa_cons (pe_gty z_bool bt_bool (hg := gl_law_is_way_bool)) pa_nil)) (hg := gl_law_is_way_isinstance))) (pe_and (pe_cmpR op_le pe_int (pv 0 (hv := v_law_is_way__law_to)) (nomark _)) (pe_one (pe_cmpR op_ltA (pv 0 (hv := v_law_is_way__law_to)) (pv 1 (hv := v_law_is_way__law_many)) (nomark _))))))))), ?_⟩
  cases o with
  | none =>
    walk_at "rd1"
    refine ite2 (fun c => ?_) (fun c => ?_)
    · exact q
    · exact absurd rfl c
  | some k =>
    have hk := ho k rfl
    rw [show wayV (some k) = V.int (k : Int) from rfl]
    walk_at "rd1"
    refine ite2 (fun c => ?_) (fun c => ?_)
    · cases c
    · walk_at "nx"
      refine ⟨"int", rfl, by decide, ?_⟩
      refine ite2 (fun c => ?_) (fun c => absurd (by decide) c)
      refine ⟨"int", rfl, by decide, ?_⟩
      refine ite2 (fun c => ?_) (fun c => absurd (by decide) c)
      walk_at "rd1"
      refine ite2 (fun c => ?_) (fun c => absurd (by simp) c)
      rw [decide_eq_true (show (k : Int) < (n : Int) by omega)]
      exact q
theorem ok_is_rooms (D : DefAt K mg "_law_is_rooms" s_law_is_rooms) (z_isinstance : mg "isinstance" = none) (z_list : mg "list" = none) (z_len : mg "len" = none) (c_law_is_way : Cal P w K mg base 1 "_law_is_way" ["_law_to", "_law_many"] spIsWay) :
    Cal P w K mg base 2 "_law_is_rooms" ["_law_found", "_law_many"] spIsRooms := by
  refine D.cal sc_law_is_rooms (fun _ _ _ _ _ _ us hl => match us, hl with | [_, _], _ => rfl) (fun vs H Q E h => by obtain ⟨p, R, as, m, rfl, _⟩ := h; rfl) (fun f cdv A outer s H vs Q E hr h => ?_)
  obtain ⟨p, R, as, m, rfl, hR, ok, q⟩ := h
  obtain ⟨h1, h2, h3⟩ := hR
  have n0 := ok.n0
  refine ⟨_, (pss_cons (ps_if (PW.pt' (pw_or (pt_not (pt_val (pe_blt call_isT z_isinstance bt_isinstance (pa_cons (pv 0 (hv := v_law_is_rooms__law_found)) (pa_cons (pe_gty z_list bt_list (hg := gl_law_is_rooms_list)) pa_nil)) (hg := gl_law_is_rooms_isinstance)))) (pw_or1 (pt_cmpR (op_eqKD K hr) (pv 0 (hv := v_law_is_rooms__law_found)) (pe_lst pa_nil) (nomark _))))) (pss_one (ps_ret pe_bl)) pss_nil)
      (pss_cons (ps_for PassesOwn.never rfl (pi_listK K (pv 0 (hv := v_law_is_rooms__law_found))) (pg_let 2 sc_law_is_rooms.nd (hx := l_law_is_rooms__law_room)) (pss_cons (ps_if (PW.pt' (pw_or (pt_not (pt_val (pe_blt call_isT z_isinstance bt_isinstance (pa_cons (pv 2 (hv := v_law_is_rooms__law_room)) (pa_cons (pe_gty z_list bt_list (hg := gl_law_is_rooms_list)) pa_nil)) (hg := gl_law_is_rooms_isinstance)))) (pw_or1 (pt_cmpR op_neA (pe_blt (call_lenK K) z_len bt_len (pa_cons (pv 2 (hv := v_law_is_rooms__law_room)) pa_nil) (hg := gl_law_is_rooms_len)) (pv 1 (hv := v_law_is_rooms__law_many)) (nomark _))))) (pss_one (ps_ret pe_bl)) pss_nil)
      (pss_one (ps_for PassesOwn.never rfl (pi_listK K (pv 2 (hv := v_law_is_rooms__law_room))) (pg_let 3 sc_law_is_rooms.nd (hx := l_law_is_rooms__law_to)) (pss_one (ps_if (pt_not (pt_val (pe_cal c_law_is_way hr (pa_cons (pv 3 (hv := v_law_is_rooms__law_to)) (pa_cons (pe_blt (call_lenK K) z_len bt_len (pa_cons (pv 0 (hv := v_law_is_rooms__law_found)) pa_nil) (hg := gl_law_is_rooms_len)) pa_nil)) (hg := gl_law_is_rooms__law_is_way)))) (pss_one (ps_ret pe_bl)) pss_nil))))))
      (pss_one (ps_ret pe_bl)))), ?_⟩
  walk_at "rd1"
  refine ⟨"list", by simp [tyName, h1], by decide, ?_⟩
  refine ite2 (fun c => absurd c (by decide)) (fun c => ?_)
  refine ⟨by decide, fun ep hep => ?_⟩
  have st := same_new hep (.lst [])
  generalize hH1 : upd H ep _ = H1 at st ⊢
  have e1 := al_at hH1
  walk_at "rd1"
  refine ⟨0, false, by decide, .inr ⟨p, ep, _, _, rfl, rfl, .inl ⟨SqL.of (st _ _ h1), SqL.of e1⟩, .inr ⟨SqL.of (st _ _ h1), SqL.of e1, by rw [List.length_map]; show as.length ≠ 0; omega, rfl⟩⟩, ?_⟩
  walk_at "rd1"
  walk_at "nx"
  refine ⟨⟨_, SqL.of (st _ _ h1)⟩, ?_⟩
  refine forW_list (xs := as.map V.ref) (fun i σ H' => ∃ o2 o3 : Option V, σ = [some (.ref p), some (nV m), o2, o3] ∧ H1 = H') ⟨none, none, rfl, rfl⟩ (fun i σ H' _ h => by obtain ⟨_, _, _, rfl⟩ := h; exact SqL.of (st _ _ h1)) ?_ ?_
  · rintro i v σ H' hv ⟨o2, o3, rfl, rfl⟩
    have hia : i < as.length := by have := (List.getElem?_eq_some_iff.mp hv).1; simpa using this
    have hi : i < R.length := by omega
    rw [List.getElem?_map, List.getElem?_eq_getElem hia] at hv
    cases hv
    have hrow := st _ _ (h3 i _ _ (List.getElem?_eq_getElem hia) (List.getElem?_eq_getElem hi))
    have hrl := ok.row _ (List.getElem_mem hi)
    have hins := ok.ins _ (List.getElem_mem hi)
    walk_at "rd1"
    refine ⟨"list", by simp [tyName, hrow], by decide, ?_⟩
    refine ite2 (fun c => absurd c (by decide)) (fun c => ?_)
    refine ⟨_, .inl (SqL.of hrow), ?_⟩
    rw [List.length_map, hrl]
    walk_at "rd1"
    refine ite2 (fun c => absurd c (by simp)) (fun c => ?_)
    walk_at "nx"
    refine ⟨⟨_, SqL.of hrow⟩, ?_⟩
    refine forW_list (xs := (R[i]).map wayV) (fun j σ H' => ∃ o3 : Option V, σ = [some (.ref p), some (nV m), some (.ref as[i]), o3] ∧ H1 = H') ⟨_, rfl, rfl⟩ (fun j σ H' _ h => by obtain ⟨_, _, rfl⟩ := h; exact SqL.of hrow) ?_ ?_
    · rintro j v σ H' hv ⟨o3, rfl, rfl⟩
      have hj : j < (R[i]).length := by have := (List.getElem?_eq_some_iff.mp hv).1; simpa using this
      rw [List.getElem?_map, List.getElem?_eq_getElem hj] at hv
      cases hv
      walk_at "rd1"
      refine ⟨_, .inl (SqL.of (st _ _ h1)), (R[i])[j], R.length, by rw [List.length_map, h2], fun k e => hins k (e ▸ List.getElem_mem hj), ?_⟩
      walk_at "rd1"
      exact ⟨_, rfl⟩
    · rintro σ H' ⟨o3, rfl, rfl⟩
      exact ⟨_, _, rfl, rfl⟩
  · rintro σ H' ⟨o2, o3, rfl, rfl⟩
    walk_at "nx"
    exact q _ st
/-! all unlike -/
def encW : Option Nat → Nat
  | none => 0
  | some g => g + 1
def enc (m : Nat × List (Option Nat)) : NKey := ((m.1 : Int), m.2.map fun o => some ((encW o : Nat) : Int))
theorem enc_inj {m m' : Nat × List (Option Nat)} (h : enc m = enc m') : m = m' := by
  obtain ⟨a, b⟩ := m
  obtain ⟨c, d⟩ := m'
  unfold enc at h
  have h1 : (a : Int) = (c : Int) := congrArg (·.1) h
  have h2 : b.map (fun o => some ((encW o : Nat) : Int)) = d.map (fun o => some ((encW o : Nat) : Int)) := congrArg (·.2) h
  have h3 : b = d := by
    refine List.map_inj_right (f := fun o => some ((encW o : Nat) : Int)) (fun x y e => ?_) |>.mp h2
    have e' : ((encW x : Nat) : Int) = ((encW y : Nat) : Int) := Option.some.inj e
    cases x <;> cases y <;> simp [encW] at e' ⊢ <;> omega
  rw [h3, show a = c by omega]
def kvE (k : Nat) : List (Nat × List (Option Nat)) → List (NKey × V)
  | [] => []
  | m :: ms => (enc m, nV k) :: kvE (k + 1) ms
theorem kvE_len : ∀ (F : List (Nat × List (Option Nat))) (k : Nat), (kvE k F).length = F.length
  | [], k => rfl
  | m :: F, k => by show (kvE (k + 1) F).length + 1 = _; rw [kvE_len F]; rfl
theorem kvE_snoc : ∀ (F : List (Nat × List (Option Nat))) (k : Nat) (m : Nat × List (Option Nat)), kvE k (F ++ [m]) = kvE k F ++ [(enc m, nV (k + F.length))]
  | [], k, m => rfl
  | x :: F, k, m => by
    show (enc x, nV k) :: kvE (k + 1) (F ++ [m]) = _
    rw [kvE_snoc F, List.length_cons, show k + 1 + F.length = k + (F.length + 1) by omega]; rfl
theorem kvE_val : ∀ (F : List (Nat × List (Option Nat))) (k : Nat) (m : Nat × List (Option Nat)), valV (kvE k F) (enc m) = if m ∈ F then some (nV (k + idx m F)) else none
  | [], k, m => rfl
  | x :: F, k, m => by
    by_cases h : x = m
    · subst h
      rw [if_pos List.mem_cons_self, idx_self]
      show valV ((enc x, nV k) :: kvE (k + 1) F) (enc x) = _
      simp [valV]
    · have hn : ¬ enc x = enc m := fun z => h (enc_inj z)
      have e : valV (kvE k (x :: F)) (enc m) = valV (kvE (k + 1) F) (enc m) := by
        show valV ((enc x, nV k) :: kvE (k + 1) F) (enc m) = _
        simp [valV, hn]
      rw [e, kvE_val F]
      by_cases hm : m ∈ F
      · rw [if_pos hm, if_pos (List.mem_cons_of_mem _ hm), idx_other h, show k + 1 + idx m F = k + (idx m F + 1) by omega]
      · rw [if_neg hm, if_neg (by simp [Ne.symm h, hm])]
theorem cnt_numbered {α : Type} [DecidableEq α] (ms : List α) : cnt (numbered ms) = (firsts [] ms).length := by
  have inj : ∀ x ∈ [] ++ ms, ∀ y ∈ [] ++ ms, (firsts [] ms).idxOf x = (firsts [] ms).idxOf y → x = y := fun x hx y hy e => by
    have hx' : x ∈ firsts [] ms := (firsts_mem _ _ _).mpr (.inr (by simpa using hx))
    have hy' : y ∈ firsts [] ms := (firsts_mem _ _ _).mpr (.inr (by simpa using hy))
    have h1 := List.getElem_idxOf (List.idxOf_lt_length_iff.mpr hx')
    have h2 := List.getElem_idxOf (List.idxOf_lt_length_iff.mpr hy')
    rw [← h1, ← h2]; congr 1
  have e2 := firsts_map (fun m => (firsts [] ms).idxOf m) ms [] inj
  rw [List.map_nil] at e2
  unfold cnt numbered
  rw [e2, List.length_map]
theorem iter_last {R : Rms} {t : Nat} (h : finer R (iter R t) = iter R t) : iter R t = kindsOf R := by
  rcases Nat.lt_or_ge (R.length * R.length) t with z | z
  · have e := iter_fix (R := R) (t := R.length * R.length) (kinds_fixed R) (t - R.length * R.length)
    rw [show R.length * R.length + (t - R.length * R.length) = t by omega] at e
    exact e
  · exact kinds_of_fix h z
/-- as long as not all are alone, some are parted -/
theorem parts {R : Rms} {t : Nat} (hk : kindsOf R = List.range R.length) (hlt : cnt (iter R t) < R.length) : cnt (finer R (iter R t)) ≠ cnt (iter R t) := fun e => by
  have h1 := cnt_eq (iter_canon R t) (canon_numbered (marks R (iter R t))) (by rw [iter_len]; exact (finer_len R _).symm) (fun i j hi hj e' => by
    rw [iter_len] at hi hj
    have m := (finer_eq hi hj).mp e'
    have m1 : (iter R t).getD i 0 = (iter R t).getD j 0 := congrArg (·.1) m
    have hl := iter_len R t
    rw [getD_ix (by omega), getD_ix (by omega)] at m1
    rw [List.getElem?_eq_getElem (by omega), List.getElem?_eq_getElem (by omega), m1]) e.symm
  have h2 : finer R (iter R t) = iter R t := h1.symm
  have h3 := iter_last h2
  rw [h3, hk] at hlt
  unfold cnt at hlt
  rw [firsts_range, List.length_range] at hlt
  omega
theorem enc_opt (x : List (Option Nat)) : (x.map fun o => V.int ((encW o : Nat) : Int)) = (x.map fun o => some ((encW o : Nat) : Int)).map optV := by
  rw [List.map_map]; rfl
theorem ok_unlike (D : DefAt K mg "_law_all_unlike" s_law_all_unlike) (z_range : mg "range" = none) (z_len : mg "len" = none) (z_tuple : mg "tuple" = none) : Cal P w K mg base 1 "_law_all_unlike" ["_law_rooms"] spUnlike := by
  refine D.cal sc_law_all_unlike (fun _ _ _ _ _ _ us hl => match us, hl with | [_], _ => rfl) (fun vs H Q E h => by obtain ⟨p, R, as, m, rfl, _⟩ := h; rfl) (fun f cdv A outer s H vs Q E hr h => ?_)
  obtain ⟨p, R, as, m, rfl, hR, ok, hkd, q⟩ := h
  obtain ⟨h1, h2, h3⟩ := hR
  have n0 := ok.n0
  have n1 := ok.n1
  have m1 := ok.m1
  refine ⟨_, (pss_cons (ps_let 1 sc_law_all_unlike.nd (pe_comp (CompSc.to (fsc := (defScope s_law_all_unlike)) (N := ["_law_rooms", "_law_groups", "_law_count", "_law_known", "_law_parted", "_law_r", "_law_key"]) (N0 := ["_law_rooms", "_law_groups", "_law_count", "_law_known", "_law_parted", "_law_r", "_law_key"]) (T := ["_law_room"]) ⟨by decide +kernel, by decide +kernel, by decide +kernel, by decide +kernel, by decide +kernel, by decide +kernel, by decide +kernel⟩ rfl rfl) rfl (pi_listK K (pv 0 (hv := v_law_all_unlike__law_rooms))) (fun _ _ _ _ => (pg_let 7 (show (["_law_rooms", "_law_groups", "_law_count", "_law_known", "_law_parted", "_law_r", "_law_key", "_law_room"] : List Str).Nodup from by decide +kernel) (hx := (locC (defScope s_law_all_unlike) (by decide +kernel))) (hf := fnC (defScope s_law_all_unlike) (by decide +kernel)))) (gfr_name (show (["_law_rooms", "_law_groups", "_law_count", "_law_known", "_law_parted", "_law_r", "_law_key"] : List Str).length ≤ 7 from by decide)) (fun _ _ _ _ => pifs_nil) (fun _ _ _ _ => pe_int)) (hx := l_law_all_unlike__law_groups))
      (pss_cons (ps_let 2 sc_law_all_unlike.nd pe_int (hx := l_law_all_unlike__law_count))
      (pss_cons (ps_while PassesOwn.never (pt_cmpR op_ltA (pv 2 (hv := v_law_all_unlike__law_count)) (pe_blt (call_lenK K) z_len bt_len (pa_cons (pv 0 (hv := v_law_all_unlike__law_rooms)) pa_nil) (hg := gl_law_all_unlike_len)) (nomark _)) (pss_cons (ps_let 3 sc_law_all_unlike.nd pe_dnewN (hx := l_law_all_unlike__law_known))
      (pss_cons (ps_let 4 sc_law_all_unlike.nd (pe_lst pa_nil) (hx := l_law_all_unlike__law_parted))
      (pss_cons (ps_for PassesOwn.never rfl (pi_range1 gl_law_all_unlike_range z_range (pa_cons (pe_blt (call_lenK K) z_len bt_len (pa_cons (pv 0 (hv := v_law_all_unlike__law_rooms)) pa_nil) (hg := gl_law_all_unlike_len)) pa_nil)) (pg_let 5 sc_law_all_unlike.nd (hx := l_law_all_unlike__law_r)) (pss_cons (ps_let 6 sc_law_all_unlike.nd (pe_tup (pa_cons (pe_ix (ix_K K) (pv 1 (hv := v_law_all_unlike__law_groups)) (pv 5 (hv := v_law_all_unlike__law_r)) (fun _ _ => rfl)) (pa_cons (pe_bty (call_tupA K) z_tuple bt_tuple (pa_cons (pe_comp (CompSc.to (fsc := (defScope s_law_all_unlike)) (N := ["_law_rooms", "_law_groups", "_law_count", "_law_known", "_law_parted", "_law_r", "_law_key"]) (N0 := ["_law_rooms", "_law_groups", "_law_count", "_law_known", "_law_parted", "_law_r", "_law_key"]) (T := ["_law_to"]) ⟨by decide +kernel, by decide +kernel, by decide +kernel, by decide +kernel, by decide +kernel, by decide +kernel, by decide +kernel⟩ rfl rfl) rfl (pi_listK K (pe_ix (ix_K K) (pv 0 (hv := v_law_all_unlike__law_rooms)) (pv 5 (hv := v_law_all_unlike__law_r)) (fun _ _ => rfl))) (fun _ _ _ _ => (pg_let 7 (show (["_law_rooms", "_law_groups", "_law_count", "_law_known", "_law_parted", "_law_r", "_law_key", "_law_to"] : List Str).Nodup from by decide +kernel) (hx := (locC (defScope s_law_all_unlike) (by decide +kernel))) (hf := fnC (defScope s_law_all_unlike) (by decide +kernel)))) (gfr_name (show (["_law_rooms", "_law_groups", "_law_count", "_law_known", "_law_parted", "_law_r", "_law_key"] : List Str).length ≤ 7 from by decide)) (fun _ _ _ _ => pifs_nil) (fun _ _ _ _ => (pe_ifExp (pt_cmpR op_isNA (pv 7 (hv := (visC (defScope s_law_all_unlike) (by decide +kernel)))) pe_non (nomark _)) pe_int (pe_op op_addA (pe_ix (ix_K K) (pv 1 (hv := (visC (defScope s_law_all_unlike) (by decide +kernel)))) (pv 7 (hv := (visC (defScope s_law_all_unlike) (by decide +kernel)))) (fun _ _ => rfl)) pe_int)))) pa_nil) (hg := gl_law_all_unlike_tuple)) pa_nil))) (hx := l_law_all_unlike__law_key))
      (pss_cons (ps_if (pt_cmpR (op_notInN hr) (pv 6 (hv := v_law_all_unlike__law_key)) (pv 3 (hv := v_law_all_unlike__law_known)) (by with_unfolding_all rfl)) (pss_one (ps_asg (pe_blt call_lenN z_len bt_len (pa_cons (pv 3 (hv := v_law_all_unlike__law_known)) pa_nil) (hg := gl_law_all_unlike_len)) (pg_sub (pv 3 (hv := v_law_all_unlike__law_known)) (pv 6 (hv := v_law_all_unlike__law_key)) (set_N hr)))) pss_nil)
      (pss_one (ps_expr (pe_bmK K PySem.F.plainAttrs_list PySem.F.slot_list_append PySem.F.type_list_append mt_appendA (pv 4 (hv := v_law_all_unlike__law_parted)) (pa_cons (pe_ix (ix_N hr) (pv 3 (hv := v_law_all_unlike__law_known)) (pv 6 (hv := v_law_all_unlike__law_key)) (fun _ _ => rfl)) pa_nil)))))))
      (pss_cons (ps_if (pt_cmpR op_eqA (pe_blt call_lenN z_len bt_len (pa_cons (pv 3 (hv := v_law_all_unlike__law_known)) pa_nil) (hg := gl_law_all_unlike_len)) (pv 2 (hv := v_law_all_unlike__law_count)) (nomark _)) (pss_one (ps_ret pe_bl)) pss_nil)
      (pss_cons (ps_let 1 sc_law_all_unlike.nd (pv 4 (hv := v_law_all_unlike__law_parted)) (hx := l_law_all_unlike__law_groups))
      (pss_one (ps_let 2 sc_law_all_unlike.nd (pe_blt call_lenN z_len bt_len (pa_cons (pv 3 (hv := v_law_all_unlike__law_known)) pa_nil) (hg := gl_law_all_unlike_len)) (hx := l_law_all_unlike__law_count)))))))))
      (pss_one (ps_ret pe_bl))))), ?_⟩
  walk_at "rd1"
  refine ⟨⟨_, SqL.of h1⟩, fun L hL => ?_⟩
  refine compW_list (xs := as.map V.ref) (fun i ys H' => Same H H' ∧ H' L = some (.lst ys) ∧ ys = (List.replicate i 0).map nV) ⟨same_new hL _, upd_same, rfl⟩ (fun i ys H' _ h => SqL.of (h.1 _ _ h1)) ?_ ?_
  · rintro i ys H' v hv hi ⟨sm, hl, rfl⟩
    rw [List.length_map] at hi
    walk_at "rd1"
    refine cstep (by rw [List.length_map]; exact hi) (by simp) (by rw [List.length_map]; exact smallL (by omega)) hl ⟨sm.upd hL _, upd_same, ?_⟩
    rw [List.replicate_succ', List.map_append]; rfl
  rintro ys H1 ⟨sm1, hl1, rfl⟩
  rw [List.length_map, h2] at hl1
  have hl1' : H1 L = some (.lst ((iter R 0).map nV)) := by
    show _ = some (HO.lst ((R.map fun _ => 0).map nV))
    rw [List.map_const']; exact hl1
  have c0 : cnt (iter R 0) = 1 := by
    show cnt (R.map fun _ => 0) = 1
    rw [List.map_const']
    cases hRl : R.length with
    | zero => omega
    | succ k =>
      have : ∀ k, firsts ([0] : List Nat) (List.replicate k 0) = [0] := by
        intro k
        induction k with
        | zero => rfl
        | succ k ih => rw [List.replicate_succ]; show firsts (if 0 ∈ [0] then [0] else [0] ++ [0]) _ = _; rw [if_pos (by simp)]; exact ih
      unfold cnt
      rw [List.replicate_succ]
      show (firsts (if (0 : Nat) ∈ [] then [] else [] ++ [0]) (List.replicate k 0)).length = 1
      rw [if_neg (by simp), List.nil_append, this]; rfl
  walk_at "nx"
  walk_at "nx"
  refine ⟨fun mm σ H' => ∃ (t : Nat) (g : Addr) (o3 o4 o5 o6 : Option V), mm = pairsIn R.length (iter R t) ∧ σ = [some (.ref p), some (.ref g), some (nV (cnt (iter R t))), o3, o4, o5, o6] ∧ Same H H' ∧ H' g = some (.lst ((iter R t).map nV)),
    ⟨_, 0, L, none, none, none, none, rfl, by rw [c0]; rfl, sm1, hl1'⟩, ?_⟩
  rintro mm σ H' ⟨t, g, o3, o4, o5, o6, rfl, rfl, sm, hg⟩
  walk_at "rd1"
  refine ⟨_, .inl (SqL.of (sm _ _ h1)), ?_⟩
  rw [List.length_map, h2]
  refine ite2 (fun c => ?_) (fun c => ?_)
  · have hlt : cnt (iter R t) < R.length := by
      have : ((cnt (iter R t) : Nat) : Int) < (R.length : Int) := by simpa using c
      omega
    have hpa := parts hkd hlt
    have hne : finer R (iter R t) ≠ iter R t := fun e => hpa (by rw [e])
    have hplt := pairs_lt (R := R) (iter_len R t) (iter_canon R t) hne
    refine ⟨fun σ' H' => ∃ mm, mm < pairsIn R.length (iter R t) ∧ ∃ (t' : Nat) (g : Addr) (o3 o4 o5 o6 : Option V), mm = pairsIn R.length (iter R t') ∧ σ' = [some (.ref p), some (.ref g), some (nV (cnt (iter R t'))), o3, o4, o5, o6] ∧ Same H H' ∧ H' g = some (.lst ((iter R t').map nV)), fun _ _ h => h, ?_⟩
    have hlk := iter_len R t
    generalize hks : iter R t = ks at *
    walk_at "rd1"
    refine fun sp hsp u hdn => ?_
    generalize hHa : upd H' sp u = Ha at hdn ⊢
    have sma := al_same hHa hsp
    walk_at "nx"
    refine ⟨by decide, fun fp hfp => ?_⟩
    have hdn2 := hdn.mono (same_new hfp (.lst []))
    generalize hHb : upd Ha fp _ = Hb at hdn2 ⊢
    have smb := al_same hHb hfp
    have eb := al_at hHb
    have smab := sma.trans smb
    walk_at "nx"
    refine ⟨_, .inl (SqL.of ((sm.trans smab) _ _ h1)), ?_⟩
    rw [List.length_map, h2]
    walk_at "rd1"
    refine ⟨by omega, by omega, ?_⟩
    have hfpH : H' fp = none := sma.free hfp
    refine forW_range (fun i σ Hc => ∃ o5 o6 : Option V, σ = [some (.ref p), some (.ref g), some (nV (cnt ks)), some (.ref sp), some (.ref fp), o5, o6] ∧ Same H' Hc ∧ DN P w Hc sp (kvE 0 (firsts [] ((marks R ks).take i))) ∧ Hc fp = some (.lst (((finer R ks).take i).map nV)))
      ⟨_, _, rfl, smab, hdn2, eb⟩ ?_ ?_
    · rintro i σ Hc hi' ⟨o5, o6, rfl, smc, hdc, hfc⟩
      have hi : i < R.length := by omega
      have hia : i < as.length := by omega
      have hrow := smc _ _ (sm _ _ (h3 i _ _ (List.getElem?_eq_getElem hia) (List.getElem?_eq_getElem hi)))
      have hrl := ok.row _ (List.getElem_mem hi)
      have hins := ok.ins _ (List.getElem_mem hi)
      have hkd' : ks[i]? = some (ks.getD i 0) := by rw [List.getD_eq_getElem?_getD, List.getElem?_eq_getElem (by omega)]; rfl
      have hms : (marks R ks)[i]? = some (mark R ks i) := marks_at hi
      have asi : as[(0 + (i : Int)).toNat]? = some as[i] := by rw [show (0 + (i : Int)).toNat = i by omega]; exact List.getElem?_eq_getElem hia
      walk_at "rd1"
      refine ⟨_, _, .inl (SqL.of (smc _ _ hg)), at_map (by omega) (show ks[(0 + (i : Int)).toNat]? = some (ks.getD i 0) by rw [show (0 + (i : Int)).toNat = i by omega]; exact hkd'), ?_⟩
      refine ⟨_, _, .inl (SqL.of ((sm.trans smc) _ _ h1)), at_map (by omega) asi, ?_⟩
      walk_at "rd1"
      refine ⟨⟨_, SqL.of hrow⟩, fun Z hZ => ?_⟩
      refine compW_list (xs := (R[i]).map wayV) (fun j ys Hd => Same Hc Hd ∧ Hd Z = some (.lst ys) ∧ ys = ((R[i]).take j).map fun o => V.int ((encW (o.map fun k => ks.getD k 0) : Nat) : Int)) ⟨same_new hZ _, upd_same, rfl⟩ (fun j ys Hd _ h => SqL.of (h.1 _ _ hrow)) ?_ ?_
      · rintro j ys Hd v hv hj ⟨smd, hld, rfl⟩
        rw [List.length_map] at hj
        rw [List.getElem?_map, List.getElem?_eq_getElem hj] at hv
        cases hv
        have fin : ∀ z : V, z = V.int ((encW (((R[i])[j]).map fun k => ks.getD k 0) : Nat) : Int) → CStep ((R[i]).map wayV).length j (fun j ys Hd => Same Hc Hd ∧ Hd Z = some (.lst ys) ∧ ys = ((R[i]).take j).map fun o => V.int ((encW (o.map fun k => ks.getD k 0) : Nat) : Int)) Z (((R[i]).take j).map fun o => V.int ((encW (o.map fun k => ks.getD k 0) : Nat) : Int)) z Hd := fun z e => by
          subst e
          refine cstep (by rw [List.length_map]; exact hj) (by simp; omega) (by rw [List.length_map]; exact smallL (by omega)) hld ⟨smd.upd hZ _, upd_same, ?_⟩
          rw [List.take_add_one, List.getElem?_eq_getElem hj, List.map_append]; rfl
        have hmem := List.getElem_mem hj
        cases hx : (R[i])[j] with
        | none =>
          rw [hx] at fin
          walk_at "rd1"
          refine ite2 (fun c => ?_) (fun c => absurd rfl c)
          exact fin _ rfl
        | some k =>
          rw [hx] at fin hmem
          have hk := hins k hmem
          have hkk : ks[k]? = some (ks.getD k 0) := by rw [List.getD_eq_getElem?_getD, List.getElem?_eq_getElem (by omega)]; rfl
          walk_at "rd1"
          refine ite2 (fun c => ?_) (fun c => ?_)
          · cases c
          · rw [show wayV (some k) = V.int (k : Int) from rfl]
            walk_at "rd1"
            refine ⟨_, _, .inl (SqL.of (smd _ _ (smc _ _ hg))), atI_nat (by rw [List.getElem?_map, hkk]; rfl), ?_⟩
            walk_at "rd1"
            exact fin _ (by show V.int (((ks.getD k 0 : Nat) : Int) + 1) = V.int (((ks.getD k 0 + 1 : Nat)) : Int); rw [show ((ks.getD k 0 : Nat) : Int) + 1 = ((ks.getD k 0 + 1 : Nat) : Int) by omega])
      rintro ys Hd ⟨smd, hld, rfl⟩
      rw [List.length_map, List.take_length] at hld
      walk_at "rd1"
      refine ⟨_, .inl ⟨SqL.of hld, fun tp htp => ?_⟩⟩
      generalize hH4 : upd Hd tp _ = H4
      have sm4 := al_same hH4 htp
      have e4 := al_at hH4
      refine ⟨by decide, fun mp hmp => ?_⟩
      generalize hH5 : upd H4 mp _ = H5
      have sm5 := al_same hH5 hmp
      have e5 := al_at hH5
      have smx : Same Hc H5 := (smd.trans sm4).trans sm5
      have hke : KeyAt H5 (enc (mark R ks i)) mp := by
        refine ⟨tp, e5, ?_⟩
        have e6 := sm5 _ _ e4
        rw [e6]
        show some (HO.tup _) = some (HO.tup ((((R.getD i []).map (Option.map fun k => ks.getD k 0)).map fun o => some ((encW o : Nat) : Int)).map optV))
        rw [getD_ix hi, ← enc_opt, List.map_map]; rfl
      have hd5 := hdc.mono smx
      have hf5 := smx _ _ hfc
      have sm05 := smc.trans smx
      have htk : (marks R ks).take (i + 1) = (marks R ks).take i ++ [mark R ks i] := by rw [List.take_add_one, hms]; rfl
      have hFl : (firsts [] ((marks R ks).take i)).length ≤ 60 := by
        have := firsts_len_le ((marks R ks).take i) []
        rw [List.length_take, marks_len] at this
        simp at this; omega
      refine seq_by (fun σ' Hz => σ' = [some (.ref p), some (.ref g), some (nV (cnt ks)), some (.ref sp), some (.ref fp), some (.int (0 + (i : Int))), some (.ref mp)] ∧ Same H' Hz ∧ KeyAt Hz (enc (mark R ks i)) mp ∧ DN P w Hz sp (kvE 0 (firsts [] ((marks R ks).take (i + 1)))) ∧ Hz fp = some (.lst (((finer R ks).take i).map nV))) (fun kk hkk => ?_) ?_
      · walk_at "rd1"
        refine ⟨mp, sp, _, _, rfl, rfl, hd5, hke, ?_⟩
        rw [kvE_val]
        by_cases hm : mark R ks i ∈ firsts [] ((marks R ks).take i)
        · rw [if_pos hm]
          walk_at "rd1"
          refine hkk _ _ ⟨rfl, sm05, hke, ?_, hf5⟩
          rw [htk, firsts_snoc, if_pos hm]; exact hd5
        · rw [if_neg hm]
          walk_at "rd1"
          refine ⟨sp, _, rfl, hd5, sp, mp, _, _, rfl, rfl, hd5, hke, by rw [kvE_val, if_neg hm], by rw [kvE_len]; exact small' (by omega), fun u' hdu => ?_⟩
          refine hkk _ _ ⟨rfl, sm05.upd hsp _, DN.keyUpd hd5 hke, ?_, ?_⟩
          · rw [htk, firsts_snoc, if_neg hm, kvE_snoc, Nat.zero_add]
            rw [kvE_len] at hdu
            exact hdu
          · obtain ⟨ys, z, _⟩ := hd5
            rw [upd_ne (ne_of hf5 z (fun z => nomatch z))]; exact hf5
      rintro σ' H6 ⟨rfl, sm6, hk6, hd6, hf6⟩
      walk_at "nx"
      have hm6 : mark R ks i ∈ firsts [] ((marks R ks).take (i + 1)) := (firsts_mem _ _ _).mpr (.inr (by rw [htk]; simp))
      refine ⟨⟨_, SqL.of hf6⟩, sp, mp, _, _, _, rfl, rfl, hd6, hk6, by rw [kvE_val, if_pos hm6], ?_⟩
      walk_at "rd1"
      refine ⟨_, hf6, by rw [List.length_map, List.length_take, finer_len]; exact small' (by omega), _, _, rfl, sm6.upd hfpH _, DN.updL hd6 hf6, ?_⟩
      rw [upd_same, List.take_add_one (l := finer R ks)]
      have e : (finer R ks)[i]? = some (idx (mark R ks i) (firsts [] ((marks R ks).take (i + 1)))) := numbered_ix hms
      rw [e, Nat.zero_add, List.map_append]; rfl
    · rintro σ Hc ⟨o5, o6, rfl, smc, hdc, hfc⟩
      have hn : (R.length : Int).toNat = R.length := by omega
      rw [hn, List.take_of_length_le (by rw [marks_len]; exact Nat.le_refl _)] at hdc
      rw [hn, List.take_of_length_le (by rw [finer_len]; exact Nat.le_refl _)] at hfc
      have hcn : (kvE 0 (firsts [] (marks R ks))).length = cnt (finer R ks) := by rw [kvE_len]; exact (cnt_numbered (marks R ks)).symm
      walk_at "nx"
      refine ⟨sp, _, rfl, hdc, ?_⟩
      rw [hcn]
      walk_at "rd1"
      refine ite2 (fun c => ?_) (fun c => ?_)
      · exact absurd (by have : ((cnt (finer R ks) : Nat) : Int) = ((cnt ks : Nat) : Int) := by simpa using c
                         omega) hpa
      · walk_at "nx"
        walk_at "nx"
        refine ⟨sp, _, rfl, hdc, ?_⟩
        rw [hcn]
        refine ⟨_, hplt, t + 1, fp, some (.ref sp), some (.ref fp), o5, o6, by rw [show iter R (t + 1) = finer R ks by rw [← hks]; rfl], ?_, sm.trans smc, ?_⟩
        · rw [show iter R (t + 1) = finer R ks by rw [← hks]; rfl]
        · rw [show iter R (t + 1) = finer R ks by rw [← hks]; rfl]; exact hfc
  · walk_at "nx"
    exact q _ sm
end
/-! in order -/
structure InOrder (R : Rms) : Prop where
  rng : ∀ t, bfs R t = List.range (bfs R t).length
  led : ∀ t, t < R.length → t < (bfs R t).length
def spInOrder : Sp := fun vs H Q _ => ∃ (p : Addr) (R : Rms) (as : List Addr) (m : Nat), vs = [.ref p] ∧ RoomsAs H p R as ∧ RmsOk R m ∧ InOrder R ∧ Q (.bl true) H
theorem range_pre {n : Nat} {a b : List Nat} (h : List.range n = a ++ b) : a = List.range a.length := by
  have hl : a.length ≤ n := by
    have := congrArg List.length h
    rw [List.length_append, List.length_range] at this
    omega
  have e : a = (List.range n).take a.length := by rw [h]; simp
  rw [List.take_range, Nat.min_eq_left hl] at e
  exact e
theorem order_step {R : Rms} (h : InOrder R) {i : Nat} (hi : i < R.length) : bfs R (i + 1) = expand (bfs R i) R[i] := by
  have h1 := h.rng i
  have h2 := h.led i hi
  have h3 : (bfs R i)[i]? = some i := by rw [h1, List.getElem?_range h2]
  show (match (bfs R i)[i]? with | some r => expand (bfs R i) (R.getD r []) | none => bfs R i) = _
  rw [h3, ← getD_ix (d := []) hi]
theorem order_part {R : Rms} (h : InOrder R) {i : Nat} (hi : i < R.length) (j : Nat) : expand (bfs R i) ((R[i]).take j) = List.range (expand (bfs R i) ((R[i]).take j)).length := by
  have e := order_step h hi
  rw [h.rng (i + 1)] at e
  obtain ⟨u, hu⟩ := expand_pre ((R[i]).drop j) (expand (bfs R i) ((R[i]).take j))
  rw [← expand_app, List.take_append_drop] at hu
  exact range_pre (e.trans hu)
/-- what a way does to the number of rooms met -/
theorem order_way {R : Rms} (h : InOrder R) {i j k : Nat} (hi : i < R.length) (hj : j < (R[i]).length) (hk : (R[i])[j] = some k) :
    k ≤ (expand (bfs R i) ((R[i]).take j)).length ∧ (expand (bfs R i) ((R[i]).take (j + 1))).length = if k = (expand (bfs R i) ((R[i]).take j)).length then (expand (bfs R i) ((R[i]).take j)).length + 1 else (expand (bfs R i) ((R[i]).take j)).length := by
  have p1 := order_part h hi j
  have p2 := order_part h hi (j + 1)
  rw [List.take_add_one, List.getElem?_eq_getElem hj, hk] at p2 ⊢
  rw [show ((some (some k) : Option (Option Nat)).toList) = [some k] from rfl, expand_snoc] at p2 ⊢
  generalize expand (bfs R i) ((R[i]).take j) = o at p1 p2 ⊢
  show k ≤ o.length ∧ (if k ∈ o then o else o ++ [k]).length = _
  have p2' : (if k ∈ o then o else o ++ [k]) = List.range (if k ∈ o then o else o ++ [k]).length := p2
  by_cases hm : k ∈ o
  · rw [if_pos hm]
    rw [p1] at hm
    have := List.mem_range.mp hm
    exact ⟨by omega, by rw [if_neg (by omega)]⟩
  · rw [if_neg hm] at p2' ⊢
    rw [List.length_append, List.length_singleton, List.range_succ] at p2'
    have e := (List.append_inj' p2' rfl).2
    have e' : k = o.length := by simpa using e
    exact ⟨by omega, by rw [if_pos e', List.length_append, List.length_singleton]⟩
theorem order_none {R : Rms} {i j : Nat} (hi : i < R.length) (hj : j < (R[i]).length) (hk : (R[i])[j] = none) : (expand (bfs R i) ((R[i]).take (j + 1))).length = (expand (bfs R i) ((R[i]).take j)).length := by
  rw [List.take_add_one, List.getElem?_eq_getElem hj, hk]
  rw [show ((some (none : Option Nat) : Option (Option Nat)).toList) = [none] from rfl, expand_snoc]
section
variable {P : Program} {w : World} {K : PySem.W.Frag} {mg : Str → Option Value} {base : Heap}
theorem ok_in_order (D : DefAt K mg "_law_in_order" s_law_in_order) (z_range : mg "range" = none) (z_len : mg "len" = none) : Cal P w K mg base 1 "_law_in_order" ["_law_rooms"] spInOrder := by
  refine D.cal sc_law_in_order (fun _ _ _ _ _ _ us hl => match us, hl with | [_], _ => rfl) (fun vs H Q E h => by obtain ⟨p, R, as, m, rfl, _⟩ := h; rfl) (fun f cdv A outer s H vs Q E hr h => ?_)
  obtain ⟨p, R, as, m, rfl, hR, ok, io, q⟩ := h
  obtain ⟨h1, h2, h3⟩ := hR
  have n1 := ok.n1
  have m1 := ok.m1
  refine ⟨_, (pss_cons (ps_let 1 sc_law_in_order.nd pe_int (hx := l_law_in_order__law_seen))
      (pss_cons (ps_for PassesOwn.never rfl (pi_range1 gl_law_in_order_range z_range (pa_cons (pe_blt (call_lenK K) z_len bt_len (pa_cons (pv 0 (hv := v_law_in_order__law_rooms)) pa_nil) (hg := gl_law_in_order_len)) pa_nil)) (pg_let 2 sc_law_in_order.nd (hx := l_law_in_order__law_r)) (pss_cons (ps_if (pt_cmpR op_ge (pv 2 (hv := v_law_in_order__law_r)) (pv 1 (hv := v_law_in_order__law_seen)) (nomark _)) (pss_one (ps_ret pe_bl)) pss_nil)
      (pss_one (ps_for PassesOwn.never rfl (pi_listK K (pe_ix (ix_K K) (pv 0 (hv := v_law_in_order__law_rooms)) (pv 2 (hv := v_law_in_order__law_r)) (fun _ _ => rfl))) (pg_let 3 sc_law_in_order.nd (hx := l_law_in_order__law_to)) (pss_cons (ps_if (PW.pt' (pw_and (pt_cmpR op_notNA (pv 3 (hv := v_law_in_order__law_to)) pe_non (nomark _)) (pw_and1 (pt_cmpR op_gt (pv 3 (hv := v_law_in_order__law_to)) (pv 1 (hv := v_law_in_order__law_seen)) (nomark _))))) (pss_one (ps_ret pe_bl)) pss_nil)
      (pss_one (ps_if (PW.pt' (pw_and (pt_cmpR op_notNA (pv 3 (hv := v_law_in_order__law_to)) pe_non (nomark _)) (pw_and1 (pt_cmpR op_eqA (pv 3 (hv := v_law_in_order__law_to)) (pv 1 (hv := v_law_in_order__law_seen)) (nomark _))))) (pss_one (ps_let 1 sc_law_in_order.nd (pe_op op_addA (pv 1 (hv := v_law_in_order__law_seen)) pe_int) (hx := l_law_in_order__law_seen))) pss_nil)))))))
      (pss_one (ps_ret pe_bl)))), ?_⟩
  walk_at "rd1"
  walk_at "nx"
  refine ⟨_, .inl (SqL.of h1), ?_⟩
  rw [List.length_map, h2]
  walk_at "rd1"
  refine ⟨by omega, by omega, ?_⟩
  refine forW_range (fun i σ H' => ∃ o2 o3 : Option V, σ = [some (.ref p), some (nV (bfs R i).length), o2, o3] ∧ H = H') ⟨none, none, rfl, rfl⟩ ?_ ?_
  · rintro i σ H' hi' ⟨o2, o3, rfl, rfl⟩
    have hi : i < R.length := by omega
    have hia : i < as.length := by omega
    have hled := io.led i hi
    have hrow := h3 i _ _ (List.getElem?_eq_getElem hia) (List.getElem?_eq_getElem hi)
    have hrl := ok.row _ (List.getElem_mem hi)
    have hins := ok.ins _ (List.getElem_mem hi)
    have asi : as[(0 + (i : Int)).toNat]? = some as[i] := by rw [show (0 + (i : Int)).toNat = i by omega]; exact List.getElem?_eq_getElem hia
    walk_at "rd1"
    refine ite2 (fun c => absurd c (by simp; omega)) (fun c => ?_)
    walk_at "nx"
    refine ⟨_, _, .inl (SqL.of h1), at_map (by omega) asi, ?_⟩
    walk_at "rd1"
    refine ⟨⟨_, SqL.of hrow⟩, ?_⟩
    refine forW_list (xs := (R[i]).map wayV) (fun j σ H' => ∃ o3 : Option V, σ = [some (.ref p), some (nV (expand (bfs R i) ((R[i]).take j)).length), some (.int (0 + (i : Int))), o3] ∧ H = H') ⟨_, rfl, rfl⟩ (fun j σ H' _ h => by obtain ⟨_, _, rfl⟩ := h; exact SqL.of hrow) ?_ ?_
    · rintro j v σ H' hv ⟨o3, rfl, rfl⟩
      have hj : j < (R[i]).length := by have := (List.getElem?_eq_some_iff.mp hv).1; simpa using this
      rw [List.getElem?_map, List.getElem?_eq_getElem hj] at hv
      cases hv
      cases hx : (R[i])[j] with
      | none =>
        have en := order_none hi hj hx
        walk_at "rd1"
        refine ite2 (fun c => absurd c (by decide)) (fun c => ?_)
        walk_at "nx"
        refine ite2 (fun c => absurd c (by decide)) (fun c => ?_)
        exact ⟨some .non, by rw [en]; rfl⟩
      | some k =>
        obtain ⟨hk, en⟩ := order_way io hi hj hx
        rw [show wayV (some k) = V.int (k : Int) from rfl]
        walk_at "rd1"
        refine ite2 (fun c => ?_) (fun c => absurd rfl c)
        refine ite2 (fun c => absurd c (by omega)) (fun c => ?_)
        walk_at "nx"
        refine ite2 (fun c => ?_) (fun c => absurd rfl c)
        refine ite2 (fun c => ?_) (fun c => ?_)
        · refine ⟨some (.int (k : Int)), ?_⟩
          rw [en, if_pos (by omega)]; rfl
        · refine ⟨some (.int (k : Int)), ?_⟩
          rw [en, if_neg (by omega)]
    · rintro σ H' ⟨o3, rfl, rfl⟩
      rw [List.length_map, List.take_length, ← order_step io hi]
      exact ⟨_, _, rfl, rfl⟩
  · rintro σ H' ⟨o2, o3, rfl, rfl⟩
    walk_at "nx"
    exact q
/-! ### the law -/
theorem rm_of {R : Rms} {m : Nat} (ok : RmsOk R m) : Rm R m := ⟨ok.n0, ok.row, ok.ins⟩
theorem leastR_rs (r : Rl) : (leastR r).rs = pick (leastN r.rs) (places (leastN r.rs) r.ws.length) := rfl
theorem leastR_ws (r : Rl) : (leastR r).ws.length = (places (leastN r.rs) r.ws.length).length := List.length_map _
theorem least_inorder {r : Rl} (ok : RlOk r) : InOrder (leastR r).rs := by
  have h := rm_of (rl_rms ok)
  refine ⟨fun t => ?_, fun t ht => ?_⟩
  · rw [leastR_rs, bfs_least h, List.length_range]
  · rw [leastR_rs, pick_len] at ht
    rw [leastR_rs, bfs_least h, List.length_range]
    exact least_reached h ht
theorem least_kinds {r : Rl} (ok : RlOk r) : kindsOf (leastR r).rs = List.range (leastR r).rs.length := by
  have h := rm_of (rl_rms ok)
  rw [leastR_rs, kinds_least h, pick_len]
theorem least_again {r : Rl} (ok : RlOk r) : leastR (leastR r) = leastR r := by
  have h := rm_of (rl_rms ok)
  have e1 := leastN_again h
  have e2 := places_again h
  have e3 := leastR_ws r
  have hp : places (leastN (leastR r).rs) (leastR r).ws.length = List.range (leastR r).ws.length := by
    rw [e3, leastR_rs, e1, e2]
  have h1 : (leastR (leastR r)).ws = (leastR r).ws := by
    show (places (leastN (leastR r).rs) (leastR r).ws.length).map (fun x => (leastR r).ws.getD x default) = _
    rw [hp]
    refine List.ext_getElem (by simp) fun i h1 h2 => ?_
    rw [List.getElem_map, List.getElem_range, getD_ix h2]
  have h2 : (leastR (leastR r)).rs = (leastR r).rs := by
    show (leastN (leastR r).rs).map (fun y => (places (leastN (leastR r).rs) (leastR r).ws.length).map fun x => y.getD x none) = _
    rw [hp, leastR_rs, e1, ← leastR_rs]
    refine (List.map_congr_left fun y hy => ?_).trans (List.map_id _)
    exact row_range ((rl_rms (least_ok ok)).row y hy)
  have ext : ∀ a b : Rl, a.s = b.s → a.ws = b.ws → a.rs = b.rs → a = b := by
    rintro ⟨_, _, _⟩ ⟨_, _, _⟩ ⟨⟩ ⟨⟩ ⟨⟩; rfl
  exact ext _ _ rfl h1 h2
theorem ok_law {f : Addr} {fd : FuncData} (F : Fun K "law" "law" s_law f fd) (z_list : mg "list" = none) (z_tuple : mg "tuple" = none) (z_len : mg "len" = none) (z_isinstance : mg "isinstance" = none) (c_law_rule : Cal P w K mg base 4 "_law_rule" ["_law_script"] (spRule K))
    (c_least_rule : Cal P w K mg base 6 "least_rule" ["rule"] spLeast) (c_law_is_rooms : Cal P w K mg base 2 "_law_is_rooms" ["_law_found", "_law_many"] spIsRooms) (c_law_all_unlike : Cal P w K mg base 1 "_law_all_unlike" ["_law_rooms"] spUnlike) (c_law_in_order : Cal P w K mg base 1 "_law_in_order" ["_law_rooms"] spInOrder) :
    FnOk P w K mg base CX0 7 f fd ["_law_script"] (spLaw K) := by
  refine F.ok sc_law (fun vs H Q E h => by obtain ⟨a, ns, rfl, _⟩ := h; rfl) (fun cdv A outer s H vs Q E hr h => ?_)
  obtain ⟨a, ns, rfl, hS, h63, q⟩ := h
  refine ⟨_, (pss_cons (ps_let 1 sc_law.nd (pe_cal c_law_rule hr (pa_cons (pv 0 (hv := v_law__law_script)) pa_nil) (hg := gl_law__law_rule)) (hx := l_law__law_rule_here))
      (pss_cons (ps_let 2 sc_law.nd (pe_cal c_least_rule hr (pa_cons (pe_tup (pa_cons (pe_ix (ix_K K) (pv 1 (hv := v_law__law_rule_here)) pe_int (fun _ _ => rfl)) (pa_cons (pe_bty (call_listA K) z_list bt_list (pa_cons (pe_ix (ix_K K) (pv 1 (hv := v_law__law_rule_here)) pe_int (fun _ _ => rfl)) pa_nil) (hg := gl_law_list)) (pa_cons (pe_comp (CompSc.to (fsc := (defScope s_law)) (N := ["_law_script", "_law_rule_here", "_law_found", "_law_again"]) (N0 := ["_law_script", "_law_rule_here", "_law_found", "_law_again"]) (T := ["_law_room"]) ⟨by decide +kernel, by decide +kernel, by decide +kernel, by decide +kernel, by decide +kernel, by decide +kernel, by decide +kernel⟩ rfl rfl) rfl (pi_listK K (pe_ix (ix_K K) (pv 1 (hv := v_law__law_rule_here)) pe_int (fun _ _ => rfl))) (fun _ _ _ _ => (pg_let 4 (show (["_law_script", "_law_rule_here", "_law_found", "_law_again", "_law_room"] : List Str).Nodup from by decide +kernel) (hx := (locC (defScope s_law) (by decide +kernel))) (hf := fnC (defScope s_law) (by decide +kernel)))) (gfr_name (show (["_law_script", "_law_rule_here", "_law_found", "_law_again"] : List Str).length ≤ 4 from by decide)) (fun _ _ _ _ => pifs_nil) (fun _ _ _ _ => (pe_bty (call_listA K) z_list bt_list (pa_cons (pv 4 (hv := (visC (defScope s_law) (by decide +kernel)))) pa_nil) (hg := (glC (defScope s_law) (by decide +kernel)))))) pa_nil)))) pa_nil) (hg := gl_law_least_rule)) (hx := l_law__law_found))
      (pss_cons (ps_if (PW.pt' (pw_or (pt_not (pt_val (pe_blt call_isT z_isinstance bt_isinstance (pa_cons (pv 2 (hv := v_law__law_found)) (pa_cons (pe_gty z_tuple bt_tuple (hg := gl_law_tuple)) pa_nil)) (hg := gl_law_isinstance)))) (pw_or (pt_cmpR op_neA (pe_blt (call_lenK K) z_len bt_len (pa_cons (pv 2 (hv := v_law__law_found)) pa_nil) (hg := gl_law_len)) pe_int (nomark _)) (pw_or1 (pt_not (pt_val (pe_blt call_isT z_isinstance bt_isinstance (pa_cons (pe_ix (ix_K K) (pv 2 (hv := v_law__law_found)) pe_int (fun _ _ => rfl)) (pa_cons (pe_gty z_list bt_list (hg := gl_law_list)) pa_nil)) (hg := gl_law_isinstance)))))))) (pss_one (ps_ret pe_bl)) pss_nil)
      (pss_cons (ps_if (pt_not (pt_val (pe_cal c_law_is_rooms hr (pa_cons (pe_ix (ix_K K) (pv 2 (hv := v_law__law_found)) pe_int (fun _ _ => rfl)) (pa_cons (pe_blt (call_lenK K) z_len bt_len (pa_cons (pe_ix (ix_K K) (pv 2 (hv := v_law__law_found)) pe_int (fun _ _ => rfl)) pa_nil) (hg := gl_law_len)) pa_nil)) (hg := gl_law__law_is_rooms)))) (pss_one (ps_ret pe_bl)) pss_nil)
      (pss_cons (ps_if (PW.pt' (pw_or (pt_not (pt_val (pe_cal c_law_all_unlike hr (pa_cons (pe_ix (ix_K K) (pv 2 (hv := v_law__law_found)) pe_int (fun _ _ => rfl)) pa_nil) (hg := gl_law__law_all_unlike)))) (pw_or1 (pt_not (pt_val (pe_cal c_law_in_order hr (pa_cons (pe_ix (ix_K K) (pv 2 (hv := v_law__law_found)) pe_int (fun _ _ => rfl)) pa_nil) (hg := gl_law__law_in_order))))))) (pss_one (ps_ret pe_bl)) pss_nil)
      (pss_cons (ps_let 3 sc_law.nd (pe_cal c_least_rule hr (pa_cons (pe_tup (pa_cons (pe_ix (ix_K K) (pv 2 (hv := v_law__law_found)) pe_int (fun _ _ => rfl)) (pa_cons (pe_bty (call_listA K) z_list bt_list (pa_cons (pe_ix (ix_K K) (pv 2 (hv := v_law__law_found)) pe_int (fun _ _ => rfl)) pa_nil) (hg := gl_law_list)) (pa_cons (pe_comp (CompSc.to (fsc := (defScope s_law)) (N := ["_law_script", "_law_rule_here", "_law_found", "_law_again"]) (N0 := ["_law_script", "_law_rule_here", "_law_found", "_law_again"]) (T := ["_law_room"]) ⟨by decide +kernel, by decide +kernel, by decide +kernel, by decide +kernel, by decide +kernel, by decide +kernel, by decide +kernel⟩ rfl rfl) rfl (pi_listK K (pe_ix (ix_K K) (pv 2 (hv := v_law__law_found)) pe_int (fun _ _ => rfl))) (fun _ _ _ _ => (pg_let 4 (show (["_law_script", "_law_rule_here", "_law_found", "_law_again", "_law_room"] : List Str).Nodup from by decide +kernel) (hx := (locC (defScope s_law) (by decide +kernel))) (hf := fnC (defScope s_law) (by decide +kernel)))) (gfr_name (show (["_law_script", "_law_rule_here", "_law_found", "_law_again"] : List Str).length ≤ 4 from by decide)) (fun _ _ _ _ => pifs_nil) (fun _ _ _ _ => (pe_bty (call_listA K) z_list bt_list (pa_cons (pv 4 (hv := (visC (defScope s_law) (by decide +kernel)))) pa_nil) (hg := (glC (defScope s_law) (by decide +kernel)))))) pa_nil)))) pa_nil) (hg := gl_law_least_rule)) (hx := l_law__law_again))
      (pss_one (ps_ret (pe_and (pe_blt call_isT z_isinstance bt_isinstance (pa_cons (pv 3 (hv := v_law__law_again)) (pa_cons (pe_gty z_tuple bt_tuple (hg := gl_law_tuple)) pa_nil)) (hg := gl_law_isinstance)) (pe_one (pe_cmpR (op_eqKD K hr) (pv 3 (hv := v_law__law_again)) (pv 2 (hv := v_law__law_found)) (nomark _)))))))))))), ?_⟩
  walk_at "rd1"
  refine ⟨a, ns, rfl, hS, h63, fun p H1 r sm1 hR ok => ?_⟩
  have hR0 := hR
  obtain ⟨pw, pr, as, h1, h2, h3⟩ := hR0
  walk_at "nx"
  refine ⟨_, _, .inr (SqT.of h1), rfl, ?_⟩
  refine ⟨_, _, .inr (SqT.of h1), rfl, ?_⟩
  walk_at "rd1"
  refine ⟨_, .inl (SqL.of h2), fun wl hwl => ?_⟩
  generalize hH3 : upd H1 wl _ = H3
  have sm3 := al_same hH3 hwl
  have e3 := al_at hH3
  refine ⟨_, _, .inr (SqT.of (sm3 _ _ h1)), rfl, ?_⟩
  have h3' := h3.mono sm3
  walk_at "rd1"
  refine ⟨⟨_, SqL.of h3'.1⟩, fun L hL => ?_⟩
  refine copy_rooms h3' ok.n1 hL (fun a xs H' C z1 z2 => ?_) (fun H4 bs sm4 hB _ _ => ?_)
  · walk_at "rd1"
    exact ⟨_, .inl (SqL.of z1), z2⟩
  walk_at "rd1"
  refine ⟨by decide, fun hp hhp => ?_⟩
  generalize hH5 : upd H4 hp _ = H5
  have sm5 := al_same hH5 hhp
  have e5 := al_at hH5
  have hD : RuleAt H5 hp r := ⟨wl, L, bs, e5, sm5 _ _ (sm4 _ _ e3), hB.mono sm5⟩
  refine ⟨hp, r, rfl, hD, ok, fun fq fw fr H6 fs sm6 g1 g2 g3 _ _ _ _ _ => ?_⟩
  have ok2 := least_ok ok
  have g3' := g3.at'
  have hF : RuleAt H6 fq (leastR r) := ⟨fw, fr, fs, g1, g2, g3'⟩
  walk_at "nx"
  refine ⟨"tuple", by simp [tyName, g1], by decide, ?_⟩
  refine ite2 (fun c => absurd c (by decide)) (fun c => ?_)
  refine ⟨_, .inr (SqT.of g1), ?_⟩
  refine ite2 (fun c => absurd c (by simp)) (fun c => ?_)
  refine ⟨_, _, .inr (SqT.of g1), rfl, "list", by simp [tyName, g2], by decide, ?_⟩
  refine ite2 (fun c => absurd c (by decide)) (fun c => ?_)
  walk_at "nx"
  refine ⟨_, _, .inr (SqT.of g1), rfl, ?_⟩
  refine ⟨_, _, .inr (SqT.of g1), rfl, ?_⟩
  walk_at "rd1"
  refine ⟨_, .inl (SqL.of g2), ?_⟩
  rw [List.length_map]
  refine ⟨fr, (leastR r).rs, fs, (leastR r).ws.length, rfl, g3', rl_rms ok2, fun H7 sm7 => ?_⟩
  refine ⟨_, rfl, ?_⟩
  refine ite2 (fun c => absurd c (by decide)) (fun c => ?_)
  have g17 := sm7 _ _ g1
  have g37 := g3'.mono sm7
  walk_at "nx"
  refine ⟨_, _, .inr (SqT.of g17), rfl, ?_⟩
  refine ⟨fr, (leastR r).rs, fs, (leastR r).ws.length, rfl, g37, rl_rms ok2, least_kinds ok, fun H8 sm8 => ?_⟩
  have g18 := sm8 _ _ g17
  have g38 := g37.mono sm8
  refine ⟨_, rfl, ?_⟩
  refine ite2 (fun c => absurd c (by decide)) (fun c => ?_)
  walk_at "rd1"
  refine ⟨_, _, .inr (SqT.of g18), rfl, ?_⟩
  refine ⟨fr, (leastR r).rs, fs, (leastR r).ws.length, rfl, g38, rl_rms ok2, least_inorder ok, ?_⟩
  refine ⟨_, rfl, ?_⟩
  refine ite2 (fun c => absurd c (by decide)) (fun c => ?_)
  have hF8 : RuleAt H8 fq (leastR r) := (hF.mono sm7).mono sm8
  have g28 := sm8 _ _ (sm7 _ _ g2)
  walk_at "nx"
  refine ⟨_, _, .inr (SqT.of g18), rfl, ?_⟩
  refine ⟨_, _, .inr (SqT.of g18), rfl, ?_⟩
  walk_at "rd1"
  refine ⟨_, .inl (SqL.of g28), fun wl' hwl' => ?_⟩
  generalize hH9 : upd H8 wl' _ = H9
  have sm9 := al_same hH9 hwl'
  have e9 := al_at hH9
  refine ⟨_, _, .inr (SqT.of (sm9 _ _ g18)), rfl, ?_⟩
  have g39 := g38.mono sm9
  walk_at "rd1"
  refine ⟨⟨_, SqL.of g39.1⟩, fun L' hL' => ?_⟩
  refine copy_rooms g39 ok2.n1 hL' (fun a xs H' C z1 z2 => ?_) (fun Ha bs' sma hB' _ _ => ?_)
  · walk_at "rd1"
    exact ⟨_, .inl (SqL.of z1), z2⟩
  walk_at "rd1"
  refine ⟨by decide, fun hp' hhp' => ?_⟩
  generalize hHb : upd Ha hp' _ = Hb
  have smb := al_same hHb hhp'
  have eb := al_at hHb
  have hD' : RuleAt Hb hp' (leastR r) := ⟨wl', L', bs', eb, smb _ _ (sma _ _ e9), hB'.mono smb⟩
  have hFb : RuleAt Hb fq (leastR r) := hF8.mono ((sm9.trans sma).trans smb)
  refine ⟨hp', leastR r, rfl, hD', ok2, fun aq aw ar Hc cs smc k1 k2 k3 _ _ _ _ _ => ?_⟩
  have hA : RuleAt Hc aq (leastR r) := by
    rw [← least_again ok]
    exact ⟨aw, ar, cs, k1, k2, k3.at'⟩
  have hFc := hFb.mono smc
  walk_at "nx"
  refine ⟨"tuple", by simp [tyName, k1], by decide, ?_⟩
  refine ite2 (fun c => ?_) (fun c => absurd (by decide) c)
  exact ⟨2, true, by decide, rule_eq hA hFc, q _⟩
end
theorem all_mk {l : PySem.W.OpenLaw} {w : World} {K : PySem.W.Frag} {h : Heap} {mg : Str → Option Value} {fa : Addr} (X : K.In h) (G : h.Ns mainGlobals mg) (hfa : mg "law" = some (.ref fa))
    {f0 : Addr} {od0 an0 : Option Addr} {sl0 : Array (Option Value)} {oc0 kV0 dc0 pm0 cd0 ct0 : Value} {f1 : Addr} {od1 an1 : Option Addr} {sl1 : Array (Option Value)} {oc1 kV1 dc1 pm1 cd1 ct1 : Value} {f2 : Addr} {od2 an2 : Option Addr} {sl2 : Array (Option Value)} {oc2 kV2 dc2 pm2 cd2 ct2 : Value} {f3 : Addr} {od3 an3 : Option Addr} {sl3 : Array (Option Value)} {oc3 kV3 dc3 pm3 cd3 ct3 : Value} {f4 : Addr} {od4 an4 : Option Addr} {sl4 : Array (Option Value)} {oc4 kV4 dc4 pm4 cd4 ct4 : Value} {f5 : Addr} {od5 an5 : Option Addr} {sl5 : Array (Option Value)} {oc5 kV5 dc5 pm5 cd5 ct5 : Value} {f6 : Addr} {od6 an6 : Option Addr} {sl6 : Array (Option Value)} {oc6 kV6 dc6 pm6 cd6 ct6 : Value} {f7 : Addr} {od7 an7 : Option Addr} {sl7 : Array (Option Value)} {oc7 kV7 dc7 pm7 cd7 ct7 : Value} {f8 : Addr} {od8 an8 : Option Addr} {sl8 : Array (Option Value)} {oc8 kV8 dc8 pm8 cd8 ct8 : Value} {f9 : Addr} {od9 an9 : Option Addr} {sl9 : Array (Option Value)} {oc9 kV9 dc9 pm9 cd9 ct9 : Value} {f10 : Addr} {od10 an10 : Option Addr} {sl10 : Array (Option Value)} {oc10 kV10 dc10 pm10 cd10 ct10 : Value} {f11 : Addr} {od11 an11 : Option Addr} {sl11 : Array (Option Value)} {oc11 kV11 dc11 pm11 cd11 ct11 : Value} {f12 : Addr} {od12 an12 : Option Addr} {sl12 : Array (Option Value)} {oc12 kV12 dc12 pm12 cd12 ct12 : Value} {f13 : Addr} {od13 an13 : Option Addr} {sl13 : Array (Option Value)} {oc13 kV13 dc13 pm13 cd13 ct13 : Value} {f14 : Addr} {od14 an14 : Option Addr} {sl14 : Array (Option Value)} {oc14 kV14 dc14 pm14 cd14 ct14 : Value} {f15 : Addr} {od15 an15 : Option Addr} {sl15 : Array (Option Value)} {oc15 kV15 dc15 pm15 cd15 ct15 : Value} {f16 : Addr} {od16 an16 : Option Addr} {sl16 : Array (Option Value)} {oc16 kV16 dc16 pm16 cd16 ct16 : Value} {f17 : Addr} {od17 an17 : Option Addr} {sl17 : Array (Option Value)} {oc17 kV17 dc17 pm17 cd17 ct17 : Value} {f18 : Addr} {od18 an18 : Option Addr} {sl18 : Array (Option Value)} {oc18 kV18 dc18 pm18 cd18 ct18 : Value} {f19 : Addr} {od19 an19 : Option Addr} {sl19 : Array (Option Value)} {oc19 kV19 dc19 pm19 cd19 ct19 : Value} {f20 : Addr} {od20 an20 : Option Addr} {sl20 : Array (Option Value)} {oc20 kV20 dc20 pm20 cd20 ct20 : Value}
    (a0 : PySem.W.nsIn K mainGlobals "ways_by" = some (some (.ref f0))) (l0 : K.lookup f0 = some ⟨oc0, od0, .func (PySem.W.fnOf "ways_by" "ways_by" (defArgs s_ways_by) (defBody s_ways_by) (defScope s_ways_by) .none kV0 dc0 pm0 an0 cd0 ct0), sl0⟩) (c0 : PySem.W.codeIn K cd0 "ways_by" = true) (k0 : PySem.W.keepIn K (.ref f0) = true)
    (a1 : PySem.W.nsIn K mainGlobals "finer_kinds" = some (some (.ref f1))) (l1 : K.lookup f1 = some ⟨oc1, od1, .func (PySem.W.fnOf "finer_kinds" "finer_kinds" (defArgs s_finer_kinds) (defBody s_finer_kinds) (defScope s_finer_kinds) .none kV1 dc1 pm1 an1 cd1 ct1), sl1⟩) (c1 : PySem.W.codeIn K cd1 "finer_kinds" = true) (k1 : PySem.W.keepIn K (.ref f1) = true)
    (a2 : PySem.W.nsIn K mainGlobals "kinds_upto" = some (some (.ref f2))) (l2 : K.lookup f2 = some ⟨oc2, od2, .func (PySem.W.fnOf "kinds_upto" "kinds_upto" (defArgs s_kinds_upto) (defBody s_kinds_upto) (defScope s_kinds_upto) .none kV2 dc2 pm2 an2 cd2 ct2), sl2⟩) (c2 : PySem.W.codeIn K cd2 "kinds_upto" = true) (k2 : PySem.W.keepIn K (.ref f2) = true)
    (a3 : PySem.W.nsIn K mainGlobals "merged_rooms" = some (some (.ref f3))) (l3 : K.lookup f3 = some ⟨oc3, od3, .func (PySem.W.fnOf "merged_rooms" "merged_rooms" (defArgs s_merged_rooms) (defBody s_merged_rooms) (defScope s_merged_rooms) .none kV3 dc3 pm3 an3 cd3 ct3), sl3⟩) (c3 : PySem.W.codeIn K cd3 "merged_rooms" = true) (k3 : PySem.W.keepIn K (.ref f3) = true)
    (a4 : PySem.W.nsIn K mainGlobals "rooms_led_to" = some (some (.ref f4))) (l4 : K.lookup f4 = some ⟨oc4, od4, .func (PySem.W.fnOf "rooms_led_to" "rooms_led_to" (defArgs s_rooms_led_to) (defBody s_rooms_led_to) (defScope s_rooms_led_to) .none kV4 dc4 pm4 an4 cd4 ct4), sl4⟩) (c4 : PySem.W.codeIn K cd4 "rooms_led_to" = true) (k4 : PySem.W.keepIn K (.ref f4) = true)
    (a5 : PySem.W.nsIn K mainGlobals "numbered_rooms" = some (some (.ref f5))) (l5 : K.lookup f5 = some ⟨oc5, od5, .func (PySem.W.fnOf "numbered_rooms" "numbered_rooms" (defArgs s_numbered_rooms) (defBody s_numbered_rooms) (defScope s_numbered_rooms) .none kV5 dc5 pm5 an5 cd5 ct5), sl5⟩) (c5 : PySem.W.codeIn K cd5 "numbered_rooms" = true) (k5 : PySem.W.keepIn K (.ref f5) = true)
    (a6 : PySem.W.nsIn K mainGlobals "does_something" = some (some (.ref f6))) (l6 : K.lookup f6 = some ⟨oc6, od6, .func (PySem.W.fnOf "does_something" "does_something" (defArgs s_does_something) (defBody s_does_something) (defScope s_does_something) .none kV6 dc6 pm6 an6 cd6 ct6), sl6⟩) (c6 : PySem.W.codeIn K cd6 "does_something" = true) (k6 : PySem.W.keepIn K (.ref f6) = true)
    (a7 : PySem.W.nsIn K mainGlobals "picked" = some (some (.ref f7))) (l7 : K.lookup f7 = some ⟨oc7, od7, .func (PySem.W.fnOf "picked" "picked" (defArgs s_picked) (defBody s_picked) (defScope s_picked) .none kV7 dc7 pm7 an7 cd7 ct7), sl7⟩) (c7 : PySem.W.codeIn K cd7 "picked" = true) (k7 : PySem.W.keepIn K (.ref f7) = true)
    (a8 : PySem.W.nsIn K mainGlobals "least_upto" = some (some (.ref f8))) (l8 : K.lookup f8 = some ⟨oc8, od8, .func (PySem.W.fnOf "least_upto" "least_upto" (defArgs s_least_upto) (defBody s_least_upto) (defScope s_least_upto) .none kV8 dc8 pm8 an8 cd8 ct8), sl8⟩) (c8 : PySem.W.codeIn K cd8 "least_upto" = true) (k8 : PySem.W.keepIn K (.ref f8) = true)
    (a9 : PySem.W.nsIn K mainGlobals "least_rule" = some (some (.ref f9))) (l9 : K.lookup f9 = some ⟨oc9, od9, .func (PySem.W.fnOf "least_rule" "least_rule" (defArgs s_least_rule) (defBody s_least_rule) (defScope s_least_rule) .none kV9 dc9 pm9 an9 cd9 ct9), sl9⟩) (c9 : PySem.W.codeIn K cd9 "least_rule" = true) (k9 : PySem.W.keepIn K (.ref f9) = true)
    (a10 : PySem.W.nsIn K mainGlobals "_law_cell_at" = some (some (.ref f10))) (l10 : K.lookup f10 = some ⟨oc10, od10, .func (PySem.W.fnOf "_law_cell_at" "_law_cell_at" (defArgs s_law_cell_at) (defBody s_law_cell_at) (defScope s_law_cell_at) .none kV10 dc10 pm10 an10 cd10 ct10), sl10⟩) (c10 : PySem.W.codeIn K cd10 "_law_cell_at" = true) (k10 : PySem.W.keepIn K (.ref f10) = true)
    (a11 : PySem.W.nsIn K mainGlobals "_law_mixed" = some (some (.ref f11))) (l11 : K.lookup f11 = some ⟨oc11, od11, .func (PySem.W.fnOf "_law_mixed" "_law_mixed" (defArgs s_law_mixed) (defBody s_law_mixed) (defScope s_law_mixed) .none kV11 dc11 pm11 an11 cd11 ct11), sl11⟩) (c11 : PySem.W.codeIn K cd11 "_law_mixed" = true) (k11 : PySem.W.keepIn K (.ref f11) = true)
    (a12 : PySem.W.nsIn K mainGlobals "_law_words" = some (some (.ref f12))) (l12 : K.lookup f12 = some ⟨oc12, od12, .func (PySem.W.fnOf "_law_words" "_law_words" (defArgs s_law_words) (defBody s_law_words) (defScope s_law_words) .none kV12 dc12 pm12 an12 cd12 ct12), sl12⟩) (c12 : PySem.W.codeIn K cd12 "_law_words" = true) (k12 : PySem.W.keepIn K (.ref f12) = true)
    (a13 : PySem.W.nsIn K mainGlobals "_law_way" = some (some (.ref f13))) (l13 : K.lookup f13 = some ⟨oc13, od13, .func (PySem.W.fnOf "_law_way" "_law_way" (defArgs s_law_way) (defBody s_law_way) (defScope s_law_way) .none kV13 dc13 pm13 an13 cd13 ct13), sl13⟩) (c13 : PySem.W.codeIn K cd13 "_law_way" = true) (k13 : PySem.W.keepIn K (.ref f13) = true)
    (a14 : PySem.W.nsIn K mainGlobals "_law_shaped" = some (some (.ref f14))) (l14 : K.lookup f14 = some ⟨oc14, od14, .func (PySem.W.fnOf "_law_shaped" "_law_shaped" (defArgs s_law_shaped) (defBody s_law_shaped) (defScope s_law_shaped) .none kV14 dc14 pm14 an14 cd14 ct14), sl14⟩) (c14 : PySem.W.codeIn K cd14 "_law_shaped" = true) (k14 : PySem.W.keepIn K (.ref f14) = true)
    (a15 : PySem.W.nsIn K mainGlobals "_law_rule" = some (some (.ref f15))) (l15 : K.lookup f15 = some ⟨oc15, od15, .func (PySem.W.fnOf "_law_rule" "_law_rule" (defArgs s_law_rule) (defBody s_law_rule) (defScope s_law_rule) .none kV15 dc15 pm15 an15 cd15 ct15), sl15⟩) (c15 : PySem.W.codeIn K cd15 "_law_rule" = true) (k15 : PySem.W.keepIn K (.ref f15) = true)
    (a16 : PySem.W.nsIn K mainGlobals "_law_is_way" = some (some (.ref f16))) (l16 : K.lookup f16 = some ⟨oc16, od16, .func (PySem.W.fnOf "_law_is_way" "_law_is_way" (defArgs s_law_is_way) (defBody s_law_is_way) (defScope s_law_is_way) .none kV16 dc16 pm16 an16 cd16 ct16), sl16⟩) (c16 : PySem.W.codeIn K cd16 "_law_is_way" = true) (k16 : PySem.W.keepIn K (.ref f16) = true)
    (a17 : PySem.W.nsIn K mainGlobals "_law_is_rooms" = some (some (.ref f17))) (l17 : K.lookup f17 = some ⟨oc17, od17, .func (PySem.W.fnOf "_law_is_rooms" "_law_is_rooms" (defArgs s_law_is_rooms) (defBody s_law_is_rooms) (defScope s_law_is_rooms) .none kV17 dc17 pm17 an17 cd17 ct17), sl17⟩) (c17 : PySem.W.codeIn K cd17 "_law_is_rooms" = true) (k17 : PySem.W.keepIn K (.ref f17) = true)
    (a18 : PySem.W.nsIn K mainGlobals "_law_all_unlike" = some (some (.ref f18))) (l18 : K.lookup f18 = some ⟨oc18, od18, .func (PySem.W.fnOf "_law_all_unlike" "_law_all_unlike" (defArgs s_law_all_unlike) (defBody s_law_all_unlike) (defScope s_law_all_unlike) .none kV18 dc18 pm18 an18 cd18 ct18), sl18⟩) (c18 : PySem.W.codeIn K cd18 "_law_all_unlike" = true) (k18 : PySem.W.keepIn K (.ref f18) = true)
    (a19 : PySem.W.nsIn K mainGlobals "_law_in_order" = some (some (.ref f19))) (l19 : K.lookup f19 = some ⟨oc19, od19, .func (PySem.W.fnOf "_law_in_order" "_law_in_order" (defArgs s_law_in_order) (defBody s_law_in_order) (defScope s_law_in_order) .none kV19 dc19 pm19 an19 cd19 ct19), sl19⟩) (c19 : PySem.W.codeIn K cd19 "_law_in_order" = true) (k19 : PySem.W.keepIn K (.ref f19) = true)
    (a20 : PySem.W.nsIn K mainGlobals "law" = some (some (.ref f20))) (l20 : K.lookup f20 = some ⟨oc20, od20, .func (PySem.W.fnOf "law" "law" (defArgs s_law) (defBody s_law) (defScope s_law) .none kV20 dc20 pm20 an20 cd20 ct20), sl20⟩) (c20 : PySem.W.codeIn K cd20 "law" = true) (k20 : PySem.W.keepIn K (.ref f20) = true)
    (y_isinstance : PySem.W.nsIn K mainGlobals "isinstance" = some none)
    (y_str : PySem.W.nsIn K mainGlobals "str" = some none)
    (y_len : PySem.W.nsIn K mainGlobals "len" = some none)
    (y_range : PySem.W.nsIn K mainGlobals "range" = some none)
    (y_int : PySem.W.nsIn K mainGlobals "int" = some none)
    (y_list : PySem.W.nsIn K mainGlobals "list" = some none)
    (y_sorted : PySem.W.nsIn K mainGlobals "sorted" = some none)
    (y_min : PySem.W.nsIn K mainGlobals "min" = some none)
    (y_tuple : PySem.W.nsIn K mainGlobals "tuple" = some none)
    (y_enumerate : PySem.W.nsIn K mainGlobals "enumerate" = some none)
    (y_any : PySem.W.nsIn K mainGlobals "any" = some none)
    (y_bool : PySem.W.nsIn K mainGlobals "bool" = some none)
    (y_max : PySem.W.nsIn K mainGlobals "max" = some none) :
    ∃ fd : FuncData, (∀ (s : Shared) (v : Value), BindsTo s fd ⟨[v], []⟩ [("_law_script", v)]) ∧ ∀ base : Heap, K.In base → base.Ns mainGlobals mg → FnOk l.prog w K mg base CX0 7 fa fd ["_law_script"] (spLaw K) := by
  have e := hfa.symm.trans (PySem.W.mg_of X G a20)
  cases e
  have D_ways_by : DefAt K mg "ways_by" s_ways_by := ⟨f0, _, fun_mk (st := s_ways_by) l0 c0 k0, PySem.W.mg_of X G a0⟩
  have D_finer_kinds : DefAt K mg "finer_kinds" s_finer_kinds := ⟨f1, _, fun_mk (st := s_finer_kinds) l1 c1 k1, PySem.W.mg_of X G a1⟩
  have D_kinds_upto : DefAt K mg "kinds_upto" s_kinds_upto := ⟨f2, _, fun_mk (st := s_kinds_upto) l2 c2 k2, PySem.W.mg_of X G a2⟩
  have D_merged_rooms : DefAt K mg "merged_rooms" s_merged_rooms := ⟨f3, _, fun_mk (st := s_merged_rooms) l3 c3 k3, PySem.W.mg_of X G a3⟩
  have D_rooms_led_to : DefAt K mg "rooms_led_to" s_rooms_led_to := ⟨f4, _, fun_mk (st := s_rooms_led_to) l4 c4 k4, PySem.W.mg_of X G a4⟩
  have D_numbered_rooms : DefAt K mg "numbered_rooms" s_numbered_rooms := ⟨f5, _, fun_mk (st := s_numbered_rooms) l5 c5 k5, PySem.W.mg_of X G a5⟩
  have D_does_something : DefAt K mg "does_something" s_does_something := ⟨f6, _, fun_mk (st := s_does_something) l6 c6 k6, PySem.W.mg_of X G a6⟩
  have D_picked : DefAt K mg "picked" s_picked := ⟨f7, _, fun_mk (st := s_picked) l7 c7 k7, PySem.W.mg_of X G a7⟩
  have D_least_upto : DefAt K mg "least_upto" s_least_upto := ⟨f8, _, fun_mk (st := s_least_upto) l8 c8 k8, PySem.W.mg_of X G a8⟩
  have D_least_rule : DefAt K mg "least_rule" s_least_rule := ⟨f9, _, fun_mk (st := s_least_rule) l9 c9 k9, PySem.W.mg_of X G a9⟩
  have D_law_cell_at : DefAt K mg "_law_cell_at" s_law_cell_at := ⟨f10, _, fun_mk (st := s_law_cell_at) l10 c10 k10, PySem.W.mg_of X G a10⟩
  have D_law_mixed : DefAt K mg "_law_mixed" s_law_mixed := ⟨f11, _, fun_mk (st := s_law_mixed) l11 c11 k11, PySem.W.mg_of X G a11⟩
  have D_law_words : DefAt K mg "_law_words" s_law_words := ⟨f12, _, fun_mk (st := s_law_words) l12 c12 k12, PySem.W.mg_of X G a12⟩
  have D_law_way : DefAt K mg "_law_way" s_law_way := ⟨f13, _, fun_mk (st := s_law_way) l13 c13 k13, PySem.W.mg_of X G a13⟩
  have D_law_shaped : DefAt K mg "_law_shaped" s_law_shaped := ⟨f14, _, fun_mk (st := s_law_shaped) l14 c14 k14, PySem.W.mg_of X G a14⟩
  have D_law_rule : DefAt K mg "_law_rule" s_law_rule := ⟨f15, _, fun_mk (st := s_law_rule) l15 c15 k15, PySem.W.mg_of X G a15⟩
  have D_law_is_way : DefAt K mg "_law_is_way" s_law_is_way := ⟨f16, _, fun_mk (st := s_law_is_way) l16 c16 k16, PySem.W.mg_of X G a16⟩
  have D_law_is_rooms : DefAt K mg "_law_is_rooms" s_law_is_rooms := ⟨f17, _, fun_mk (st := s_law_is_rooms) l17 c17 k17, PySem.W.mg_of X G a17⟩
  have D_law_all_unlike : DefAt K mg "_law_all_unlike" s_law_all_unlike := ⟨f18, _, fun_mk (st := s_law_all_unlike) l18 c18 k18, PySem.W.mg_of X G a18⟩
  have D_law_in_order : DefAt K mg "_law_in_order" s_law_in_order := ⟨f19, _, fun_mk (st := s_law_in_order) l19 c19 k19, PySem.W.mg_of X G a19⟩
  have z_isinstance : mg "isinstance" = none := PySem.W.mg_none_of X G y_isinstance
  have z_str : mg "str" = none := PySem.W.mg_none_of X G y_str
  have z_len : mg "len" = none := PySem.W.mg_none_of X G y_len
  have z_range : mg "range" = none := PySem.W.mg_none_of X G y_range
  have z_int : mg "int" = none := PySem.W.mg_none_of X G y_int
  have z_list : mg "list" = none := PySem.W.mg_none_of X G y_list
  have z_sorted : mg "sorted" = none := PySem.W.mg_none_of X G y_sorted
  have z_min : mg "min" = none := PySem.W.mg_none_of X G y_min
  have z_tuple : mg "tuple" = none := PySem.W.mg_none_of X G y_tuple
  have z_enumerate : mg "enumerate" = none := PySem.W.mg_none_of X G y_enumerate
  have z_any : mg "any" = none := PySem.W.mg_none_of X G y_any
  have z_bool : mg "bool" = none := PySem.W.mg_none_of X G y_bool
  have z_max : mg "max" = none := PySem.W.mg_none_of X G y_max
  have F := fun_mk (st := s_law) l20 c20 k20
  refine ⟨PySem.W.fnOf "law" "law" (defArgs s_law) (defBody s_law) (defScope s_law) .none kV20 dc20 pm20 an20 cd20 ct20, fun s v => .of_eq rfl, fun base _ _ => ?_⟩
  have c1 := ok_cell (P := l.prog) (w := w) (base := base) D_law_cell_at z_len
  have c2 := ok_mixed (P := l.prog) (w := w) (base := base) D_law_mixed z_range
  have c4 := ok_words D_law_words z_range z_sorted z_str z_int c2
  have c5 := ok_rule D_law_rule z_range z_min z_len c1 c4 c2 (ok_shaped D_law_shaped z_range z_len z_list c2) (ok_way D_law_way)
  have d1 := ok_ways_by (P := l.prog) (w := w) (base := base) D_ways_by
  have d2 := ok_finer D_finer_kinds z_enumerate z_tuple z_len d1
  have d3 := ok_kinds D_kinds_upto z_max d2
  have d4 := ok_merged D_merged_rooms z_enumerate z_len d1
  have d5 := ok_numbered D_numbered_rooms z_enumerate (ok_led D_rooms_led_to z_len) d1
  have d6 := ok_least D_least_rule z_len <| ok_upto D_least_upto z_range z_len d3 d4 d5 (ok_does D_does_something z_enumerate z_any) (ok_picked D_picked)
  exact ok_law F z_list z_tuple z_len z_isinstance c5 d6 (ok_is_rooms D_law_is_rooms z_isinstance z_list z_len (ok_is_way D_law_is_way z_isinstance z_int z_bool)) (ok_unlike D_law_all_unlike z_range z_len z_tuple) (ok_in_order D_law_in_order z_range z_len)
theorem walk {l : PySem.W.OpenLaw} {q : Program} {loose : List Str} {XP : (Str → Option Value) → Heap → Prop} {YP : World → Heap → Prop} {d : DefRec} {K : Params → PySem.W.Frag} (hn : l.most = some 63) (hdf : d.params.defaults = [])
    (hY : ∀ (w : World) (h : Heap), YP w h → (K w.params).In h)
    (F : ∀ (w : World) (mg : Str → Option Value) (fa : Addr) (h : Heap), (K w.params).In h → h.Ns mainGlobals mg → mg d.name = some (.ref fa) →
      ∃ fd : FuncData, (∀ (s : Shared) (u : Value), BindsTo s fd ⟨[u], []⟩ [("_law_script", u)]) ∧ ∀ base : Heap, (K w.params).In base → base.Ns mainGlobals mg → FnOk l.prog w (K w.params) mg base CX0 7 fa fd ["_law_script"] (spLaw (K w.params))) :
    PySem.W.WalkO q loose XP YP l.row.toRowW d [] (fun f vs => PySem.call f vs) :=
  L2.walk_of (n := 63) (k := 7) (x := "_law_script") (CX := fun _ => CX0) (sp := fun w => spLaw (K w.params)) hn (by decide) hdf ⟨rfl, by decide, by decide⟩ hY F (fun _ _ a ns hl _ hS => ⟨a, ns, rfl, hS, hl, fun _ => rfl⟩) fun _ _ _ _ _ z => z
end K11
end
open PySem PySem.W PyProof.Rows
set_option maxRecDepth 100000 in
set_option maxHeartbeats 0 in
theorem PySem.Challenge.cw_usewarden_k11_no_two_rooms_alike_holds : PySem.Challenge.rw_usewarden_k11_no_two_rooms_alike.Holds := by
  w_on; o_law; k_head; (case hw => w_witness2)
  k_fill
  refine K11.walk (l := PySem.Challenge.rw_usewarden_k11_no_two_rooms_alike) rfl rfl (fun w h Y => PySem.W.kIn_of Y) ?F
  case F =>
    intro w mg fa h KX G hmg
    refine' K11.all_mk KX G hmg ?a0 ?l0 ?c0 ?k0 ?a1 ?l1 ?c1 ?k1 ?a2 ?l2 ?c2 ?k2 ?a3 ?l3 ?c3 ?k3 ?a4 ?l4 ?c4 ?k4 ?a5 ?l5 ?c5 ?k5 ?a6 ?l6 ?c6 ?k6 ?a7 ?l7 ?c7 ?k7 ?a8 ?l8 ?c8 ?k8 ?a9 ?l9 ?c9 ?k9 ?a10 ?l10 ?c10 ?k10 ?a11 ?l11 ?c11 ?k11 ?a12 ?l12 ?c12 ?k12 ?a13 ?l13 ?c13 ?k13 ?a14 ?l14 ?c14 ?k14 ?a15 ?l15 ?c15 ?k15 ?a16 ?l16 ?c16 ?k16 ?a17 ?l17 ?c17 ?k17 ?a18 ?l18 ?c18 ?k18 ?a19 ?l19 ?c19 ?k19 ?a20 ?l20 ?c20 ?k20 ?y_isinstance ?y_str ?y_len ?y_range ?y_int ?y_list ?y_sorted ?y_min ?y_tuple ?y_enumerate ?y_any ?y_bool ?y_max
    (case a0 => k_is)
    (case l0 => k_is)
    (case c0 => k_is)
    (case k0 => k_is)
    (case a1 => k_is)
    (case l1 => k_is)
    (case c1 => k_is)
    (case k1 => k_is)
    (case a2 => k_is)
    (case l2 => k_is)
    (case c2 => k_is)
    (case k2 => k_is)
    (case a3 => k_is)
    (case l3 => k_is)
    (case c3 => k_is)
    (case k3 => k_is)
    (case a4 => k_is)
    (case l4 => k_is)
    (case c4 => k_is)
    (case k4 => k_is)
    (case a5 => k_is)
    (case l5 => k_is)
    (case c5 => k_is)
    (case k5 => k_is)
    (case a6 => k_is)
    (case l6 => k_is)
    (case c6 => k_is)
    (case k6 => k_is)
    (case a7 => k_is)
    (case l7 => k_is)
    (case c7 => k_is)
    (case k7 => k_is)
    (case a8 => k_is)
    (case l8 => k_is)
    (case c8 => k_is)
    (case k8 => k_is)
    (case a9 => k_is)
    (case l9 => k_is)
    (case c9 => k_is)
    (case k9 => k_is)
    (case a10 => k_is)
    (case l10 => k_is)
    (case c10 => k_is)
    (case k10 => k_is)
    (case a11 => k_is)
    (case l11 => k_is)
    (case c11 => k_is)
    (case k11 => k_is)
    (case a12 => k_is)
    (case l12 => k_is)
    (case c12 => k_is)
    (case k12 => k_is)
    (case a13 => k_is)
    (case l13 => k_is)
    (case c13 => k_is)
    (case k13 => k_is)
    (case a14 => k_is)
    (case l14 => k_is)
    (case c14 => k_is)
    (case k14 => k_is)
    (case a15 => k_is)
    (case l15 => k_is)
    (case c15 => k_is)
    (case k15 => k_is)
    (case a16 => k_is)
    (case l16 => k_is)
    (case c16 => k_is)
    (case k16 => k_is)
    (case a17 => k_is)
    (case l17 => k_is)
    (case c17 => k_is)
    (case k17 => k_is)
    (case a18 => k_is)
    (case l18 => k_is)
    (case c18 => k_is)
    (case k18 => k_is)
    (case a19 => k_is)
    (case l19 => k_is)
    (case c19 => k_is)
    (case k19 => k_is)
    (case a20 => k_is)
    (case l20 => k_is)
    (case c20 => k_is)
    (case k20 => k_is)
    (case y_isinstance => k_is)
    (case y_str => k_is)
    (case y_len => k_is)
    (case y_range => k_is)
    (case y_int => k_is)
    (case y_list => k_is)
    (case y_sorted => k_is)
    (case y_min => k_is)
    (case y_tuple => k_is)
    (case y_enumerate => k_is)
    (case y_any => k_is)
    (case y_bool => k_is)
    (case y_max => k_is)
#print axioms PySem.Challenge.cw_usewarden_k11_no_two_rooms_alike_holds
