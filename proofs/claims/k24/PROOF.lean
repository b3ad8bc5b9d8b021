import PyProof.Rows.All
import Wide.All
import OpenK.AllK
import Wide.FinOn
import Lean
import PyProof.EqAt
import PyProof.EqKinds
import PyProof.TupleCall
import PyProof.SetScanFacts
import PyProof.SetKind
import PyProof.SetRoads
import PyProof.Rows.SetFrom
import PyProof.FactsBase
import PyProof.TableTree
import PyProof.FactsTree
import PyProof.PlainAttrs
import PyProof.FactsAll.set_1
import PyProof.CollectIter
import PyProof.FactsAll.set
import PyProof.ZipIter
import PyProof.EnumIter
import PyProof.TupleIter
import KE.KRevIter
import KE.KDictList
import PyProof.Rows.SumAny
import KE.KIntText
import PyProof.StrLawsTight
import PyProof.StrLawsChain
import PyProof.Rows.SortStr
import PyProof.Rows.StrNews2
import PyProof.StrLawsFirst
import PyProof.AutoSeq1
import PySem.Challenge.RW_usewarden_k24_no_programs
-- CHANGE: your row's module here, as the last of these rows
set_option Elab.async false
set_option linter.all false
set_option maxRecDepth 100000
/-! THE HAND LAYER, for ints, bools, texts, own classes, LISTS and tuples (index, slices, in, append, pop ..), calls, loops. Paste it whole ahead of your own text; what your proof does not reach may be deleted. -/
namespace L2
open PySem PySem.Spec PyProof.Rows

/-- a key: an int or a str -/
abbrev Key := Sum Int Str
def keyIs : Key → Value → Bool
  | .inl k, v => Value.isInt k v
  | .inr x, v => Value.isStrOf x v
def keyH (w : World) : Key → Int
  | .inl k => hashInt k
  | .inr x => hashStr w x
theorem keyIs_shape : ∀ {k : Key} {v : Value}, keyIs k v = true → (∃ i t, k = Sum.inl i ∧ v = Value.int i t) ∨ (∃ x t, k = Sum.inr x ∧ v = Value.str x t)
  | .inl i, v, h => by
    obtain ⟨t, e⟩ := Value.isInt_shape (k := i) (v := v) h
    exact .inl ⟨i, t, rfl, e⟩
  | .inr x, v, h => by
    obtain ⟨t, e⟩ := Value.isStrOf_shape (x := x) (v := v) h
    exact .inr ⟨x, t, rfl, e⟩
theorem keyIs_int (i : Int) (t : Tok) : keyIs (.inl i) (.int i t) = true := by simp [keyIs, Value.isInt]
theorem keyIs_str (x : Str) (t : Tok) : keyIs (.inr x) (.str x t) = true := by simp [keyIs, Value.isStrOf]
theorem key_ll (a b : Int) : decide ((Sum.inl a : Key) = Sum.inl b) = (a == b) := by
  by_cases e : a = b
  · subst e; simp
  · have h : ¬ (Sum.inl a : Key) = Sum.inl b := fun q => e (Sum.inl.inj q)
    rw [decide_eq_false h]
    exact (beq_eq_false_iff_ne.mpr e).symm
theorem key_rr (a b : Str) : decide ((Sum.inr a : Key) = Sum.inr b) = decide (a = b) := by
  by_cases e : a = b
  · subst e; simp
  · have h : ¬ (Sum.inr a : Key) = Sum.inr b := fun q => e (Sum.inr.inj q)
    rw [decide_eq_false h, decide_eq_false e]
theorem key_lr (a : Int) (b : Str) : decide ((Sum.inl a : Key) = Sum.inr b) = false := decide_eq_false (fun q => nomatch q)
theorem key_rl (a : Str) (b : Int) : decide ((Sum.inr a : Key) = Sum.inl b) = false := decide_eq_false (fun q => nomatch q)

def mixKind (prog : Program) (w : World) : PySem.KeyKind prog w Key where
  is := keyIs
  hash := keyH w
  inj := fun v a b ha hb => by
    rcases keyIs_shape ha with ⟨i, t, rfl, rfl⟩ | ⟨x, t, rfl, rfl⟩
    · rcases keyIs_shape hb with ⟨j, u, rfl, e⟩ | ⟨y, u, rfl, e⟩
      · injection e with e1 _; rw [e1]
      · exact nomatch e
    · rcases keyIs_shape hb with ⟨j, u, rfl, e⟩ | ⟨y, u, rfl, e⟩
      · exact nomatch e
      · injection e with e1 _; rw [e1]
  byValue := fun k v h => by
    rcases keyIs_shape h with ⟨i, t, rfl, rfl⟩ | ⟨x, t, rfl, rfl⟩ <;> rfl
  pyHash := fun hv h => by
    rcases keyIs_shape hv with ⟨i, t, rfl, rfl⟩ | ⟨x, t, rfl, rfl⟩
    · exact wpAny_pyHash_int h
    · exact wpAny_pyHash_str h
  eqBool := fun hu hv h => by
    rcases keyIs_shape hu with ⟨i, t, rfl, rfl⟩ | ⟨x, t, rfl, rfl⟩
    · rcases keyIs_shape hv with ⟨j, u, rfl, rfl⟩ | ⟨y, u, rfl, rfl⟩
      · rw [key_ll] at h; exact wpAny_eqBool_int h
      · rw [key_lr] at h; exact SeqAt.EqAt.int_str i t y u _ _ _ _ h
    · rcases keyIs_shape hv with ⟨j, u, rfl, rfl⟩ | ⟨y, u, rfl, rfl⟩
      · rw [key_rl] at h; exact SeqAt.EqAt.str_int x t j u _ _ _ _ h
      · rw [key_rr] at h; exact wpAny_eqBool_str h
  «strs» := fun k x t v h => by
    rcases keyIs_shape h with ⟨i, u, rfl, e⟩ | ⟨y, u, rfl, e⟩
    · exact nomatch e
    · injection e with e1 _
      subst e1
      cases v <;> rfl

theorem mixKind_int (prog : Program) (w : World) (i : Int) (t : Tok) : (mixKind prog w).is (.inl i) (.int i t) = true := keyIs_int i t
theorem mixKind_str (prog : Program) (w : World) (x : Str) (t : Tok) : (mixKind prog w).is (.inr x) (.str x t) = true := keyIs_str x t
end L2

namespace L2
open PySem PySem.Spec PyProof.Rows

/-- a value, without the heap -/
inductive V where
  | non | bl (b : Bool) | int (i : Int) | str (x : Str) | byt (b : Array UInt8) | flt (b : UInt64) | ref (a : Addr) | ty (n : String)
  deriving DecidableEq

def RelV : V → Value → Prop
  | .non, u => u = Value.none
  | .bl b, u => u = Value.bool b
  | .int i, u => ∃ t, u = Value.int i t
  | .str x, u => ∃ t, u = Value.str x t
  | .byt b, u => ∃ t, u = Value.bytes b t
  | .flt b, u => ∃ t, u = Value.float b t
  | .ref a, u => u = Value.ref a
  | .ty n, u => u = Value.type n

abbrev Vals : List V → List Value → Prop := Paired RelV
theorem Vals.length {xs : List V} {us : List Value} (r : Vals xs us) : xs.length = us.length := Paired.length r
theorem Vals.get : ∀ {xs : List V} {us : List Value} {i : Nat} {x : V}, Vals xs us → xs[i]? = some x → ∃ u, us[i]? = some u ∧ RelV x u
  | _, _, _, _, .nil, e => by simp at e
  | _, _, 0, _, .cons r _, e => by simp at e; subst e; exact ⟨_, rfl, r⟩
  | _, _, i + 1, x, .cons _ t, e => by
    obtain ⟨u, h1, h2⟩ := Vals.get (i := i) (x := x) t (by simpa using e)
    exact ⟨u, by simpa using h1, h2⟩
theorem Vals.set {x : V} {u : Value} (r : RelV x u) : ∀ {xs : List V} {us : List Value} (i : Nat), Vals xs us → Vals (xs.set i x) (us.set i u)
  | _, _, _, .nil => .nil
  | _, _, 0, .cons _ t => .cons r t
  | _, _, i + 1, .cons q t => .cons q (Vals.set r i t)
theorem Vals.append : ∀ {xs ys : List V} {us ws : List Value}, Vals xs us → Vals ys ws → Vals (xs ++ ys) (us ++ ws)
  | _, _, _, _, .nil, s => s
  | _, _, _, _, .cons r t, s => .cons r (Vals.append t s)
theorem Vals.take : ∀ {xs : List V} {us : List Value} (n : Nat), Vals xs us → Vals (xs.take n) (us.take n)
  | _, _, 0, _ => .nil
  | _, _, _ + 1, .nil => .nil
  | _, _, n + 1, .cons r t => .cons r (Vals.take n t)
theorem Vals.drop : ∀ {xs : List V} {us : List Value} (n : Nat), Vals xs us → Vals (xs.drop n) (us.drop n)
  | _, _, 0, r => r
  | _, _, _ + 1, .nil => .nil
  | _, _, n + 1, .cons _ t => Vals.drop n t
def RelO : Option V → Option Value → Prop
  | some v, some u => RelV v u
  | none, none => True
  | _, _ => False
def KV {κ : Type} : List (κ × V) → List (κ × Value) → Prop := Paired fun (p : κ × V) (q : κ × Value) => p.1 = q.1 ∧ RelV p.2 q.2

/-- a key of a dict (00_mix): an int or a text -/
def kV : Key → V
  | .inl i => .int i
  | .inr x => .str x

/-- what stands at a tracked address -/
inductive HO where
  /-- a list -/
  | lst (xs : List V)
  /-- a tuple (never changes) -/
  | tup (xs : List V)
  /-- a dict whose keys are ints and texts; one whose keys are tuples of ints and texts (the empty one is both) -/
  | dK (kvs : List (Key × V)) | dT (kvs : List (List Key × V))
  /-- a set of ints: its members, its size -/
  | set (S : Int → Bool) (n : Nat)
  /-- an instance of the class at C, its dict at dx, its attributes -/
  | ins (C dx : Addr) (fs : List (Str × V))
  /-- the dict of the instance at x -/
  | own (x : Addr)
  /-- the dict of an exception -/
  | xd (fs : List (Str × V))
  /-- a bound method, f of x -/
  | met (f x : Addr)
  /-- a range object lo, lo + 1, .. below hi -/
  | rng (lo hi : Int)
  /-- a thing that is known to the object (the script; a dict while a loop walks it): read, never written while it is so -/
  | frz (o : Obj) (u : HO)
  /-- a code object's table -/
  | tbl (ps : Array Value)
  /-- any other thing, by what is true of its one object (a def of one's own: SetO a S n := HO.ext fun h => ..) -/
  | ext (φ : Heap → Prop)

abbrev Hp := Addr → Option HO
def upd (H : Hp) (a : Addr) (o : HO) : Hp := fun b => if b = a then some o else H b
theorem upd_same {H : Hp} {a : Addr} {o : HO} : upd H a o a = some o := by unfold upd; rw [if_pos rfl]
theorem upd_ne {H : Hp} {a b : Addr} {o : HO} (h : b ≠ a) : upd H a o b = H b := by unfold upd; rw [if_neg h]
/-- two objects of different content stand apart -/
theorem ne_of {H : Hp} {a b : Addr} {o u : HO} (h : H a = some o) (h' : H b = some u) (d : o ≠ u) : a ≠ b := by
  intro e; subst e; rw [h] at h'; exact d (Option.some.inj h')
theorem ne_of_none {H : Hp} {a b : Addr} {o : HO} (h : H a = some o) (h' : H b = none) : a ≠ b := by
  intro e; subst e; rw [h] at h'; cases h'

section
variable (P : Program) (w : World)
def ObjOk (H : Hp) (h : Heap) (a : Addr) : HO → Prop
  | .lst xs => xs.length ≤ sizeLine ∧ ∃ (its : List Value) (n : Nat), Vals xs its ∧ h.get? a = some { cls := .type "list", data := .seq its.toArray n }
  | .tup xs => xs.length ≤ sizeLine ∧ ∃ its : List Value, Vals xs its ∧ IsTup h a its.toArray
  | .dK kvs => kvs.length ≤ sizeLine ∧ (a == sysModules) = false ∧ ∃ vs, KV kvs vs ∧ h.DictOf (mixKind P w) a vs
  | .dT kvs => kvs.length ≤ sizeLine ∧ (a == sysModules) = false ∧ ∃ xs : List (List Key × Addr × Value),
      Paired (fun (p : List Key × V) (q : List Key × Addr × Value) => p.1 = q.1 ∧ H q.2.1 = some (.tup (p.1.map kV)) ∧ RelV p.2 q.2.2) kvs xs ∧
      ∃ o es ep, h.get? a = some o ∧ o.ExactDict ∧ o.data = .dict es ep ∧ es.toList = xs.map (entryOfKey (tupleKind (mixKind P w))) ∧ (xs.map (·.1)).Nodup
  | .set S n => h.SetOf (intKind P w) a S n
  | .ins C dx fs => H dx = some (.own a) ∧ fs.length ≤ 1000 ∧ dx ≠ a ∧ h.get? a = some (PySem.W.instObj C dx) ∧
      ∃ mA, h.Ns1 dx mA ∧ (∀ f, RelO (fs.lookup f) (mA f)) ∧ PySem.Within mA (fs.map (·.1))
  | .own _ => ∃ o, h.get? a = some o
  | .xd fs => ∃ mA, h.Ns1 a mA ∧ ∀ f, RelO (fs.lookup f) (mA f)
  | .rng lo hi => ∃ t u v, h.get? a = some { cls := .type "range", data := .fields #[.int lo t, .int hi u, .int 1 v] }
  | .frz o u => h.get? a = some o ∧ ObjOk H h a u
  | .tbl ps => h.get? a = some { cls := .none, data := .fields ps }
  | .met f x => h.get? a = some (PySem.W.methodObj (.ref f) (.ref x))
  | .ext φ => φ h ∧ (∃ o, h.get? a = some o) ∧ ∀ h1 h2 : Heap, φ h1 → (∀ o, h1.get? a = some o → h2.get? a = some o) → φ h2
/-- the abstract heap is held -/
def HOk (H : Hp) (h : Heap) : Prop := ∀ a o, H a = some o → ObjOk P w H h a o
end

section
variable {P : Program} {w : World} {H H' : Hp} {h h' : Heap} {a : Addr} {o : HO}
theorem ObjOk.lt (x : ObjOk P w H h a o) : a < h.objs.size := by
  cases o with
  | lst xs => obtain ⟨_, _, _, _, e⟩ := x; exact Heap.lt_size e
  | tup xs => obtain ⟨_, _, _, p⟩ := x; exact p.lt
  | dK kvs => obtain ⟨_, _, _, _, o, _, _, e, _⟩ := x; exact Heap.lt_size e
  | dT kvs => obtain ⟨_, _, _, _, o, _, _, e, _⟩ := x; exact Heap.lt_size e
  | set S n => obtain ⟨o, _, _, _, e, _⟩ := x; exact Heap.lt_size e
  | ins C dx fs => obtain ⟨_, _, _, e, _⟩ := x; exact Heap.lt_size e
  | own y => obtain ⟨_, e⟩ := x; exact Heap.lt_size e
  | xd fs => obtain ⟨_, ⟨_, _, _, e, _⟩, _⟩ := x; exact Heap.lt_size e
  | rng lo hi => obtain ⟨_, _, _, e⟩ := x; exact Heap.lt_size e
  | frz ob u => obtain ⟨e, _⟩ := x; exact Heap.lt_size e
  | tbl ps => exact Heap.lt_size (show h.get? a = some _ from x)
  | met f y => exact Heap.lt_size (show h.get? a = some _ from x)
  | ext φ => obtain ⟨_, ⟨_, e⟩, _⟩ := x; exact Heap.lt_size e
theorem Paired.mapP {α β : Type} {F G : α → β → Prop} : ∀ {l₁ : List α} {l₂ : List β}, Paired F l₁ l₂ → (∀ a b, F a b → G a b) → Paired G l₁ l₂
  | _, _, .nil, _ => .nil
  | _, _, .cons r t, f => .cons (f _ _ r) (Paired.mapP t f)
theorem Paired.imp' {α β : Type} {F G : α → β → Prop} (f : ∀ a b, F a b → G a b) {l₁ : List α} {l₂ : List β} (r : Paired F l₁ l₂) : Paired G l₁ l₂ := Paired.mapP r f
/-- what an object's description leans on: its own object, its own dict, the tuples -/
theorem ObjOk.stay (x : ObjOk P w H h a o) (k : ∀ b u, (b = a ∨ H b = some (.own a)) → h.get? b = some u → h'.get? b = some u)
    (ho : ∀ b, H b = some (.own a) → H' b = some (.own a)) (ht : ∀ b xs, H b = some (.tup xs) → H' b = some (.tup xs)) : ObjOk P w H' h' a o := by
  induction o with
  | lst xs => obtain ⟨z, its, n, r, e⟩ := x; exact ⟨z, its, n, r, k _ _ (.inl rfl) e⟩
  | tup xs => obtain ⟨z, its, r, ob, e, c⟩ := x; exact ⟨z, its, r, ob, k _ _ (.inl rfl) e, c⟩
  | dK kvs => obtain ⟨z, y, vs, r, ob, es, ep, e, c⟩ := x; exact ⟨z, y, vs, r, ob, es, ep, k _ _ (.inl rfl) e, c⟩
  | dT kvs =>
    obtain ⟨z, y, xs, r, ob, es, ep, e, c⟩ := x
    exact ⟨z, y, xs, Paired.mapP r fun p q z => ⟨z.1, ht _ _ z.2.1, z.2.2⟩, ob, es, ep, k _ _ (.inl rfl) e, c⟩
  | set S n => obtain ⟨ob, es, ep, t, e, c⟩ := x; exact ⟨ob, es, ep, t, k _ _ (.inl rfl) e, c⟩
  | ins C dx fs =>
    obtain ⟨d, z, ne, e, mA, ⟨od, es, ep, e2, c⟩, r⟩ := x
    exact ⟨ho _ d, z, ne, k _ _ (.inl rfl) e, mA, ⟨od, es, ep, k _ _ (.inr d) e2, c⟩, r⟩
  | own y => obtain ⟨ob, e⟩ := x; exact ⟨ob, k _ _ (.inl rfl) e⟩
  | xd fs => obtain ⟨mA, ⟨od, es, ep, e, c⟩, r⟩ := x; exact ⟨mA, ⟨od, es, ep, k _ _ (.inl rfl) e, c⟩, r⟩
  | rng lo hi => obtain ⟨t, u, v, e⟩ := x; exact ⟨t, u, v, k _ _ (.inl rfl) e⟩
  | frz ob u ih => obtain ⟨e, q⟩ := x; exact ⟨k _ _ (.inl rfl) e, ih q⟩
  | tbl ps =>
    have e : h.get? a = some { cls := .none, data := .fields ps } := x
    show h'.get? a = some { cls := .none, data := .fields ps }
    exact k a _ (.inl rfl) e
  | met f y =>
    have e : h.get? a = some (PySem.W.methodObj (.ref f) (.ref y)) := x
    show h'.get? a = some (PySem.W.methodObj (.ref f) (.ref y))
    exact k a _ (.inl rfl) e
  | ext φ => obtain ⟨p, ⟨o, e⟩, st⟩ := x; exact ⟨st _ _ p fun o q => k _ _ (.inl rfl) q, ⟨o, k _ _ (.inl rfl) e⟩, st⟩
theorem HOk.lt (x : HOk P w H h) (e : H a = some o) : a < h.objs.size := (x a o e).lt
theorem HOk.fresh (x : HOk P w H h) (e : h.objs.size ≤ a) : H a = none := by
  cases q : H a with
  | none => rfl
  | some u => exact absurd (Nat.lt_of_lt_of_le (x.lt q) e) (Nat.lt_irrefl _)
/-- every object of the heap is kept -/
theorem HOk.kept (x : HOk P w H h) (k : ∀ b u, h.get? b = some u → h'.get? b = some u) : HOk P w H h' := fun a o e =>
  (x a o e).stay (fun b u _ q => k b u q) (fun _ q => q) fun _ _ q => q
/-- a new object is laid and tracked -/
theorem HOk.laid (x : HOk P w H h) (k : ∀ b u, h.get? b = some u → h'.get? b = some u) (hp : h.objs.size ≤ a) (new : ObjOk P w (upd H a o) h' a o) : HOk P w (upd H a o) h' := fun b u e => by
  have hn := x.fresh hp
  by_cases hb : b = a
  · subst hb; rw [upd_same] at e; cases e; exact new
  · rw [upd_ne hb] at e
    exact (x b u e).stay (fun c v _ q => k c v q) (fun c q => by rw [upd_ne (ne_of_none q hn)]; exact q) fun c xs q => by rw [upd_ne (ne_of_none q hn)]; exact q
end

/-- what may be read as u: it is u, or a known u -/
def Rd (H : Hp) (a : Addr) (u : HO) : Prop := H a = some u ∨ ∃ o, H a = some (.frz o u)
theorem Rd.of {H : Hp} {a : Addr} {u : HO} (h : H a = some u) : Rd H a u := .inl h
theorem Rd.ok {P : Program} {w : World} {H : Hp} {h : Heap} {a : Addr} {u : HO} (r : Rd H a u) (x : HOk P w H h) : ObjOk P w H h a u := by
  rcases r with r | ⟨o, r⟩
  · exact x a u r
  · obtain ⟨_, q⟩ := x a _ r
    exact q
/-- what may be written -/
def Mut : Option HO → Prop
  | some (.lst _) => True
  | some (.dK _) => True
  | some (.dT _) => True
  | some (.set _ _) => True
  | some (.ins _ _ _) => True
  | some (.ext _) => True
  | _ => False
section
variable {P : Program} {w : World} {H : Hp} {h h' : Heap} {x e : Addr} {o' : HO}
/-- the object at e is changed: x itself, or the dict of the instance x -/
theorem HOk.write (ok : HOk P w H h) (mu : Mut (H x)) (he : e = x ∨ H e = some (.own x)) (k : ∀ b u, b ≠ e → h.get? b = some u → h'.get? b = some u) (heo : ∃ u, h'.get? e = some u)
    (new : ObjOk P w (upd H x o') h' x o') : HOk P w (upd H x o') h' := fun b u q => by
  have nown : ∀ c y, H c = some (.own y) → c ≠ x := fun c y r z => by subst z; rw [r] at mu; exact mu
  have ntup : ∀ c xs, H c = some (.tup xs) → c ≠ x := fun c xs r z => by subst z; rw [r] at mu; exact mu
  by_cases hb : b = x
  · subst hb; rw [upd_same] at q; cases q; exact new
  · rw [upd_ne hb] at q
    by_cases hbe : b = e
    · have q' : H b = some (.own x) := by
        rcases he with z | z
        · exact absurd (hbe.trans z) hb
        · rw [hbe]; exact z
      rw [q] at q'; cases q'
      obtain ⟨v, hv⟩ := heo
      exact ⟨v, by rw [hbe]; exact hv⟩
    · refine (ok b u q).stay (fun c v hc r => k c v ?_ r) (fun c r => by rw [upd_ne (nown c b r)]; exact r) fun c xs r => by rw [upd_ne (ntup c xs r)]; exact r
      rcases hc with rfl | hc
      · exact hbe
      · rintro rfl
        rcases he with z | z
        · exact nown c b hc z
        · rw [hc] at z; cases z; exact hb rfl
end

/-! ### kept unless tracked; of the frames at fs (the callers') the slots may change (an exception that passes writes there); of the records at ex (iterators) nothing is said -/
structure Un (fs ex : List Addr) (H H' : Hp) (h h' : Heap) : Prop where
  keep : ∀ b o, h.get? b = some o → H b = none → b ∉ fs → b ∉ ex → h'.get? b = some o
  slot : ∀ b o, h.get? b = some o → H b = none → b ∈ fs → b ∉ ex → ∃ sl, h'.get? b = some { o with slots := sl }
  free : ∀ b o, h.get? b = some o → H b = none → b ∉ ex → H' b = none
  there : ∀ b o, h.get? b = some o → b ∉ ex → ∃ o', h'.get? b = some o'
  tups : ∀ b xs, H b = some (.tup xs) → H' b = some (.tup xs)
  frzs : ∀ b o u, H b = some (.frz o u) → H' b = some (.frz o u)
  tbls : ∀ b ps, H b = some (.tbl ps) → ∃ more, H' b = some (.tbl (ps ++ more))
section
variable {fs fs' ex ex' : List Addr} {H H1 H2 : Hp} {h h1 h2 h' : Heap} {a x e : Addr} {o : HO}
theorem Un.any (u : Un fs ex H H1 h h1) {b : Addr} {ob : Obj} (q : h.get? b = some ob) (n : H b = none) (hx : b ∉ ex) : ∃ sl, h1.get? b = some { ob with slots := sl } := by
  by_cases hb : b ∈ fs
  · exact u.slot b ob q n hb hx
  · exact ⟨ob.slots, u.keep b ob q n hb hx⟩
theorem Un.trans (a : Un fs ex H H1 h h1) (b : Un fs ex H1 H2 h1 h2) : Un fs ex H H2 h h2 where
  keep := fun c ob q n hc hx => b.keep c ob (a.keep c ob q n hc hx) (a.free c ob q n hx) hc hx
  slot := fun c ob q n hc hx => by
    obtain ⟨sl, e1⟩ := a.slot c ob q n hc hx
    obtain ⟨sl', e2⟩ := b.slot c _ e1 (a.free c ob q n hx) hc hx
    exact ⟨sl', e2⟩
  free := fun c ob q n hx => by
    obtain ⟨o', e1⟩ := a.there c ob q hx
    exact b.free c o' e1 (a.free c ob q n hx) hx
  there := fun c ob q hx => by
    obtain ⟨o', e1⟩ := a.there c ob q hx
    exact b.there c o' e1 hx
  tups := fun c xs q => b.tups c xs (a.tups c xs q)
  frzs := fun c ob xs q => b.frzs c ob xs (a.frzs c ob xs q)
  tbls := fun c ps q => by
    obtain ⟨m1, e1⟩ := a.tbls c ps q
    obtain ⟨m2, e2⟩ := b.tbls c _ e1
    exact ⟨m1 ++ m2, by rw [e2, Array.append_assoc]⟩
theorem Un.kept (k : ∀ b u, h.get? b = some u → h'.get? b = some u) : Un fs ex H H h h' :=
  ⟨fun b ob q _ _ _ => k b ob q, fun b ob q _ _ _ => ⟨ob.slots, k b ob q⟩, fun _ _ _ n _ => n, fun b ob q _ => ⟨ob, k b ob q⟩, fun _ _ q => q, fun _ _ _ q => q, fun _ ps q => ⟨#[], by rw [q]; simp⟩⟩
theorem Un.refl : Un fs ex H H h h := Un.kept fun _ _ q => q
theorem Un.laid (k : ∀ b u, h.get? b = some u → h'.get? b = some u) (hp : h.objs.size ≤ a) (hn : H a = none) : Un fs ex H (upd H a o) h h' where
  keep := fun b u q _ _ _ => k b u q
  slot := fun b u q _ _ _ => ⟨u.slots, k b u q⟩
  free := fun b u q n _ => by rw [upd_ne (Nat.ne_of_lt (Nat.lt_of_lt_of_le (Heap.lt_size q) hp))]; exact n
  there := fun b u q _ => ⟨u, k b u q⟩
  tups := fun b xs q => by rw [upd_ne (ne_of_none q hn)]; exact q
  frzs := fun b u xs q => by rw [upd_ne (ne_of_none q hn)]; exact q
  tbls := fun b ps q => ⟨#[], by rw [upd_ne (ne_of_none q hn), q]; simp⟩
theorem Un.write (mu : Mut (H x)) (he : e = x ∨ H e = some (.own x)) (k : ∀ b u, b ≠ e → h.get? b = some u → h'.get? b = some u) (heo : ∃ u, h'.get? e = some u) : Un fs ex H (upd H x o) h h' := by
  have hx : ∀ b, H b = none → b ≠ x := fun b n z => by subst z; rw [n] at mu; exact mu
  have hb : ∀ b, H b = none → b ≠ e := fun b n z => by
    subst z
    rcases he with r | r
    · exact hx b n r
    · rw [n] at r; cases r
  have hm : ∀ b u, H b = some u → ¬ Mut (some u) → b ≠ x := fun b u q nm z => by subst z; rw [q] at mu; exact nm mu
  refine ⟨fun b u q n _ _ => k b u (hb b n) q, fun b u q n _ _ => ⟨u.slots, k b u (hb b n) q⟩, fun b u q n _ => by rw [upd_ne (hx b n)]; exact n, fun b u q _ => ?_,
    fun b xs q => by rw [upd_ne (hm b _ q fun z => z)]; exact q, fun b u xs q => by rw [upd_ne (hm b _ q fun z => z)]; exact q, fun b ps q => ⟨#[], by rw [upd_ne (hm b _ q fun z => z), q]; simp⟩⟩
  by_cases hbe : b = e
  · subst hbe; exact heo
  · exact ⟨u, k b u hbe q⟩
theorem Un.mono (u : Un fs ex H H1 h h1) (hs : ∀ b ∈ fs, b ∈ fs') (hx : ∀ b ∈ ex, b ∈ ex') : Un fs' ex' H H1 h h1 :=
  ⟨fun b ob q n hb he => u.keep b ob q n (fun z => hb (hs b z)) fun z => he (hx b z), fun _ _ q n _ he => u.any q n fun z => he (hx _ z), fun b ob q n he => u.free b ob q n fun z => he (hx b z), fun b ob q he => u.there b ob q fun z => he (hx b z), u.tups, u.frzs, u.tbls⟩
end

/-! ### the heap without what is tracked -/
def trk (h : Heap) (H : Hp) : List Addr := (List.range h.objs.size).filter fun a => (H a).isSome
def hidT (h : Heap) (H : Hp) : Heap := PySem.W.hideAll h (trk h H)
theorem hidT_size (h : Heap) (H : Hp) : (hidT h H).objs.size = h.objs.size := PySem.W.hideAll_size _ _
theorem hidT_get {h : Heap} {H : Hp} {b : Addr} {o : Obj} (e : h.get? b = some o) (n : H b = none) : (hidT h H).get? b = some o :=
  PySem.W.hideAll_get _ e fun hm => by
    have q : (H b).isSome = true := (List.mem_filter.mp hm).2
    rw [n] at q; simp at q
theorem of_hidT {h : Heap} {H : Hp} {b : Addr} {o : Obj} (e : (hidT h H).get? b = some o) : h.get? b = some o ∧ H b = none := by
  have e' : h.get? b = some o := PySem.W.of_hideAll (trk h H) e
  refine ⟨e', ?_⟩
  cases q : H b with
  | none => rfl
  | some x =>
    have hm : b ∈ trk h H := List.mem_filter.mpr ⟨List.mem_range.mpr (Heap.lt_size e'), by simp [q]⟩
    have z : (hidT h H).get? b = none := PySem.W.hideAll_none (trk h H) hm
    rw [z] at e; cases e

/-! ### OpenK's ledger, filled with every new object but one -/
def allNews (g h : Heap) (L : Addr) : List (Addr × Obj) := (List.range h.objs.size).filterMap fun a => if a = L ∨ (g.get? a).isSome = true then none else (h.get? a).map fun o => (a, o)
def rest (g h : Heap) (L d : Addr) : List (Addr × Obj) := (allNews g h L).filter fun p => decide (p.1 ≠ d)
end L2

namespace L2
open PySem PySem.Spec PyProof.Rows

/-- the module's facts, over the base: the heap at the law's entry without what is tracked there -/
structure Mod (K : PySem.W.Frag) (mg : Str → Option Value) (base : Heap) : Prop where
  kin : K.In base
  glob : base.Ns mainGlobals mg
  blt : ∃ mb, base.Ns builtinsNs mb ∧ ∀ x : Str, x ≠ "__name__" → mb x = bootBuiltins x
  nolimit : base.NoLimit

/-- the context: a def's body (or a comprehension's block) running. base: fixed through the whole law; s₀, H₀: the entry; outer: the frames whose slots others may change (a def's callers); stack: all frames that run;
   ex: iterators that were made ahead of the entry and are walked here (a comprehension's); fn: the names whose cells were made at the entry (a def: all; a comprehension's block: its own); calm: not within an except suite; pn: pins that every state bears; xe: what is wanted of an exception that leaves the code -/
structure Cx where
  prog : Program
  w : World
  K : PySem.W.Frag
  mg : Str → Option Value
  base : Heap
  A : Around
  N : List Str
  s₀ : Shared
  H₀ : Hp
  env : Env
  outer : List Env
  stack : List Env
  ex : List Addr
  fn : Str → Bool
  calm : Bool
  pn : List (Addr × Obj)
  xe : Value → Shared → Prop
/-- the callers' frames -/
def frs (l : List Env) : List Addr := l.filterMap (·.frame)
abbrev Cx.fs (X : Cx) : List Addr := frs X.outer

def Vis (sc : Scope) (x : Str) : Prop := sc.names.lookup x = some .local ∨ sc.names.lookup x = some .cell ∨ sc.names.lookup x = some .free
def Loc (sc : Scope) (x : Str) : Prop := sc.names.lookup x = some .local ∨ sc.names.lookup x = some .cell
def Look (env : Env) (h : Heap) (m : Str → Option Value) (x : Str) (u : Value) : Prop :=
  (env.kindOf x = some .local ∧ m x = some u) ∨ ((env.kindOf x = some .cell ∨ env.kindOf x = some .free) ∧ ∃ c, env.cells.lookup x = some c ∧ h.IsCell c (some u))

structure Cx.Ok (X : Cx) : Prop where
  mod : Mod X.K X.mg X.base
  kind : X.env.scope.kind = .function
  glob : X.env.globals = mainGlobals
  blt : X.env.builtins = builtinsNs
  above : X.s₀.heap.objs.size ≤ X.env.locals
  inj : ∀ x y c, X.env.cells.lookup x = some c → X.env.cells.lookup y = some c → x = y
  has : ∀ x, (X.env.kindOf x = some .cell ∨ X.env.kindOf x = some .free) → ∃ c, X.env.cells.lookup x = some c
  cab : ∀ x c, X.fn x = true → X.env.cells.lookup x = some c → X.s₀.heap.objs.size ≤ c
  hd : X.calm = true → X.A.handled = none
  frames : X.A.frames = some X.stack
  stk : X.stack = X.outer ∨ (X.stack = X.env :: X.outer ∧ X.env.frame = some X.env.locals)
  exf : ∀ b ∈ X.ex, b ≠ X.env.locals ∧ ∀ x c, X.env.cells.lookup x = some c → c ≠ b
  bs : ∀ b o, X.base.get? b = some o → X.s₀.heap.get? b = some o ∧ X.H₀ b = none
  bsz : X.base.objs.size ≤ X.s₀.heap.objs.size
  noex : ∀ b o, X.base.get? b = some o → b ∉ X.ex
  exfs : ∀ b ∈ X.ex, b ∉ X.fs
  funs : X.s₀.heap.FunFrames X.base X.outer
  frf : ∀ b ∈ X.fs, X.H₀ b = none

structure Inv (X : Cx) (pins : List (Addr × Obj)) (σ : List (Option V)) (H : Hp) (s : Shared) : Prop where
  ok : X.Ok
  os : s.os = X.s₀.os
  bare : AllBare s.gens
  base : Un X.fs X.ex X.H₀ H X.s₀.heap s.heap
  loc : ∃ m, s.heap.Ns X.env.locals m ∧ ∀ (i : Nat) (x : Str) (v : V), X.N[i]? = some x → σ[i]? = some (some v) → Vis X.env.scope x → ∃ u, RelV v u ∧ Look X.env s.heap m x u
  cell : ∀ x c, X.env.cells.lookup x = some c → ∃ v, s.heap.IsCell c v
  free : H X.env.locals = none
  freeC : ∀ x c, X.env.cells.lookup x = some c → H c = none
  pin : ∀ p ∈ X.pn ++ pins, s.heap.get? p.1 = some p.2 ∧ H p.1 = none ∧ p.1 ≠ X.env.locals ∧ p.1 ∉ X.fs ∧ ∀ v, p.2.data ≠ .cell v
  hok : HOk X.prog X.w H s.heap
  len : σ.length = X.N.length

section
variable {X : Cx} {pins : List (Addr × Obj)} {σ : List (Option V)} {H H' : Hp} {s : Shared} {h' : Heap}

theorem Cx.Ok.nofr (ok : X.Ok) {b : Addr} {o : Obj} (e : X.base.get? b = some o) : b ∉ X.fs := fun hb => by
  have := (ok.funs.mem hb).1
  rw [e] at this; cases this
theorem Inv.bs (I : Inv X pins σ H s) : ∀ b o, X.base.get? b = some o → s.heap.get? b = some o ∧ H b = none := fun b o e =>
  ⟨I.base.keep b o (I.ok.bs b o e).1 (I.ok.bs b o e).2 (I.ok.nofr e) (I.ok.noex b o e), I.base.free b o (I.ok.bs b o e).1 (I.ok.bs b o e).2 (I.ok.noex b o e)⟩
theorem Inv.bk (I : Inv X pins σ H s) : ∀ b o, X.base.get? b = some o → s.heap.get? b = some o := fun b o e => (I.bs b o e).1
theorem Inv.mod (I : Inv X pins σ H s) : Mod X.K X.mg X.base := I.ok.mod
theorem Inv.kIn (I : Inv X pins σ H s) : X.K.In s.heap := I.ok.mod.kin.keeps I.bk
theorem Inv.nolimit (I : Inv X pins σ H s) : s.heap.NoLimit := I.ok.mod.nolimit.keeps I.bk
/-- the frame over the base: for OpenK's rules (K.In X.base is I.mod.kin) -/
theorem Inv.fr (I : Inv X pins σ H s) : ∃ m, Fr X.base X.env.locals s.heap m :=
  let ⟨m, hn, _⟩ := I.loc
  ⟨m, hn, I.bk, Nat.le_trans I.ok.bsz I.ok.above⟩
theorem Inv.lt (I : Inv X pins σ H s) : X.env.locals < s.heap.objs.size := let ⟨_, hn, _⟩ := I.loc; hn.lt
theorem Inv.sz (I : Inv X pins σ H s) : X.s₀.heap.objs.size ≤ s.heap.objs.size := Nat.le_trans I.ok.above (Nat.le_of_lt I.lt)
theorem Inv.nofs (I : Inv X pins σ H s) {a : Addr} (h : s.heap.objs.size ≤ a) : a ∉ X.fs := fun hb => by
  obtain ⟨_, o, ho, _⟩ := I.ok.funs.mem hb
  exact absurd (Nat.lt_of_lt_of_le (Heap.lt_size ho) (Nat.le_trans I.sz h)) (Nat.lt_irrefl _)
theorem Inv.cne (I : Inv X pins σ H s) : ∀ x c, X.env.cells.lookup x = some c → c ≠ X.env.locals := fun x c e z => by
  obtain ⟨v, o, ho, hd⟩ := I.cell x c e
  obtain ⟨m, ⟨o', es, ep, ho', hd', _⟩, _⟩ := I.loc
  rw [z, ho'] at ho; cases ho; rw [hd'] at hd; cases hd
theorem Inv.funs (I : Inv X pins σ H s) : s.heap.FunFrames X.base X.outer := by
  have all : ∀ (l : List Env), (∀ b ∈ frs l, b ∈ X.fs) → X.s₀.heap.FunFrames X.base l → s.heap.FunFrames X.base l := by
    intro l
    induction l with
    | nil => intro _ _; trivial
    | cons env r ih =>
      intro hs hl
      obtain ⟨hk, ⟨L, o, hf, hn, ho, hd⟩, hr⟩ := hl
      have hL : L ∈ X.fs := hs L (by unfold frs; rw [List.filterMap_cons, hf]; exact List.mem_cons_self)
      obtain ⟨sl, e⟩ := I.base.slot L o ho (I.ok.frf L hL) hL fun z => I.ok.exfs L z hL
      exact ⟨hk, ⟨L, _, hf, hn, e, hd⟩, ih (fun b hb => hs b (by unfold frs; rw [List.filterMap_cons, hf]; exact List.mem_cons_of_mem _ hb)) hr⟩
  exact all X.outer (fun _ hb => hb) I.ok.funs

/-- the frames that run, for a call -/
theorem Inv.stack (I : Inv X pins σ H s) : s.heap.FunFrames X.base X.stack := by
  rcases I.ok.stk with e | ⟨e, hf⟩
  · rw [e]; exact I.funs
  · rw [e]
    obtain ⟨m, hn, _⟩ := I.loc
    refine .cons (by rw [I.ok.kind]; decide) hf hn ?_ I.funs
    exact Heap.get?_none_of_le (Nat.le_trans I.ok.bsz I.ok.above)
theorem Inv.stkSub (I : Inv X pins σ H s) : ∀ b ∈ frs X.stack, b ∈ X.env.locals :: X.fs := fun b hb => by
  rcases I.ok.stk with e | ⟨e, hf⟩
  · rw [e] at hb; exact List.mem_cons_of_mem _ hb
  · rw [e] at hb
    unfold frs at hb
    rw [List.filterMap_cons, hf] at hb
    exact hb
theorem Inv.stkFree (I : Inv X pins σ H s) : ∀ b ∈ frs X.stack, H b = none := fun b hb => by
  rcases List.mem_cons.mp (I.stkSub b hb) with e | hb
  · rw [e]; exact I.free
  · obtain ⟨_, o, ho, _⟩ := I.ok.funs.mem hb
    exact I.base.free b o ho (I.ok.frf b hb) fun z => I.ok.exfs b z hb

/-- THE STEP: the untracked objects but the frame and the records at ch are kept (the callers' frames up to slots), the frame's map is kept, the new abstract heap is held -/
theorem Inv.step {g' : Array GenState} {t' : Nat} {d' : Drawn} {ch : List Addr} (I : Inv X pins σ H s)
    (hch : ∀ b ∈ ch, (b ∈ X.ex ∨ X.s₀.heap.objs.size ≤ b) ∧ b ≠ X.env.locals ∧ (∀ x c, X.env.cells.lookup x = some c → c ≠ b) ∧ ∀ p ∈ X.pn ++ pins, p.1 ≠ b)
    (keep : ∀ b o, b ≠ X.env.locals → b ∉ X.fs → b ∉ ch → s.heap.get? b = some o → H b = none → h'.get? b = some o)
    (slot : ∀ b o, b ≠ X.env.locals → b ∈ X.fs → b ∉ ch → s.heap.get? b = some o → H b = none → ∃ sl, h'.get? b = some { o with slots := sl }) (free : ∀ b o, b ∉ ch → s.heap.get? b = some o → H b = none → H' b = none)
    (there : ∀ b o, b ∉ ch → s.heap.get? b = some o → ∃ o', h'.get? b = some o')
    (tups : ∀ b xs, H b = some (.tup xs) → H' b = some (.tup xs)) (frzs : ∀ b o u, H b = some (.frz o u) → H' b = some (.frz o u)) (tbls : ∀ b ps, H b = some (.tbl ps) → ∃ more, H' b = some (.tbl (ps ++ more)))
    (ns : ∀ m, s.heap.Ns X.env.locals m → h'.Ns X.env.locals m) (hok : HOk X.prog X.w H' h') (hg : AllBare g') :
    Inv X pins σ H' { s with heap := h', gens := g', drawn := d', toks := t' } := by
  have neL : ∀ b o, X.s₀.heap.get? b = some o → b ≠ X.env.locals := fun b o e => Nat.ne_of_lt (Nat.lt_of_lt_of_le (Heap.lt_size e) I.ok.above)
  have neC : ∀ b o, X.s₀.heap.get? b = some o → b ∉ X.ex → b ∉ ch := fun b o e hx hb => by
    rcases (hch b hb).1 with z | z
    · exact hx z
    · exact absurd (Nat.lt_of_lt_of_le (Heap.lt_size e) z) (Nat.lt_irrefl _)
  have cellK : ∀ x c, X.env.cells.lookup x = some c → ∀ v, s.heap.IsCell c v → h'.IsCell c v := fun x c e v ⟨o, ho, hd⟩ => by
    have nch : c ∉ ch := fun z => (hch c z).2.2.1 x c e rfl
    by_cases hc : c ∈ X.fs
    · obtain ⟨sl, q⟩ := slot c o (I.cne x c e) hc nch ho (I.freeC x c e)
      exact ⟨_, q, hd⟩
    · exact ⟨o, keep c o (I.cne x c e) hc nch ho (I.freeC x c e), hd⟩
  refine ⟨I.ok, I.os, hg, ⟨fun b o e n hb hx => ?_, fun b o e n hb hx => ?_, fun b o e n hx => ?_, fun b o e hx => ?_, fun b xs e => tups b xs (I.base.tups b xs e), fun b o xs e => frzs b o xs (I.base.frzs b o xs e), fun b ps e => ?_⟩, ?_, fun x c e => ?_, ?_, fun x c e => ?_, fun p hp => ?_, hok, I.len⟩
  · exact keep b o (neL b o e) hb (neC b o e hx) (I.base.keep b o e n hb hx) (I.base.free b o e n hx)
  · obtain ⟨sl, e1⟩ := I.base.slot b o e n hb hx
    obtain ⟨sl', e2⟩ := slot b _ (neL b o e) hb (neC b o e hx) e1 (I.base.free b o e n hx)
    exact ⟨sl', e2⟩
  · obtain ⟨o', e1⟩ := I.base.there b o e hx
    exact free b o' (neC b o e hx) e1 (I.base.free b o e n hx)
  · obtain ⟨o', e1⟩ := I.base.there b o e hx
    exact there b o' (neC b o e hx) e1
  · obtain ⟨m1, e1⟩ := I.base.tbls b ps e
    obtain ⟨m2, e2⟩ := tbls b _ e1
    exact ⟨m1 ++ m2, by rw [e2, Array.append_assoc]⟩
  · obtain ⟨m, hn, hl⟩ := I.loc
    refine ⟨m, ns m hn, fun i x v e1 e2 e3 => ?_⟩
    obtain ⟨u, r, l⟩ := hl i x v e1 e2 e3
    refine ⟨u, r, ?_⟩
    rcases l with l | ⟨k, c, e, z⟩
    · exact .inl l
    · exact .inr ⟨k, c, e, cellK x c e _ z⟩
  · obtain ⟨v, z⟩ := I.cell x c e
    exact ⟨v, cellK x c e v z⟩
  · obtain ⟨m, ⟨o, _, _, ho, _⟩, _⟩ := I.loc
    exact free _ o (fun z => (hch _ z).2.1 rfl) ho I.free
  · obtain ⟨v, o, ho, hd⟩ := I.cell x c e
    exact free c o (fun z => (hch c z).2.2.1 x c e rfl) ho (I.freeC x c e)
  · obtain ⟨e, n, ne, nf, d⟩ := I.pin p hp
    have nch : p.1 ∉ ch := fun z => (hch p.1 z).2.2.2 p hp rfl
    exact ⟨keep p.1 p.2 ne nf nch e n, free p.1 p.2 nch e n, ne, nf, d⟩
/-- .. where the frame's own object is kept too -/
theorem Inv.un {t' : Nat} (I : Inv X pins σ H s) (u : Un X.fs [] H H' s.heap h') (hok : HOk X.prog X.w H' h') : Inv X pins σ H' { s with heap := h', toks := t' } := by
  obtain ⟨m, ⟨o, es, ep, ho, r⟩, _⟩ := id I.loc
  obtain ⟨sl, hL⟩ := u.any ho I.free (by simp)
  exact I.step (g' := s.gens) (d' := s.drawn) (ch := []) (fun _ z => nomatch z) (fun b o _ hb _ e n => u.keep b o e n hb (by simp)) (fun b o _ hb _ e n => u.slot b o e n hb (by simp)) (fun b o _ e n => u.free b o e n (by simp)) (fun b o _ e => u.there b o e (by simp)) u.tups u.frzs u.tbls (fun m' hm => by
    obtain ⟨o', es', ep', ho', r'⟩ := hm
    rw [ho] at ho'; cases ho'
    exact ⟨_, es', ep', hL, r'⟩) hok I.bare
/-- behind a call (or a comprehension's block): the slots of this frame may have changed too, the records at ch may have turned -/
theorem Inv.call {g' : Array GenState} {t' : Nat} {d' : Drawn} {ch : List Addr} (I : Inv X pins σ H s) (u : Un (frs X.stack) ch H H' s.heap h') (hok : HOk X.prog X.w H' h') (hg : AllBare g')
    (hch : ∀ b ∈ ch, (b ∈ X.ex ∨ X.s₀.heap.objs.size ≤ b) ∧ b ≠ X.env.locals ∧ (∀ x c, X.env.cells.lookup x = some c → c ≠ b) ∧ ∀ p ∈ X.pn ++ pins, p.1 ≠ b) :
    Inv X pins σ H' { s with heap := h', gens := g', drawn := d', toks := t' } := by
  obtain ⟨m, ⟨o, es, ep, ho, r⟩, _⟩ := id I.loc
  obtain ⟨sl, hL⟩ := u.any ho I.free fun z => (hch _ z).2.1 rfl
  exact I.step (ch := ch) hch (fun b o hL hb hc e n => u.keep b o e n (fun z => (List.mem_cons.mp (I.stkSub b z)).elim hL hb) hc) (fun b o _ _ hc e n => u.any e n hc) (fun b o hc e n => u.free b o e n hc) (fun b o hc e => u.there b o e hc) u.tups u.frzs u.tbls (fun m' hm => by
    obtain ⟨o', es', ep', ho', r'⟩ := hm
    rw [ho] at ho'; cases ho'
    exact ⟨_, es', ep', hL, r'⟩) hok hg
/-- an untracked record of ours (an iterator) has turned -/
theorem Inv.turned {t' : Nat} {it : Addr} (I : Inv X pins σ H s) (k : ∀ b o, b ≠ it → s.heap.get? b = some o → h'.get? b = some o) (hn : H it = none) (hL : it ≠ X.env.locals)
    (h1 : it ∈ X.ex ∨ X.s₀.heap.objs.size ≤ it) (h2 : ∀ x c, X.env.cells.lookup x = some c → c ≠ it) (h3 : ∀ p ∈ X.pn ++ pins, p.1 ≠ it) : Inv X pins σ H { s with heap := h', toks := t' } := by
  have nit : ∀ b u, H b = some u → b ≠ it := fun b u e z => by rw [z, hn] at e; cases e
  refine I.step (g' := s.gens) (d' := s.drawn) (ch := [it]) (fun b hb => ?_) (fun b o _ _ hc e _ => k b o (fun z => hc (by simp [z])) e) (fun b o _ _ hc e _ => ⟨o.slots, k b o (fun z => hc (by simp [z])) e⟩) (fun _ _ _ _ n => n)
    (fun b o hc e => ⟨o, k b o (fun z => hc (by simp [z])) e⟩) (fun _ _ e => e) (fun _ _ _ e => e) (fun b ps e => ⟨#[], by rw [e]; simp⟩) (fun m hm => ?_) (fun b u e => ?_) I.bare
  · have e : b = it := by simpa using hb
    subst e
    exact ⟨h1, hL, h2, h3⟩
  · obtain ⟨o, es, ep, ho, r⟩ := hm
    exact ⟨o, es, ep, k _ o (Ne.symm hL) ho, r⟩
  · refine (I.hok b u e).stay (fun c v hc q => k c v ?_ q) (fun _ q => q) fun _ _ q => q
    rcases hc with z | z
    · rw [z]; exact nit b u e
    · exact nit c _ z
theorem Inv.tok (I : Inv X pins σ H s) (t : Nat) : Inv X pins σ H { s with toks := t } := I.un (h' := s.heap) (t' := t) Un.refl I.hok
/-- all objects kept -/
theorem Inv.kept {t' : Nat} (I : Inv X pins σ H s) (k : ∀ b u, s.heap.get? b = some u → h'.get? b = some u) : Inv X pins σ H { s with heap := h', toks := t' } := I.un (Un.kept k) (I.hok.kept k)
/-- a new object laid and tracked -/
theorem Inv.laid {a : Addr} {o : HO} {t' : Nat} (I : Inv X pins σ H s) (k : ∀ b u, s.heap.get? b = some u → h'.get? b = some u) (hp : s.heap.objs.size ≤ a) (new : ObjOk X.prog X.w (upd H a o) h' a o) :
    Inv X pins σ (upd H a o) { s with heap := h', toks := t' } := I.un (Un.laid k hp (I.hok.fresh hp)) (I.hok.laid k hp new)
/-- an object written -/
theorem Inv.write {x e : Addr} {o : HO} {t' : Nat} (I : Inv X pins σ H s) (mu : Mut (H x)) (he : e = x ∨ H e = some (.own x)) (k : ∀ b u, b ≠ e → s.heap.get? b = some u → h'.get? b = some u) (heo : ∃ u, h'.get? e = some u)
    (new : ObjOk X.prog X.w (upd H x o) h' x o) : Inv X pins σ (upd H x o) { s with heap := h', toks := t' } := I.un (Un.write mu he k heo) (I.hok.write mu he k heo new)
/-- forgetting slots, pins -/
theorem Inv.weak {σ' : List (Option V)} (I : Inv X pins σ H s) (hl : σ'.length = σ.length) (w : ∀ (i : Nat) v, σ'[i]? = some (some v) → σ[i]? = some (some v)) : Inv X pins σ' H s :=
  ⟨I.ok, I.os, I.bare, I.base, let ⟨m, hn, hl'⟩ := I.loc; ⟨m, hn, fun i x v e1 e2 e3 => hl' i x v e1 (w i v e2) e3⟩, I.cell, I.free, I.freeC, I.pin, I.hok, hl.trans I.len⟩
theorem Inv.pins_of {pins' : List (Addr × Obj)} (I : Inv X pins σ H s) (h : ∀ p ∈ pins', s.heap.get? p.1 = some p.2 ∧ H p.1 = none ∧ p.1 ≠ X.env.locals ∧ p.1 ∉ X.fs ∧ ∀ v, p.2.data ≠ .cell v) : Inv X pins' σ H s :=
  ⟨I.ok, I.os, I.bare, I.base, I.loc, I.cell, I.free, I.freeC, fun p hp => (List.mem_append.mp hp).elim (fun z => I.pin p (List.mem_append_left _ z)) (h p), I.hok, I.len⟩

theorem nodup_ix {N : List Str} (hN : N.Nodup) {i j : Nat} {x : Str} (a : N[i]? = some x) (b : N[j]? = some x) : i = j := by
  obtain ⟨h1, e1⟩ := List.getElem?_eq_some_iff.mp a
  obtain ⟨h2, e2⟩ := List.getElem?_eq_some_iff.mp b
  exact (List.getElem_inj hN).mp (e1.trans e2.symm)

/-- a name is stored; what changed -/
theorem store_ok2 {M : Model} {A : Around} {E : Value → Shared → Prop} {i : Nat} {x : Str} {v : V} {u : Value} {Q : Unit → Shared → Prop} (I : Inv X pins σ H s) (hN : X.N.Nodup) (hi : X.N[i]? = some x) (hx : Loc X.env.scope x) (r : RelV v u)
    (h : ∀ s', Inv X pins (σ.set i (some v)) H s' → (∃ a, Heap.SameBut a s.heap s'.heap ∧ (a = X.env.locals ∨ X.env.cells.lookup x = some a)) → Q () s') (hf : X.fn x = true ∨ X.env.scope.names.lookup x = some .local := by first | exact .inl rfl | exact .inr rfl | assumption) : wpAny M A (storeName X.env x u) Q E s := by
  obtain ⟨m, hn, hl⟩ := id I.loc
  have hcls : (X.env.scope.kind == .class || (X.env.scope.kind == .module && X.env.locals != X.env.globals)) = false := by rw [I.ok.kind]; rfl
  have hiσ : i < σ.length := by rw [I.len]; exact (List.getElem?_eq_some_iff.mp hi).1
  have cne := I.cne
  have tracked : ∀ {a : Addr} {h' : Heap}, (∃ o, s.heap.get? a = some o ∧ H a = none) → Heap.SameBut a s.heap h' → HOk X.prog X.w H h' := fun {a h'} ha hs b ob e => by
    obtain ⟨_, _, hfree⟩ := ha
    refine (I.hok b ob e).stay (fun c w' hc q => (hs.2 c ?_).trans q) (fun _ q => q) fun _ _ q => q
    rintro rfl
    rcases hc with rfl | hc
    · rw [hfree] at e; cases e
    · rw [hfree] at hc; cases hc
  rcases hx with hk | hk
  · refine wpAny_storeName_local hk hn (fun h' hn' hs => ?_) hcls
    obtain ⟨oL, _, _, hoL, _⟩ := id hn
    refine h _ ⟨I.ok, I.os, I.bare, ⟨fun b o e n hb hx => ?_, fun b o e n hb hx => ?_, I.base.free, fun b o e hx => ?_, I.base.tups, I.base.frzs, I.base.tbls⟩, ⟨_, hn', fun j y v' e1 e2 e3 => ?_⟩, fun y c e => ?_, I.free, I.freeC, fun p hp => ?_, tracked ⟨oL, hoL, I.free⟩ hs, by simpa using I.len⟩ ⟨_, hs, .inl rfl⟩
    · exact (hs.2 b (Nat.ne_of_lt (Nat.lt_of_lt_of_le (Heap.lt_size e) I.ok.above))).trans (I.base.keep b o e n hb hx)
    · obtain ⟨sl, e1⟩ := I.base.slot b o e n hb hx
      exact ⟨sl, (hs.2 b (Nat.ne_of_lt (Nat.lt_of_lt_of_le (Heap.lt_size e) I.ok.above))).trans e1⟩
    · obtain ⟨o', e1⟩ := I.base.there b o e hx
      exact ⟨o', (hs.2 b (Nat.ne_of_lt (Nat.lt_of_lt_of_le (Heap.lt_size e) I.ok.above))).trans e1⟩
    · by_cases hj : j = i
      · subst hj
        rw [hi] at e1; cases e1
        rw [List.getElem?_set_self hiσ] at e2
        cases e2
        exact ⟨u, r, .inl ⟨hk, by simp⟩⟩
      · rw [List.getElem?_set_ne (Ne.symm hj)] at e2
        obtain ⟨u', r', q⟩ := hl j y v' e1 e2 e3
        refine ⟨u', r', ?_⟩
        rcases q with ⟨k, e⟩ | ⟨k, c, e, z⟩
        · refine .inl ⟨k, ?_⟩
          have : y ≠ x := fun e => hj (nodup_ix hN e1 (e ▸ hi))
          simp [this, e]
        · exact .inr ⟨k, c, e, z.sameBut hs (cne y c e)⟩
    · obtain ⟨w', z⟩ := I.cell y c e
      exact ⟨w', z.sameBut hs (cne y c e)⟩
    · obtain ⟨e, n, ne, nf, d⟩ := I.pin p hp
      exact ⟨(hs.2 p.1 ne).trans e, n, ne, nf, d⟩
  · have hfn : X.fn x = true := by
      rcases hf with z | z
      · exact z
      · rw [z] at hk; cases hk
    obtain ⟨c, hc⟩ := I.ok.has x (.inl hk)
    obtain ⟨w', z⟩ := I.cell x c hc
    refine wpAny_storeName_cell I.ok.kind hk hc z (fun h' hc' hs => ?_)
    obtain ⟨oc, hoc, hocd⟩ := id z
    refine h { s with heap := h' } ⟨I.ok, I.os, I.bare, ⟨fun b o e n hb hx => ?_, fun b o e n hb hx => ?_, I.base.free, fun b o e hx => ?_, I.base.tups, I.base.frzs, I.base.tbls⟩, ⟨m, hn.sameBut hs (Ne.symm (cne x c hc)), fun j y v' e1 e2 e3 => ?_⟩, fun y c' e => ?_, I.free, I.freeC, fun p hp => ?_, tracked ⟨oc, hoc, I.freeC x c hc⟩ hs, by simpa using I.len⟩ ⟨c, hs, .inr hc⟩
    · exact (hs.2 b (Nat.ne_of_lt (Nat.lt_of_lt_of_le (Heap.lt_size e) (I.ok.cab x c hfn hc)))).trans (I.base.keep b o e n hb hx)
    · obtain ⟨sl, e1⟩ := I.base.slot b o e n hb hx
      exact ⟨sl, (hs.2 b (Nat.ne_of_lt (Nat.lt_of_lt_of_le (Heap.lt_size e) (I.ok.cab x c hfn hc)))).trans e1⟩
    · obtain ⟨o', e1⟩ := I.base.there b o e hx
      exact ⟨o', (hs.2 b (Nat.ne_of_lt (Nat.lt_of_lt_of_le (Heap.lt_size e) (I.ok.cab x c hfn hc)))).trans e1⟩
    · by_cases hj : j = i
      · subst hj
        rw [hi] at e1; cases e1
        rw [List.getElem?_set_self hiσ] at e2
        cases e2
        exact ⟨u, r, .inr ⟨.inl hk, c, hc, hc'⟩⟩
      · rw [List.getElem?_set_ne (Ne.symm hj)] at e2
        obtain ⟨u', r', q⟩ := hl j y v' e1 e2 e3
        refine ⟨u', r', ?_⟩
        rcases q with q | ⟨k, c', e, z'⟩
        · exact .inl q
        · refine .inr ⟨k, c', e, z'.sameBut hs ?_⟩
          rintro rfl
          exact hj (nodup_ix hN e1 (I.ok.inj _ _ _ e hc ▸ hi))
    · by_cases hcc : c' = c
      · subst hcc; exact ⟨_, hc'⟩
      · obtain ⟨w2, z2⟩ := I.cell y c' e
        exact ⟨w2, z2.sameBut hs hcc⟩
    · obtain ⟨e, n, ne, nf, d⟩ := I.pin p hp
      refine ⟨(hs.2 p.1 ?_).trans e, n, ne, nf, d⟩
      intro q
      rw [q, hoc] at e
      have q' : oc = p.2 := Option.some.inj e
      exact d w' (by rw [← q']; exact hocd)
theorem store_ok {M : Model} {A : Around} {E : Value → Shared → Prop} {i : Nat} {x : Str} {v : V} {u : Value} {Q : Unit → Shared → Prop} (I : Inv X pins σ H s) (hN : X.N.Nodup) (hi : X.N[i]? = some x) (hx : Loc X.env.scope x) (r : RelV v u)
    (h : ∀ s', Inv X pins (σ.set i (some v)) H s' → Q () s') (hf : X.fn x = true ∨ X.env.scope.names.lookup x = some .local := by first | exact .inl rfl | exact .inr rfl | assumption) : wpAny M A (storeName X.env x u) Q E s :=
  store_ok2 I hN hi hx r (fun s' I' _ => h s' I') hf
/-- behind a call or a block, the state as it is -/
theorem Inv.call' {s' : Shared} {ch : List Addr} (I : Inv X pins σ H s) (ho : s'.os = s.os) (u : Un (frs X.stack) ch H H' s.heap s'.heap) (hok : HOk X.prog X.w H' s'.heap) (hg : AllBare s'.gens)
    (hch : ∀ b ∈ ch, (b ∈ X.ex ∨ X.s₀.heap.objs.size ≤ b) ∧ b ≠ X.env.locals ∧ (∀ x c, X.env.cells.lookup x = some c → c ≠ b) ∧ ∀ p ∈ X.pn ++ pins, p.1 ≠ b) : Inv X pins σ H' s' := by
  obtain ⟨h', g', d', t', o'⟩ := s'
  have e : o' = s.os := ho
  subst e
  exact I.call (g' := g') (t' := t') (d' := d') u hok hg hch
end

/-! ### the judgements -/
/-- an exception: its class, its own dict's address (where it has one), the abstract heap behind it -/
abbrev XK := Value → Option Addr → Hp → Prop
abbrev St := List (Option V)
abbrev VK := V → Hp → Prop
/-- an expression's reading; a test's; an argument list's -/
abbrev TE := St → Hp → VK → Prop
abbrev TT := St → Hp → (Bool → Hp → Prop) → Prop
abbrev TA := St → Hp → (List V → Hp → Prop) → Prop
/-- what is wanted behind a statement -/
structure Ends where
  nx : St → Hp → Prop
  rt : VK
  bk : St → Hp → Prop := fun _ _ => False
  ct : St → Hp → Prop := fun _ _ => False
abbrev TS := Ends → St → Hp → Prop

def EP (X : Cx) (pins : List (Addr × Obj)) (σ : St) (Q : VK) (u : Value) (s' : Shared) : Prop := ∃ v H', Inv X pins σ H' s' ∧ RelV v u ∧ Q v H'
def TP (X : Cx) (pins : List (Addr × Obj)) (σ : St) (Q : Bool → Hp → Prop) (b : Bool) (s' : Shared) : Prop := ∃ H', Inv X pins σ H' s' ∧ Q b H'
def AP (X : Cx) (pins : List (Addr × Obj)) (σ : St) (Q : List V → Hp → Prop) (us : List Value) (s' : Shared) : Prop := ∃ vs H', Inv X pins σ H' s' ∧ Vals vs us ∧ Q vs H'
def SP (X : Cx) (pins : List (Addr × Obj)) (D : Ends) (f : Flow) (s' : Shared) : Prop :=
  match f with
  | .next => ∃ σ' H', Inv X pins σ' H' s' ∧ D.nx σ' H'
  | .brk => ∃ σ' H', Inv X pins σ' H' s' ∧ D.bk σ' H'
  | .cont => ∃ σ' H', Inv X pins σ' H' s' ∧ D.ct σ' H'
  | .ret u => ∃ v σ' H', Inv X pins σ' H' s' ∧ RelV v u ∧ D.rt v H'

def PE (X : Cx) (e : Expr) (t : TE) : Prop :=
  ∀ (pins : List (Addr × Obj)) (s : Shared) (σ : St) (H : Hp) (Q : VK), Inv X pins σ H s → t σ H Q → wpAny (model X.prog X.w) X.A (eval e X.env) (EP X pins σ Q) X.xe s
def PT (X : Cx) (e : Expr) (t : TT) : Prop :=
  ∀ (pins : List (Addr × Obj)) (s : Shared) (σ : St) (H : Hp) (Q : Bool → Hp → Prop), Inv X pins σ H s → t σ H Q → wpAny (model X.prog X.w) X.A (isTrue e X.env (eval e X.env)) (TP X pins σ Q) X.xe s
/-- a test whatever its 'whole' is (and, or) -/
def PW (X : Cx) (e : Expr) (t : TT) : Prop :=
  ∀ (whole : Sem Value) (pins : List (Addr × Obj)) (s : Shared) (σ : St) (H : Hp) (Q : Bool → Hp → Prop), Inv X pins σ H s → t σ H Q → wpAny (model X.prog X.w) X.A (isTrue e X.env whole) (TP X pins σ Q) X.xe s
theorem PW.pt {X : Cx} {e : Expr} {t : TT} (h : PW X e t) : PT X e t := h _
/-- an argument list (no star), from the left -/
def PA (X : Cx) (es : List Expr) (t : TA) : Prop :=
  ∀ (pos : Pos) (pins : List (Addr × Obj)) (s : Shared) (σ : St) (H : Hp) (Q : List V → Hp → Prop), Inv X pins σ H s → t σ H Q → wpAny (model X.prog X.w) X.A (spliced (backTo pos (starEach es X.env))) (AP X pins σ Q) X.xe s
def PS (X : Cx) (st : Stmt) (t : TS) : Prop :=
  ∀ (pins : List (Addr × Obj)) (s : Shared) (σ : St) (H : Hp) (D : Ends), Inv X pins σ H s → t D σ H → wpAny (model X.prog X.w) X.A (exec st X.env) (SP X pins D) X.xe s
def PSs (X : Cx) (st : List Stmt) (t : TS) : Prop :=
  ∀ (pins : List (Addr × Obj)) (s : Shared) (σ : St) (H : Hp) (D : Ends), Inv X pins σ H s → t D σ H → wpAny (model X.prog X.w) X.A (execs st X.env) (SP X pins D) X.xe s
/-- weaken the end -/
theorem thn {α : Type} {t : Sem α} {Q Q' : α → Shared → Prop} {M : Model} {A : Around} {E : Value → Shared → Prop} {s : Shared} (h : wpAny M A t Q E s) (hQ : ∀ a s, Q a s → Q' a s) : wpAny M A t Q' E s := wpAny_mono h hQ fun _ _ x => x
end L2

namespace L2
open PySem PySem.Spec PyProof.Rows
section
variable {X : Cx}

/-! ### names and constants -/
def tVar (i : Nat) : TE := fun σ H Q => ∃ v, σ[i]? = some (some v) ∧ Q v H
def tC (v : V) : TE := fun _ H Q => Q v H
theorem pe_var {i : Nat} {x : Str} {pos : Pos} (hN : X.N[i]? = some x) (hv : Vis X.env.scope x) (hd : (x == ("__debug__" : Str)) = false := by decide) (hcd : (x == ("__classdict__" : Str)) = false := by decide) : PE X (.Name x pos) (tVar i) := by
  intro pins s σ H Q I h
  obtain ⟨v, e, h⟩ := h
  obtain ⟨m, hn, hl⟩ := I.loc
  obtain ⟨u, r, l⟩ := hl i x v hN e hv
  have fin : EP X pins σ Q u s := ⟨v, H, I, r, h⟩
  rcases l with ⟨hk, hm⟩ | ⟨hk, c, hc, hcell⟩
  · exact wpAny_Name (wpAny_loadName_local I.ok.kind hk hn hm fin) hd
  · rcases hk with hk | hk
    · exact wpAny_Name (wpAny_loadName_cell I.ok.kind hk hc hcell fin) hd
    · exact wpAny_Name (wpAny_loadName_free I.ok.kind hk hc hcell fin hcd) hd
theorem pe_int {i j pos} : PE X (.Constant (.int i) j pos) (tC (.int i)) := fun _ _ _ H _ I h => wpAny_Constant_int ⟨.int i, H, I.tok _, ⟨_, rfl⟩, h⟩
theorem pe_bl {b j pos} : PE X (.Constant (.bool b) j pos) (tC (.bl b)) := fun _ _ _ H _ I h => Constant_bool ⟨.bl b, H, I, rfl, h⟩
theorem pe_non {j pos} : PE X (.Constant .none j pos) (tC .non) := fun _ _ _ H _ I h => Constant_none ⟨.non, H, I, rfl, h⟩
theorem pe_str {x j pos} : PE X (.Constant (.str x) j pos) (tC (.str x)) := fun _ _ _ H _ I h => Calls.Constant_str ⟨.str x, H, I.tok _, ⟨_, rfl⟩, h⟩

/-- a global name of the def -/
def Gl (X : Cx) (x : Str) : Prop := X.env.kindOf x = some .globalImplicit
theorem ld_glob {E : Value → Shared → Prop} {pins : List (Addr × Obj)} {s : Shared} {σ : St} {H : Hp} {x : Str} {u : Value} {pos : Pos} {Q : Value → Shared → Prop} (I : Inv X pins σ H s) (hg : Gl X x) (hm : X.mg x = some u) (h : Q u s)
    (hd : (x == ("__debug__" : Str)) = false := by decide) : wpAny (model X.prog X.w) X.A (eval (.Name x pos) X.env) Q E s :=
  Calls.Name_function_global I.ok.kind hg (Calls.loadGlobal_global (by rw [I.ok.glob]; exact I.mod.glob.keeps I.bk) hm h) hd
theorem ld_blt {E : Value → Shared → Prop} {pins : List (Addr × Obj)} {s : Shared} {σ : St} {H : Hp} {x : Str} {u : Value} {pos : Pos} {Q : Value → Shared → Prop} (I : Inv X pins σ H s) (hg : Gl X x) (hm : X.mg x = none) (hv : bootBuiltins x = some u) (h : Q u s)
    (hn : x ≠ "__name__" := by decide) (hd : (x == ("__debug__" : Str)) = false := by decide) : wpAny (model X.prog X.w) X.A (eval (.Name x pos) X.env) Q E s := by
  obtain ⟨mb, h1, h2⟩ := I.mod.blt
  exact Calls.Name_function_global I.ok.kind hg (Calls.loadGlobal_builtin (by rw [I.ok.glob]; exact I.mod.glob.keeps I.bk) hm (by rw [I.ok.blt]; exact h1.keeps I.bk) ((h2 x hn).trans hv) h) hd
/-- a module's constant, a class, a function, as a value -/
theorem pe_glob {x : Str} {v : V} {u : Value} {pos : Pos} (hg : Gl X x) (hm : X.mg x = some u) (r : RelV v u) (hd : (x == ("__debug__" : Str)) = false := by decide) : PE X (.Name x pos) (tC v) :=
  fun _ _ _ H _ I h => ld_glob I hg hm ⟨v, H, I, r, h⟩ hd
theorem pe_bltn {x : Str} {v : V} {u : Value} {pos : Pos} (hg : Gl X x) (hm : X.mg x = none) (hv : bootBuiltins x = some u) (r : RelV v u) (hn : x ≠ "__name__" := by decide) (hd : (x == ("__debug__" : Str)) = false := by decide) : PE X (.Name x pos) (tC v) :=
  fun _ _ _ H _ I h => ld_blt I hg hm hv ⟨v, H, I, r, h⟩ hn hd

/-! ### arithmetic -/
variable {a b : Expr} {ta tb : TE} {pos : Pos}
/-! ### comparisons -/
/-- a comparison as a value, as a test -/
def tB (t : TE) : TT := fun σ H Q => t σ H fun x H1 => ∃ c, x = .bl c ∧ Q c H1
/-- an expression whose value is a bool, as a test -/
theorem pt_val {e : Expr} {t : TE} (h : PE X e t) (he : ∀ whole, isTrue e X.env whole = (do let v ← whole; standAt e.pos; holding [v] (truthy v)) := by intro _; rfl) : PT X e (tB t) := by
  intro pins s σ H Q I hw
  refine isTrue_plain (thn (h pins s σ H _ I hw) fun v s1 ⟨x, H1, I1, r1, q1⟩ => ?_) (he _)
  obtain ⟨d, rfl, q⟩ := q1
  cases r1
  exact wpAny_truthy_bool ⟨H1, I1, q⟩

/-! ### and, or, not -/
variable {tA tB' : TT} {rest : List Expr}
def tAnd (t u : TT) : TT := fun σ H Q => t σ H fun c H1 => if c = true then u σ H1 Q else Q false H1
def tOr (t u : TT) : TT := fun σ H Q => t σ H fun c H1 => if c = true then Q true H1 else u σ H1 Q
def tNot (t : TT) : TT := fun σ H Q => t σ H fun c H1 => Q (!c) H1
theorem pw_and1 (ha : PT X a tA) : PW X (.BoolOp .And [a] pos) tA := by
  intro wh pins s σ H Q I h
  refine isTrue_and (thn (ha pins s σ H Q I h) fun c s1 e => ?_)
  cases c with
  | true => exact isTrue_and_nil e
  | false => exact e
theorem pw_or1 (ha : PT X a tA) : PW X (.BoolOp .Or [a] pos) tA := by
  intro wh pins s σ H Q I h
  refine isTrue_or (thn (ha pins s σ H Q I h) fun c s1 e => ?_)
  cases c with
  | false => exact isTrue_or_nil e
  | true => exact e
theorem pw_and (ha : PT X a tA) (hb : PW X (.BoolOp .And (b :: rest) pos) tB') : PW X (.BoolOp .And (a :: b :: rest) pos) (tAnd tA tB') := by
  intro wh pins s σ H Q I h
  refine isTrue_and (thn (ha pins s σ H _ I h) fun c s1 ⟨H1, I1, q1⟩ => ?_)
  cases c with
  | true => exact hb wh pins s1 σ H1 Q I1 q1
  | false => exact ⟨H1, I1, q1⟩
theorem pw_or (ha : PT X a tA) (hb : PW X (.BoolOp .Or (b :: rest) pos) tB') : PW X (.BoolOp .Or (a :: b :: rest) pos) (tOr tA tB') := by
  intro wh pins s σ H Q I h
  refine isTrue_or (thn (ha pins s σ H _ I h) fun c s1 ⟨H1, I1, q1⟩ => ?_)
  cases c with
  | true => exact ⟨H1, I1, q1⟩
  | false => exact hb wh pins s1 σ H1 Q I1 q1
theorem pt_not (ha : PT X a tA) : PT X (.UnaryOp .Not a pos) (tNot tA) := by
  intro pins s σ H Q I h
  exact isTrue_not (ha pins s σ H (fun c H1 => Q (!c) H1) I h)
/-- .. as values (bools) -/
def tAndV (ta tb : TE) : TE := fun σ H Q => ta σ H fun x H1 => ∃ c, x = .bl c ∧ if c = true then tb σ H1 Q else Q (.bl false) H1
def tNotV (ta : TE) : TE := fun σ H Q => ta σ H fun x H1 => ∃ c, x = .bl c ∧ Q (.bl (!c)) H1
theorem pe_one {op} {t : TE} (h : PE X a t) : PE X (.BoolOp op [a] pos) t := fun pins s σ H Q I hw => BoolOp_one (h pins s σ H Q I hw)
theorem pe_and (ha : PE X a ta) (hb : PE X (.BoolOp .And (b :: rest) pos) tb) : PE X (.BoolOp .And (a :: b :: rest) pos) (tAndV ta tb) := by
  intro pins s σ H Q I h
  refine BoolOp_and (thn (ha pins s σ H _ I h) fun v s1 ⟨x, H1, I1, r1, q1⟩ => ?_)
  obtain ⟨c, rfl, q1⟩ := q1
  cases r1
  refine wpAny_truthy_bool ?_
  cases c with
  | true => exact hb pins s1 σ H1 Q I1 q1
  | false => exact ⟨.bl false, H1, I1, rfl, q1⟩
theorem pe_not (ha : PE X a ta) : PE X (.UnaryOp .Not a pos) (tNotV ta) := by
  intro pins s σ H Q I h
  refine UnaryOp_ (thn (ha pins s σ H _ I h) fun v s1 ⟨x, H1, I1, r1, q1⟩ => ?_)
  obtain ⟨c, rfl, q1⟩ := q1
  cases r1
  exact not_of (wpAny_truthy_bool ⟨.bl (!c), H1, I1, rfl, q1⟩)
end
end L2

namespace L2
open PySem PySem.Spec PyProof.Rows

/-! ### a list, a tuple that is read: tracked, frozen, or an object of the module -/
def SqL (K : PySem.W.Frag) (H : Hp) (a : Addr) (xs : List V) : Prop :=
  Rd H a (.lst xs) ∨
    ∃ (o : Obj) (its : Array Value) (n : Nat), K.lookup a = some o ∧ o.cls = .type "list" ∧ o.dict = none ∧ o.data = .seq its n ∧ its.size ≤ sizeLine ∧ Vals xs its.toList
def SqT (K : PySem.W.Frag) (H : Hp) (a : Addr) (xs : List V) : Prop :=
  Rd H a (.tup xs) ∨
    ∃ (o : Obj) (its : Array Value) (n : Nat), K.lookup a = some o ∧ o.cls = .type "tuple" ∧ o.data = .seq its n ∧ its.size ≤ sizeLine ∧ Vals xs its.toList
def absV : Value → Option V
  | .none => some .non
  | .bool b => some (.bl b)
  | .int i _ => some (.int i)
  | .str x _ => some (.str x)
  | .bytes b _ => some (.byt b)
  | .float b _ => some (.flt b)
  | .ref a => some (.ref a)
  | .type n => some (.ty n)
  | _ => none
theorem RelV.abs {x : V} {u : Value} (r : RelV x u) : absV u = some x := by
  cases x with
  | non => cases r; rfl
  | bl _ => cases r; rfl
  | int _ => obtain ⟨t, rfl⟩ := r; rfl
  | str _ => obtain ⟨t, rfl⟩ := r; rfl
  | byt _ => obtain ⟨t, rfl⟩ := r; rfl
  | flt _ => obtain ⟨t, rfl⟩ := r; rfl
  | ref _ => cases r; rfl
  | ty _ => cases r; rfl
theorem RelV.inj {x y : V} {u : Value} (r : RelV x u) (q : RelV y u) : x = y := Option.some.inj (r.abs.symm.trans q.abs)
theorem Vals.inj : ∀ {xs ys : List V} {us : List Value}, Vals xs us → Vals ys us → xs = ys
  | _, _, _, .nil, .nil => rfl
  | _, _, _, .cons r t, .cons r' t' => by rw [r.inj r', Vals.inj t t']
section
variable {X : Cx} {pins : List (Addr × Obj)} {σ : St} {H : Hp} {s : Shared} {a : Addr} {xs ys : List V}
theorem SqL.of {K : PySem.W.Frag} (h : H a = some (.lst xs)) : SqL K H a xs := .inl (.inl h)
theorem SqT.of {K : PySem.W.Frag} (h : H a = some (.tup xs)) : SqT K H a xs := .inl (.inl h)
theorem Inv.list (I : Inv X pins σ H s) (h : SqL X.K H a xs) : ∃ its : List Value, Vals xs its ∧ PlainL s.heap a its.toArray ∧ xs.length ≤ sizeLine := by
  rcases h with h | ⟨o, its, n, hk, hc, hd, hs, hz, r⟩
  · obtain ⟨z, its, n, r, e⟩ := h.ok I.hok
    exact ⟨its, r, ⟨_, n, e, rfl, rfl, rfl⟩, z⟩
  · refine ⟨its.toList, r, ⟨o, n, I.kIn a o hk, hc, hd, by simpa using hs⟩, ?_⟩
    have e := r.length
    simp only [Array.length_toList] at e
    omega
theorem Inv.tuple (I : Inv X pins σ H s) (h : SqT X.K H a xs) : ∃ its : List Value, Vals xs its ∧ IsTup s.heap a its.toArray ∧ xs.length ≤ sizeLine := by
  rcases h with h | ⟨o, its, n, hk, hc, hs, hz, r⟩
  · obtain ⟨z, its, r, p⟩ := h.ok I.hok
    exact ⟨its, r, p, z⟩
  · refine ⟨its.toList, r, ⟨o, I.kIn a o hk, hc, n, by simpa using hs⟩, ?_⟩
    have e := r.length
    simp only [Array.length_toList] at e
    omega
theorem Inv.list_inj (I : Inv X pins σ H s) (h : SqL X.K H a xs) (h' : SqL X.K H a ys) : xs = ys := by
  obtain ⟨its, r, ⟨o, n, e, _, _, d⟩, _⟩ := I.list h
  obtain ⟨its', r', ⟨o', n', e', _, _, d'⟩, _⟩ := I.list h'
  rw [e] at e'; cases e'
  rw [d] at d'
  injection d' with d1 _
  have : its = its' := by simpa using congrArg Array.toList d1
  subst this
  exact r.inj r'
theorem Inv.tuple_inj (I : Inv X pins σ H s) (h : SqT X.K H a xs) (h' : SqT X.K H a ys) : xs = ys := by
  obtain ⟨its, r, ⟨o, e, _, n, d⟩, _⟩ := I.tuple h
  obtain ⟨its', r', ⟨o', e', _, n', d'⟩, _⟩ := I.tuple h'
  rw [e] at e'; cases e'
  rw [d] at d'
  injection d' with d1 _
  have : its = its' := by simpa using congrArg Array.toList d1
  subst this
  exact r.inj r'
end

/-! ### another wish about exceptions -/
abbrev Cx.wish (X : Cx) (E : Value → Shared → Prop) : Cx := { X with xe := E }
/-- no exception leaves -/
abbrev Cx.nox (X : Cx) : Cx := X.wish fun _ _ => False
theorem Cx.Ok.wish {X : Cx} (ok : X.Ok) (E : Value → Shared → Prop) : (X.wish E).Ok :=
  ⟨ok.mod, ok.kind, ok.glob, ok.blt, ok.above, ok.inj, ok.has, ok.cab, ok.hd, ok.frames, ok.stk, ok.exf, ok.bs, ok.bsz, ok.noex, ok.exfs, ok.funs, ok.frf⟩
theorem Cx.Ok.unwish {X : Cx} {E : Value → Shared → Prop} (ok : (X.wish E).Ok) : X.Ok :=
  ⟨ok.mod, ok.kind, ok.glob, ok.blt, ok.above, ok.inj, ok.has, ok.cab, ok.hd, ok.frames, ok.stk, ok.exf, ok.bs, ok.bsz, ok.noex, ok.exfs, ok.funs, ok.frf⟩
section
variable {X : Cx} {pins : List (Addr × Obj)} {σ : St} {H : Hp} {s : Shared} {E : Value → Shared → Prop}
theorem Inv.wish (I : Inv X pins σ H s) (E : Value → Shared → Prop) : Inv (X.wish E) pins σ H s := ⟨I.ok.wish E, I.os, I.bare, I.base, I.loc, I.cell, I.free, I.freeC, I.pin, I.hok, I.len⟩
theorem Inv.unwish (I : Inv (X.wish E) pins σ H s) : Inv X pins σ H s := ⟨I.ok.unwish, I.os, I.bare, I.base, I.loc, I.cell, I.free, I.freeC, I.pin, I.hok, I.len⟩
theorem SP.unwish {D : Ends} {f : Flow} {s' : Shared} (h : SP (X.wish E) pins D f s') : SP X pins D f s' := by
  cases f with
  | next => obtain ⟨σ', H', I, q⟩ := h; exact ⟨σ', H', I.unwish, q⟩
  | brk => obtain ⟨σ', H', I, q⟩ := h; exact ⟨σ', H', I.unwish, q⟩
  | cont => obtain ⟨σ', H', I, q⟩ := h; exact ⟨σ', H', I.unwish, q⟩
  | ret u => obtain ⟨v, σ', H', I, r, q⟩ := h; exact ⟨v, σ', H', I.unwish, r, q⟩
theorem PE.nox {e : Expr} {t : TE} (h : PE X.nox e t) : PE X e t := fun pins s σ H Q I hw =>
  wpAny_mono (h pins s σ H Q (I.wish _) hw) (fun _ _ ⟨v, H', I', r, q⟩ => ⟨v, H', I'.unwish, r, q⟩) fun _ _ z => False.elim z
theorem PT.nox {e : Expr} {t : TT} (h : PT X.nox e t) : PT X e t := fun pins s σ H Q I hw =>
  wpAny_mono (h pins s σ H Q (I.wish _) hw) (fun _ _ ⟨H', I', q⟩ => ⟨H', I'.unwish, q⟩) fun _ _ z => False.elim z
theorem PSs.nox {st : List Stmt} {t : TS} (h : PSs X.nox st t) : PSs X st t := fun pins s σ H D I hw =>
  wpAny_mono (h pins s σ H D (I.wish _) hw) (fun _ _ q => q.unwish) fun _ _ z => False.elim z
end

/-! ### blocks and small statements -/
section
variable {X : Cx} {st : Stmt} {rest : List Stmt} {t u : TS} {e : Expr} {te : TE} {pos : Pos}
def tNext : TS := fun D σ H => D.nx σ H
def tSeq (t u : TS) : TS := fun D σ H => t { D with nx := u D } σ H
theorem pss_nil : PSs X [] tNext := fun _ _ σ H _ I h => wpAny_execs_nil ⟨σ, H, I, h⟩
theorem pss_cons (h1 : PS X st t) (h2 : PSs X rest u) : PSs X (st :: rest) (tSeq t u) := by
  intro pins s σ H D I h
  refine wpAny_execs_cons (thn (h1 pins s σ H { D with nx := u D } I h) fun f s1 q => ?_)
  cases f with
  | next =>
    obtain ⟨σ', H', I', q⟩ := q
    exact h2 pins s1 σ' H' D I' q
  | ret v => exact q
  | brk => exact q
  | cont => exact q
theorem pss_one (h1 : PS X st t) : PSs X [st] t := by
  intro pins s σ H D I h
  refine wpAny_execs_cons (thn (h1 pins s σ H D I h) fun f s1 q => ?_)
  cases f with
  | next => exact wpAny_execs_nil q
  | ret v => exact q
  | brk => exact q
  | cont => exact q
/-- in a def's body nothing is shown -/
theorem Inv.quiet {pins : List (Addr × Obj)} {σ : St} {H : Hp} {s : Shared} (I : Inv X pins σ H s) : interactive X.env = false := by simp [interactive, I.ok.kind]
/-- an expression whose value is dropped -/
def tDrop (te : TE) : TS := fun D σ H => te σ H fun _ H1 => D.nx σ H1
theorem ps_expr (he : PE X e te) (hs : swapsWith e none pos.line X.env = pure false := by rfl) : PS X (.Expr e pos) (tDrop te) := by
  intro pins s σ H D I h
  exact wpAny_Expr_any (thn (he pins s σ H _ I h) fun v s1 ⟨x, H1, I1, r1, q1⟩ => ⟨σ, H1, I1, q1⟩) I.quiet hs
def tRet (te : TE) : TS := fun D σ H => te σ H D.rt
theorem ps_ret (he : PE X e te) : PS X (.Return (some e) pos) (tRet te) := by
  intro pins s σ H D I h
  exact wpAny_Return_some (thn (he pins s σ H _ I h) fun v s1 ⟨x, H1, I1, r1, q1⟩ => ⟨x, σ, H1, I1, r1, q1⟩)
def tIfS (c : TT) (t u : TS) : TS := fun D σ H => c σ H fun b H1 => if b = true then t D σ H1 else u D σ H1
theorem ps_if {c : Expr} {a b : List Stmt} {tc : TT} (hc : PT X c tc) (ha : PSs X a t) (hb : PSs X b u) : PS X (.If c a b pos) (tIfS tc t u) := by
  intro pins s σ H D I h
  refine wpAny_If (thn (hc pins s σ H _ I h) fun d s1 ⟨H1, I1, q1⟩ => ?_)
  cases d with
  | true => exact ha pins s1 σ H1 D I1 q1
  | false => exact hb pins s1 σ H1 D I1 q1
end

/-! ### targets -/
abbrev TG := V → St → Hp → (St → Hp → Prop) → Prop
abbrev TGs := List V → St → Hp → (St → Hp → Prop) → Prop
def PG (X : Cx) (target : Expr) (t : TG) : Prop :=
  ∀ (pins : List (Addr × Obj)) (s : Shared) (σ : St) (H : Hp) (v : V) (u : Value) (Q : St → Hp → Prop), Inv X pins σ H s → RelV v u → t v σ H Q →
    wpAny (model X.prog X.w) X.A (assign target X.env u) (fun _ s' => ∃ σ' H', Inv X pins σ' H' s' ∧ Q σ' H') X.xe s
/-- several targets, one after another -/
def PGs (X : Cx) (ts : List Expr) (t : TGs) : Prop :=
  ∀ (pins : List (Addr × Obj)) (s : Shared) (σ : St) (H : Hp) (vs : List V) (us : List Value) (Q : St → Hp → Prop), Inv X pins σ H s → Vals vs us → t vs σ H Q →
    wpAny (model X.prog X.w) X.A (assignInOrder ((assignEach ts X.env).map (·.2)) us) (fun _ s' => ∃ σ' H', Inv X pins σ' H' s' ∧ Q σ' H') X.xe s
/-- o[i] = v, by values -/
abbrev TSet := V → V → V → Hp → (Hp → Prop) → Prop
def PSet (X : Cx) (t : TSet) : Prop :=
  ∀ (pins : List (Addr × Obj)) (s : Shared) (σ : St) (H : Hp) (o i v : V) (ov iv u : Value) (Q : Hp → Prop), Inv X pins σ H s → RelV o ov → RelV i iv → RelV v u → t o i v H Q →
    wpAny (model X.prog X.w) X.A (setItem ov iv u) (fun _ s' => ∃ H', Inv X pins σ H' s' ∧ Q H') X.xe s
section
variable {X : Cx} {pos : Pos}
def gName (i : Nat) : TG := fun v σ H Q => Q (σ.set i (some v)) H
theorem pg_name {i : Nat} {x : Str} (hN : X.N.Nodup) (hi : X.N[i]? = some x) (hx : Loc X.env.scope x) (hf : X.fn x = true ∨ X.env.scope.names.lookup x = some .local := by first | exact .inl rfl | exact .inr rfl | assumption) : PG X (.Name x pos) (gName i) := by
  intro pins s σ H v u Q I r h
  exact wpAny_assign_Name (store_ok I hN hi hx r (fun s' I' => ⟨_, H, I', h⟩) hf)
def gNil : TGs := fun vs σ H Q => vs = [] ∧ Q σ H
def gCons (t : TG) (u : TGs) : TGs := fun vs σ H Q => ∃ v r, vs = v :: r ∧ t v σ H fun σ' H' => u r σ' H' Q
theorem pgs_nil : PGs X [] gNil := by
  intro pins s σ H vs us Q I r h
  obtain ⟨e, h⟩ := h
  subst e
  cases r
  exact assignInOrder_nil ⟨σ, H, I, h⟩
theorem pgs_cons {e : Expr} {es : List Expr} {t : TG} {u : TGs} (h1 : PG X e t) (h2 : PGs X es u)
    (hs : (assignEach (e :: es) X.env).map (·.2) = assign e X.env :: (assignEach es X.env).map (·.2) := by rfl) : PGs X (e :: es) (gCons t u) := by
  intro pins s σ H vs us Q I r h
  obtain ⟨v, vr, e1, h⟩ := h
  subst e1
  cases r with
  | cons r rr =>
    rw [hs]
    refine assignInOrder_cons (thn (h1 pins s σ H _ _ _ I r h) fun _ s1 ⟨σ1, H1, I1, q1⟩ => ?_)
    exact h2 pins s1 σ1 H1 _ _ Q I1 rr q1
/-- (a, b, ..) = a tuple of that length -/
def gTup (K : PySem.W.Frag) (n : Nat) (t : TGs) : TG := fun v σ H Q => ∃ a xs, v = .ref a ∧ SqT K H a xs ∧ xs.length = n ∧ t xs σ H Q
theorem pg_tup {es : List Expr} {k : Nat} {t : TGs} {n : Nat} (hc : X.calm = true) (h : PGs X es t)
    (hn : (assignEach es X.env).length = n := by rfl) (hst : (assignEach es X.env).findIdx? (·.1) = none := by rfl) : PG X (.Tuple es k pos) (gTup X.K n t) := by
  intro pins s σ H v u Q I r hw
  obtain ⟨a, xs, e1, hq, hl, hw⟩ := hw
  subst e1
  cases r
  obtain ⟨its, rv, ht, hz⟩ := I.tuple hq
  refine assign_Tuple_tuple (I.ok.hd hc) ht (by simp [hn, ← hl, rv.length]) hst fun h' hx => ?_
  have I1 : Inv X pins σ H { s with heap := h' } := I.kept (t' := s.toks) fun b o e => hx b o (Nat.ne_of_lt (Heap.lt_size e)) e
  exact h pins _ σ H xs _ Q I1 (by simpa using rv) hw
/-- o[i] = .. -/
def gSub (to ti : TE) (t : TSet) : TG := fun v σ H Q => to σ H fun o H1 => ti σ H1 fun i H2 => t o i v H2 fun H3 => Q σ H3
theorem pg_sub {o i : Expr} {to ti : TE} {t : TSet} (ho : PE X o to) (hi : PE X i ti) (hs : PSet X t)
    (ha : ∀ v, assign (.Subscript o i pos) X.env v = (do
      let ov ← holding [v] (eval o X.env)
      let iv ← holding [v, ov] (eval i X.env)
      standAt pos
      holding [v, ov, iv] (setItem ov iv v)
      release [v, ov, iv] []) := by intro _; rfl) : PG X (.Subscript o i pos) (gSub to ti t) := by
  intro pins s σ H v u Q I r h
  rw [ha]
  refine wpAny_bind (wpAny_holding (thn (ho pins s σ H _ I h) fun ov s1 ⟨x, H1, I1, r1, q1⟩ => ?_))
  refine wpAny_bind (wpAny_holding (thn (hi pins s1 σ H1 _ I1 q1) fun iv s2 ⟨y, H2, I2, r2, q2⟩ => ?_))
  refine wpAny_bind (wpAny_standAt (wpAny_bind (wpAny_holding (thn (hs pins s2 σ H2 x y v ov iv u _ I2 r1 r2 r q2) fun _ s3 ⟨H3, I3, q3⟩ => ?_))))
  exact wpAny_release ⟨σ, H3, I3, q3⟩
/-- target = value -/
def tAsg (te : TE) (g : TG) : TS := fun D σ H => te σ H fun x H1 => g x σ H1 D.nx
theorem ps_asg {tg e : Expr} {te : TE} {g : TG} (he : PE X e te) (hg : PG X tg g) (hs : swapsWithSole [tg] e pos.line X.env = pure false := by rfl) (hw : swappedStores [tg] e X.env = pure none := by rfl)
    (h1 : (assignEach [tg] X.env).map (·.2) = [assign tg X.env] := by rfl) : PS X (.Assign [tg] e pos) (tAsg te g) := by
  intro pins s σ H D I h
  refine wpAny_Assign_stores (thn (he pins s σ H _ I h) fun v s1 ⟨x, H1, I1, r1, q1⟩ => ?_) hs hw
  rw [h1]
  exact thn (hg pins s1 σ H1 x v _ I1 r1 q1) fun _ s2 q => q
/-- name = value -/
theorem ps_set {i : Nat} {x : Str} {e : Expr} {te : TE} {pos' : Pos} (hN : X.N.Nodup) (hi : X.N[i]? = some x) (hx : Loc X.env.scope x) (he : PE X e te) (hs : swapsWith e (some (.Name x pos')) pos.line X.env = pure false := by rfl) (hf : X.fn x = true ∨ X.env.scope.names.lookup x = some .local := by first | exact .inl rfl | exact .inr rfl | assumption) :
    PS X (.Assign [.Name x pos'] e pos) (tAsg te (gName i)) := by
  intro pins s σ H D I h
  refine wpAny_Assign_Name (thn (he pins s σ H _ I h) fun v s1 ⟨y, H1, I1, r1, q1⟩ => ?_) hs
  exact store_ok I1 hN hi hx r1 (fun s2 I2 => ⟨_, H1, I2, q1⟩) hf
end

/-! ### while -/
section
variable {X : Cx} {pos : Pos}
end

/-! ### what a loop or a comprehension walks -/
/-- at turn i: it yields x (the heap may grow), or it stops -/
structure It where
  go : Nat → Hp → Prop
  yld : Nat → Hp → V → Hp → Prop
  stop : Nat → Hp → Prop
/-- the iterator's own objects may turn: they are not the frame's, not pinned, younger than the entry (or a comprehension's own) -/
def FpOk (X : Cx) (pins : List (Addr × Obj)) (H : Hp) (b : Addr) : Prop :=
  H b = none ∧ b ≠ X.env.locals ∧ b ∉ X.fs ∧ (b ∈ X.ex ∨ X.s₀.heap.objs.size ≤ b) ∧ (∀ x c, X.env.cells.lookup x = some c → c ≠ b) ∧ ∀ p ∈ X.pn ++ pins, p.1 ≠ b
theorem Inv.fpOk {X : Cx} {pins : List (Addr × Obj)} {σ : St} {H H' : Hp} {s : Shared} {b : Addr} (I : Inv X pins σ H s) (hb : s.heap.objs.size ≤ b) (hn : H' b = none) : FpOk X pins H' b := by
  refine ⟨hn, Nat.ne_of_gt (Nat.lt_of_lt_of_le I.lt hb), I.nofs hb, .inr (Nat.le_trans I.sz hb), fun x c e z => ?_, fun p hp z => ?_⟩
  · obtain ⟨v, q⟩ := I.cell x c e
    exact absurd (Nat.lt_of_lt_of_le q.lt (by rw [z]; exact hb)) (Nat.lt_irrefl _)
  · exact absurd (Nat.lt_of_lt_of_le (Heap.lt_size (I.pin p hp).1) (by rw [z]; exact hb)) (Nat.lt_irrefl _)
structure Turn (P : Program) (w : World) (K : PySem.W.Frag) (tg : Expr) (J : It) (fp : List Addr) (it : Addr) (tn : Nat → Heap → Prop) : Prop where
  mem : it ∈ fp
  obj : ∀ i h, tn i h → ∀ b ∈ fp, ∃ o, h.get? b = some o ∧ ∀ v, o.data ≠ .cell v
  keep : ∀ i h h', tn i h → (∀ b ∈ fp, ∀ o, h.get? b = some o → h'.get? b = some o) → tn i h'
  item : ∀ (X : Cx), X.prog = P → X.w = w → X.K = K → X.calm = true → ∀ (i : Nat) (pins : List (Addr × Obj)) (s : Shared) (σ : St) (H : Hp) (E : Value → Shared → Prop), Inv X pins σ H s → (∀ b ∈ fp, FpOk X pins H b) → tn i s.heap → J.go i H →
    wpAny (model P w) X.A (pyNext (.ref it)) (fun r s1 => ∃ u, r = some u ∧
      wpAny (model P w) X.A (letOwnedTupleGo tg (.ref it) u) (fun _ s2 => ∃ x H', Inv X pins σ H' s2 ∧ RelV x u ∧ J.yld i H x H' ∧ tn (i + 1) s2.heap ∧ ∀ b ∈ fp, H' b = none) E s1) E s
  done : ∀ (X : Cx), X.prog = P → X.w = w → X.K = K → X.calm = true → ∀ (i : Nat) (pins : List (Addr × Obj)) (s : Shared) (σ : St) (H : Hp) (E : Value → Shared → Prop), Inv X pins σ H s → (∀ b ∈ fp, FpOk X pins H b) → tn i s.heap → J.stop i H →
    wpAny (model P w) X.A (pyNext (.ref it)) (fun r s1 => r = none ∧ Inv X pins σ H s1) E s
  self : ∀ (A : Around) (i : Nat) (s : Shared) (Q : Value → Shared → Prop) (E : Value → Shared → Prop), tn i s.heap → Q (.ref it) s → wpAny (model P w) A (pyIter (.ref it)) Q E s
abbrev TI := St → Hp → (It → Hp → Prop) → Prop
/-- an iterator has come -/
def PIE (X : Cx) (pins : List (Addr × Obj)) (σ : St) (tg : Expr) (R : It → Hp → Prop) (itv : Value) (s2 : Shared) : Prop :=
  ∃ (it : Addr) (fp : List Addr) (tn : Nat → Heap → Prop) (J : It) (H' : Hp), itv = .ref it ∧ Inv X pins σ H' s2 ∧ Turn X.prog X.w X.K tg J fp it tn ∧ tn 0 s2.heap ∧ (∀ b ∈ fp, FpOk X pins H' b) ∧ R J H'
def PI (X : Cx) (tg iter : Expr) (wi : TI) : Prop :=
  ∀ (pins : List (Addr × Obj)) (s : Shared) (σ : St) (H : Hp) (R : It → Hp → Prop), Inv X pins σ H s → wi σ H R →
    wpAny (model X.prog X.w) X.A (eval iter X.env) (fun v s1 => wpAny (model X.prog X.w) X.A (pyIter v) (PIE X pins σ tg R) X.xe s1) X.xe s

/-- the step ahead of the store is nothing for an iterator that keeps no tuple -/
theorem go_of {M : Model} {A : Around} {E : Value → Shared → Prop} {s : Shared} {tg : Expr} {it : Addr} {u : Value} {o : Obj} {n : String} {vs : Array Value} {Q : Unit → Shared → Prop} (ho : s.heap.get? it = some o) (hc : o.cls = .type n) (hd : o.data = .fields vs)
    (hn : ["enumerate", "zip", "dict_itemiterator", "dict_reverseitemiterator", "odict_iterator", "itertools.zip_longest", "itertools.pairwise"].contains n = false) (hQ : Q () s) : wpAny M A (letOwnedTupleGo tg (.ref it) u) Q E s := by
  unfold letOwnedTupleGo
  cases tg <;> first
    | exact wpAny_pure hQ
    | (cases u <;> first
        | exact wpAny_pure hQ
        | (refine wpAny_bind (wpAny_load ho ?_)
           rw [hc, hd]
           show wpAny M A (if (["enumerate", "zip", "dict_itemiterator", "dict_reverseitemiterator", "odict_iterator", "itertools.zip_longest", "itertools.pairwise"].contains n && vs[0]? == some (rawInt _)) = true then _ else _) Q E s
           rw [if_neg (by intro h; rw [hn, Bool.false_and] at h; cases h)]
           exact wpAny_pure hQ))

/-- the list at a, as it stands at each turn (a loop may append to it) -/
def Itl (K : PySem.W.Frag) (a : Addr) : It :=
  ⟨fun i H => ∃ xs x, SqL K H a xs ∧ xs[i]? = some x, fun i H x H' => H' = H ∧ ∀ xs, SqL K H a xs → xs[i]? = some x, fun i H => ∃ xs, SqL K H a xs ∧ xs.length ≤ i⟩
def Itt (K : PySem.W.Frag) (a : Addr) : It :=
  ⟨fun i H => ∃ xs x, SqT K H a xs ∧ xs[i]? = some x, fun i H x H' => H' = H ∧ ∀ xs, SqT K H a xs → xs[i]? = some x, fun i H => ∃ xs, SqT K H a xs ∧ xs.length ≤ i⟩
/-- lo, lo + 1, .. (n of them) -/
def Itr (lo : Int) (n : Nat) : It := ⟨fun i _ => i < n, fun i H x H' => H' = H ∧ x = .int (lo + i), fun i _ => n ≤ i⟩
theorem turn_list {P : Program} {w : World} {K : PySem.W.Frag} {tg : Expr} (a it : Addr) : Turn P w K tg (Itl K a) [it] it (fun i h => h.IsListIter it a i) where
  mem := by simp
  obj := fun i h st b hb => by
    have e : b = it := by simpa using hb
    subst e
    obtain ⟨o, e, c, d⟩ := st
    exact ⟨o, e, fun v z => by rw [d] at z; cases z⟩
  keep := fun i h h' st k => st.at fun o e => k it (by simp) o e
  item := by
    intro X hP hw hK hc i pins s σ H E I hf st hg
    subst hP hw hK
    obtain ⟨xs, x, hq, hx⟩ := hg
    obtain ⟨its, rv, p, hz⟩ := I.list hq
    obtain ⟨u, hu, ru⟩ := rv.get hx
    obtain ⟨f0, f1, f2, f3, f4, f5⟩ := hf it (by simp)
    refine wpAny_pyNext_list_item st p.isList (x := u) (by simpa using hu) fun h' st' sb => ?_
    have I1 : Inv X pins σ H { s with heap := h' } := I.turned (t' := s.toks) (fun b o hb e => (sb.2 b hb).trans e) f0 f1 f3 f4 f5
    obtain ⟨o, e, c, d⟩ := id st'
    exact ⟨u, rfl, go_of (s := { s with heap := h' }) e c d (by decide) ⟨x, H, I1, ru, ⟨rfl, fun ys hy => by rw [I.list_inj hy hq]; exact hx⟩, st', fun b hb => (hf b hb).1⟩⟩
  done := by
    intro X hP hw hK hc i pins s σ H E I hf st hg
    subst hP hw hK
    obtain ⟨xs, hq, hx⟩ := hg
    obtain ⟨its, rv, p, hz⟩ := I.list hq
    obtain ⟨f0, f1, f2, f3, f4, f5⟩ := hf it (by simp)
    have hl := rv.length
    exact wpAny_pyNext_list_end (I.ok.hd hc) st p.isList (by simp; omega) fun h' eb => ⟨rfl, I.turned (t' := s.toks) (fun b o hb e => eb b o hb e) f0 f1 f3 f4 f5⟩
  self := fun _ _ _ _ _ st h => wpAny_pyIter_listiter st h
theorem turn_tuple {P : Program} {w : World} {K : PySem.W.Frag} {tg : Expr} (a it : Addr) : Turn P w K tg (Itt K a) [it] it (fun i h => h.IsTupleIter it a i) where
  mem := by simp
  obj := fun i h st b hb => by
    have e : b = it := by simpa using hb
    subst e
    obtain ⟨o, e, c, d⟩ := st
    exact ⟨o, e, fun v z => by rw [d] at z; cases z⟩
  keep := fun i h h' st k => st.at fun o e => k it (by simp) o e
  item := by
    intro X hP hw hK hc i pins s σ H E I hf st hg
    subst hP hw hK
    obtain ⟨xs, x, hq, hx⟩ := hg
    obtain ⟨its, rv, p, hz⟩ := I.tuple hq
    obtain ⟨u, hu, ru⟩ := rv.get hx
    obtain ⟨f0, f1, f2, f3, f4, f5⟩ := hf it (by simp)
    refine wpAny_pyNext_tuple_item st (show s.heap.IsTuple a its.toArray from p) (x := u) (by simpa using hu) fun h' st' sb => ?_
    have I1 : Inv X pins σ H { s with heap := h' } := I.turned (t' := s.toks) (fun b o hb e => (sb.2 b hb).trans e) f0 f1 f3 f4 f5
    obtain ⟨o, e, c, d⟩ := id st'
    exact ⟨u, rfl, go_of (s := { s with heap := h' }) e c d (by decide) ⟨x, H, I1, ru, ⟨rfl, fun ys hy => by rw [I.tuple_inj hy hq]; exact hx⟩, st', fun b hb => (hf b hb).1⟩⟩
  done := by
    intro X hP hw hK hc i pins s σ H E I hf st hg
    subst hP hw hK
    obtain ⟨xs, hq, hx⟩ := hg
    obtain ⟨its, rv, p, hz⟩ := I.tuple hq
    obtain ⟨f0, f1, f2, f3, f4, f5⟩ := hf it (by simp)
    have hl := rv.length
    exact wpAny_pyNext_tuple_end (I.ok.hd hc) st (show s.heap.IsTuple a its.toArray from p) (by simp; omega) fun h' eb => ⟨rfl, I.turned (t' := s.toks) (fun b o hb e => eb b o hb e) f0 f1 f3 f4 f5⟩
  self := fun _ _ _ _ _ st h => wpAny_pyIter_tupleiter st h
theorem turn_range {P : Program} {w : World} {K : PySem.W.Frag} {tg : Expr} (it : Addr) (lo : Int) (n : Nat) : Turn P w K tg (Itr lo n) [it] it (fun i h => IsRangeIter h it (lo + (i : Nat) * 1) ((n : Int) - (i : Nat)) 1) where
  mem := by simp
  obj := fun i h st b hb => by
    have e : b = it := by simpa using hb
    subst e
    exact ⟨_, st, fun v z => by
      have z' : Data.fields _ = Data.cell v := z
      cases z'⟩
  keep := fun i h h' st k => k it (by simp) _ st
  item := by
    intro X hP hw hK hc i pins s σ H E I hf st hg
    subst hP hw hK
    obtain ⟨f0, f1, f2, f3, f4, f5⟩ := hf it (by simp)
    have W := Walks.range (prog := X.prog) (w := X.w) (I.ok.hd hc) it lo 1 n
    refine W.item i s _ _ hg st fun v h' tk hv st' kk => ?_
    obtain ⟨t, rfl⟩ := hv
    have I1 : Inv X pins σ H { s with heap := h', toks := tk } := I.turned (fun b o hb e => kk b o (by simpa using hb) e) f0 f1 f3 f4 f5
    refine ⟨_, rfl, go_of (s := { s with heap := h', toks := tk }) (n := "range_iterator") st' rfl rfl (by decide) ⟨.int (lo + i), H, I1, ⟨t, ?_⟩, ⟨rfl, rfl⟩, st', fun b hb => (hf b hb).1⟩⟩
    rw [Int.mul_one]
  done := by
    intro X hP hw hK hc i pins s σ H E I hf st hg
    subst hP hw hK
    obtain ⟨f0, f1, f2, f3, f4, f5⟩ := hf it (by simp)
    exact wpAny_pyNext_range_end (I.ok.hd hc) st (by have : n ≤ i := hg; omega) fun h' eb => ⟨rfl, I.turned (t' := s.toks) (fun b o hb e => eb b o hb e) f0 f1 f3 f4 f5⟩
  self := fun _ _ _ _ _ st h => wpAny_pyIter_rangeiter st h
end L2

namespace L2
open PySem PySem.Spec PyProof.Rows
section
variable {X : Cx} {tg : Expr}
def iList (K : PySem.W.Frag) (tl : TE) : TI := fun σ H R => tl σ H fun x H1 => ∃ a, x = .ref a ∧ (∃ xs, SqL K H1 a xs) ∧ R (Itl K a) H1
def iTup (K : PySem.W.Frag) (tl : TE) : TI := fun σ H R => tl σ H fun x H1 => ∃ a, x = .ref a ∧ (∃ xs, SqT K H1 a xs) ∧ R (Itt K a) H1
theorem pi_list {l : Expr} {tl : TE} (hl : PE X l tl) : PI X tg l (iList X.K tl) := by
  intro pins s σ H R I h
  refine thn (hl pins s σ H _ I h) fun v s1 ⟨x, H1, I1, r1, q1⟩ => ?_
  obtain ⟨a, e, ⟨xs, hq⟩, q⟩ := q1
  subst e
  cases r1
  obtain ⟨its, rv, p, hz⟩ := I1.list hq
  refine wpAny_pyIter_list p.isList ?_
  refine ⟨s1.heap.objs.size, [s1.heap.objs.size], _, _, H1, rfl, I1.kept (t' := s1.toks) fun b o e => Heap.get?_push_of_some _ e, turn_list a _, ⟨_, Heap.get?_push_size _ rfl, rfl, rfl⟩, fun b hb => ?_, q⟩
  have e : b = s1.heap.objs.size := by simpa using hb
  subst e
  exact I1.fpOk (Nat.le_refl _) (I1.hok.fresh (Nat.le_refl _))
theorem pi_tup {l : Expr} {tl : TE} (hl : PE X l tl) : PI X tg l (iTup X.K tl) := by
  intro pins s σ H R I h
  refine thn (hl pins s σ H _ I h) fun v s1 ⟨x, H1, I1, r1, q1⟩ => ?_
  obtain ⟨a, e, ⟨xs, hq⟩, q⟩ := q1
  subst e
  cases r1
  obtain ⟨its, rv, p, hz⟩ := I1.tuple hq
  refine wpAny_pyIter_tuple (show s1.heap.IsTuple a its.toArray from p) ?_
  refine ⟨s1.heap.objs.size, [s1.heap.objs.size], _, _, H1, rfl, I1.kept (t' := s1.toks) fun b o e => Heap.get?_push_of_some _ e, turn_tuple a _, ⟨_, Heap.get?_push_size _ rfl, rfl, rfl⟩, fun b hb => ?_, q⟩
  have e : b = s1.heap.objs.size := by simpa using hb
  subst e
  exact I1.fpOk (Nat.le_refl _) (I1.hok.fresh (Nat.le_refl _))
/-- a range object just made, walked -/
theorem range_it {pins : List (Addr × Obj)} {σ : St} {H : Hp} {s : Shared} {R : It → Hp → Prop} {E : Value → Shared → Prop} {lo hi : Int} {t u v : Tok} {tk : Nat} (I : Inv X pins σ H s) (h1 : -(2 ^ 62) ≤ lo) (h2 : lo < 2 ^ 62) (h3 : -(2 ^ 62) ≤ hi) (h4 : hi < 2 ^ 62)
    (q : R (Itr lo (hi - lo).toNat) H) : wpAny (model X.prog X.w) X.A (pyIter (.ref s.heap.objs.size)) (PIE X pins σ tg R) E { s with heap := s.heap.push { cls := .type "range", data := .fields #[.int lo t, .int hi u, .int 1 v] }, toks := tk } := by
  refine wpAny_pyIter_range (IsRange.new ..) (small_one h1 h2 h3 h4) ?_
  have I1 : Inv X pins σ H { s with heap := s.heap.push { cls := .type "range", data := .fields #[.int lo t, .int hi u, .int 1 v] }, toks := tk } := I.kept fun b o e => Heap.get?_push_of_some _ e
  refine ⟨(s.heap.push { cls := .type "range", data := .fields #[.int lo t, .int hi u, .int 1 v] }).objs.size, [(s.heap.push { cls := .type "range", data := .fields #[.int lo t, .int hi u, .int 1 v] }).objs.size], _, _, H, rfl,
    I1.kept (t' := tk) fun b o e => Heap.get?_push_of_some _ e, turn_range _ lo (hi - lo).toNat, ?_, fun b hb => ?_, q⟩
  · have e1 : lo + ((0 : Nat) : Int) * 1 = lo := by simp
    have e2 : (((hi - lo).toNat : Nat) : Int) - ((0 : Nat) : Int) = Builtin.Range.rangeSize lo hi 1 := by rw [rangeSize_one]; split <;> omega
    show IsRangeIter _ _ (lo + ((0 : Nat) : Int) * 1) ((((hi - lo).toNat : Nat) : Int) - ((0 : Nat) : Int)) 1
    rw [e1, e2]
    exact Heap.get?_push_size _ rfl
  · have e : b = (s.heap.push { cls := .type "range", data := .fields #[.int lo t, .int hi u, .int 1 v] }).objs.size := by simpa using hb
    subst e
    exact I1.fpOk (Nat.le_refl _) (I1.hok.fresh (Nat.le_refl _))
def iRng1 (ta : TA) : TI := fun σ H R => ta σ H fun vs H1 => ∃ j : Int, vs = [.int j] ∧ -(2 ^ 62) ≤ j ∧ j < 2 ^ 62 ∧ R (Itr 0 j.toNat) H1
theorem pi_range1 {a : Expr} {ta : TA} {p pos : Pos} (hg : Gl X "range") (hm : X.mg "range" = none) (ha : PA X [a] ta) (hs : starEach [a] X.env = [(false, eval a X.env)] := by rfl) : PI X tg (.Call (.Name "range" p) [a] [] pos) (iRng1 ta) := by
  intro pins s σ H R I h
  refine Call_ (ld_blt I hg hm boot_range (PyProof.Rows.callWith_type1 (thn (ha pos pins s σ H _ I h) fun us s1 ⟨vs, H1, I1, r1, q1⟩ => ?_) hs rfl))
  obtain ⟨j, e, q1, q2, q⟩ := q1
  subst e
  cases r1 with
  | cons r rr =>
    cases rr
    obtain ⟨t, rfl⟩ := r
    exact call_range_1 (range_it I1 (by omega) (by omega) q1 q2 (by simpa using q))
/-! ### for -/
/-- W: the invariant by the turn and a measure; N: what the body is to reach -/
def tFor (wi : TI) (g : TG) (tb : TS) : TS := fun D σ H => wi σ H fun J H1 => ∃ W : Nat → Nat → St → Hp → Prop, (∃ m, W 0 m σ H1) ∧ ∀ i m σ H, W i m σ H →
  (J.stop i H ∧ D.nx σ H) ∨ (J.go i H ∧ ∃ N : St → Hp → Prop, (∀ σ' H', N σ' H' → ∃ m', m' < m ∧ W (i + 1) m' σ' H') ∧ ∀ x H', J.yld i H x H' → g x σ H' fun σ2 H2 => tb { D with nx := N, ct := N, bk := D.nx } σ2 H2)
/-- the records at fp as they stand -/
def pinsAt (fp : List Addr) (h : Heap) : List (Addr × Obj) := fp.filterMap fun b => (h.get? b).map fun o => (b, o)
theorem mem_pinsAt {fp : List Addr} {h : Heap} {b : Addr} {o : Obj} (hb : b ∈ fp) (e : h.get? b = some o) : (b, o) ∈ pinsAt fp h := List.mem_filterMap.mpr ⟨b, hb, by rw [e]; rfl⟩
theorem of_pinsAt {fp : List Addr} {h : Heap} {p : Addr × Obj} (hp : p ∈ pinsAt fp h) : p.1 ∈ fp ∧ h.get? p.1 = some p.2 := by
  obtain ⟨b, hb, e⟩ := List.mem_filterMap.mp hp
  cases q : h.get? b with
  | none => rw [q] at e; cases e
  | some o =>
    rw [q] at e
    have e' : (b, o) = p := Option.some.inj e
    subst e'
    exact ⟨hb, q⟩
theorem Inv.pinned {pins : List (Addr × Obj)} {σ : St} {H : Hp} {s : Shared} {fp : List Addr} (I : Inv X pins σ H s) (hf : ∀ b ∈ fp, FpOk X pins H b) (ho : ∀ b ∈ fp, ∃ o, s.heap.get? b = some o ∧ ∀ v, o.data ≠ .cell v) : Inv X (pins ++ pinsAt fp s.heap) σ H s :=
  I.pins_of fun p hp => (List.mem_append.mp hp).elim (fun z => I.pin p (List.mem_append_right _ z)) fun z => by
    obtain ⟨hb, e⟩ := of_pinsAt z
    obtain ⟨f0, f1, f2, _⟩ := hf p.1 hb
    obtain ⟨o, e', d⟩ := ho p.1 hb
    rw [e] at e'; cases e'
    exact ⟨e, f0, f1, f2, d⟩
theorem Inv.unpinned {pins pl : List (Addr × Obj)} {σ : St} {H : Hp} {s : Shared} (I : Inv X (pins ++ pl) σ H s) : Inv X pins σ H s := I.pins_of fun p hp => I.pin p (List.mem_append_right _ (List.mem_append_left _ hp))
theorem ps_for {iter : Expr} {body : List Stmt} {wi : TI} {g : TG} {tb : TS} {pos : Pos} (hp : PassesOwn (model X.prog X.w) X.A X.env X.xe) (hc : X.calm = true) (hi : PI X tg iter wi) (hg : PG X tg g) (hb : PSs X body tb)
    (hs : ∀ x, foldedSetIterable iter X.env x = pure x := by intro _; rfl) : PS X (.For tg iter body [] pos) (tFor wi g tb) := by
  intro pins s σ H D I h
  refine wpAny_For (thn (hi pins s σ H _ I h) fun v s1 h1 => thn h1 fun itv s2 h2 => ?_) hs
  obtain ⟨it, fp, tn, J, H2, e, I2, T, st2, f2, W, ⟨m0, w0⟩, turn⟩ := h2
  subst e
  -- what stays true of the iterator's objects through the loop
  have stat : ∀ {H' : Hp}, (∀ b ∈ fp, H' b = none) → ∀ b ∈ fp, FpOk X pins H' b := fun hn b hb => ⟨hn b hb, (f2 b hb).2⟩
  refine codeAny_forLoop_any (fun n s' => ∃ i σ' H', Inv X pins σ' H' s' ∧ tn i s'.heap ∧ (∀ b ∈ fp, H' b = none) ∧ W i n σ' H') ?_ m0 ⟨0, σ, H2, I2, st2, fun b hb => (f2 b hb).1, w0⟩
  rintro n s3 ⟨i, σ3, H3, I3, st3, fr3, w3⟩
  rcases turn i n σ3 H3 w3 with ⟨stop, qn⟩ | ⟨go, N, hN, step⟩
  · refine wpAny_passesOwn hp (thn (T.done X rfl rfl rfl hc i pins s3 σ3 H3 X.xe I3 (stat fr3) st3 stop) fun r s4 ⟨hr, I4⟩ => ?_)
    subst hr
    exact wpAny_execs_nil ⟨σ3, H3, I4, qn⟩
  · refine wpAny_passesOwn hp (thn (T.item X rfl rfl rfl hc i pins s3 σ3 H3 X.xe I3 (stat fr3) st3 go) fun r s4 ⟨u, hr, h4⟩ => ?_)
    subst hr
    refine wpAny_passesOwn hp (thn h4 fun _ s5 ⟨x, H5, I5, r5, y5, st5, fr5⟩ => ?_)
    have I5' := I5.pinned (stat fr5) (T.obj _ _ st5)
    refine wpAny_passesOwn hp (thn (hg _ s5 σ3 H5 x u _ I5' r5 (step x H5 y5)) fun _ s6 ⟨σ6, H6, I6, q6⟩ => ?_)
    refine wpAny_passesOwn hp (thn (hb _ s6 σ6 H6 _ I6 q6) fun f s7 q7 => ?_)
    have again : ∀ {σ7 : St} {H7 : Hp}, Inv X (pins ++ pinsAt fp s5.heap) σ7 H7 s7 → N σ7 H7 → ∃ m, m < n ∧ ∃ i σ' H', Inv X pins σ' H' s7 ∧ tn i s7.heap ∧ (∀ b ∈ fp, H' b = none) ∧ W i m σ' H' := fun {σ7 H7} I7 n7 => by
      obtain ⟨m', hm, w7⟩ := hN σ7 H7 n7
      refine ⟨m', hm, i + 1, σ7, H7, I7.unpinned, T.keep _ _ _ st5 fun b hb o e => (I7.pin (b, o) (List.mem_append_right _ (List.mem_append_right _ (mem_pinsAt hb e)))).1, fun b hb => ?_, w7⟩
      obtain ⟨o, e, d⟩ := T.obj _ _ st5 b hb
      exact (I7.pin (b, o) (List.mem_append_right _ (List.mem_append_right _ (mem_pinsAt hb e)))).2.1
    cases f with
    | next => obtain ⟨σ7, H7, I7, n7⟩ := q7; exact again I7 n7
    | cont => obtain ⟨σ7, H7, I7, n7⟩ := q7; exact again I7 n7
    | brk => obtain ⟨σ7, H7, I7, q7⟩ := q7; exact ⟨σ7, H7, I7.unpinned, q7⟩
    | ret v => obtain ⟨x7, σ7, H7, I7, r7, q7⟩ := q7; exact ⟨x7, σ7, H7, I7.unpinned, r7, q7⟩
end

/-! ### the forms one uses -/
/-- over a list that the body leaves as it is -/
theorem for_list {K : PySem.W.Frag} {a : Addr} {xs : List V} {g : TG} {tb : TS} {D : Ends} {σ : St} {H : Hp} (Pv : Nat → St → Hp → Prop) (h0 : Pv 0 σ H) (hl : ∀ i σ H, i ≤ xs.length → Pv i σ H → SqL K H a xs)
    (hs : ∀ i x σ H, xs[i]? = some x → Pv i σ H → g x σ H fun σ2 H2 => tb { D with nx := Pv (i + 1), ct := Pv (i + 1), bk := D.nx } σ2 H2) (hd : ∀ σ H, Pv xs.length σ H → D.nx σ H) :
    ∃ W : Nat → Nat → St → Hp → Prop, (∃ m, W 0 m σ H) ∧ ∀ i m σ H, W i m σ H →
      ((Itl K a).stop i H ∧ D.nx σ H) ∨ ((Itl K a).go i H ∧ ∃ N : St → Hp → Prop, (∀ σ' H', N σ' H' → ∃ m', m' < m ∧ W (i + 1) m' σ' H') ∧ ∀ x H', (Itl K a).yld i H x H' → g x σ H' fun σ2 H2 => tb { D with nx := N, ct := N, bk := D.nx } σ2 H2) := by
  refine ⟨fun i m σ H => m = xs.length - i ∧ i ≤ xs.length ∧ Pv i σ H, ⟨xs.length, by simp, Nat.zero_le _, h0⟩, ?_⟩
  rintro i m σ H ⟨rfl, hi, p⟩
  have q := hl i σ H hi p
  by_cases hlt : i < xs.length
  · refine .inr ⟨⟨xs, xs[i], q, by simp [hlt]⟩, Pv (i + 1), fun σ' H' p' => ⟨xs.length - (i + 1), by omega, rfl, hlt, p'⟩, fun x H' y => ?_⟩
    obtain ⟨e, y⟩ := y
    subst e
    exact hs i x σ _ (y xs q) p
  · have e : i = xs.length := by omega
    subst e
    exact .inl ⟨⟨xs, q, Nat.le_refl _⟩, hd σ H p⟩
end L2

namespace L2
open PySem PySem.Spec PyProof.Rows

abbrev R2 := V → V → Hp → VK → Prop
/-- a two-place operation on values: f is binaryOp op, inplaceOp op or compareOp op -/
def OpR (X : Cx) (f : Value → Value → Sem Value) (r : R2) : Prop :=
  ∀ (pins : List (Addr × Obj)) (s : Shared) (σ : St) (H : Hp) (x y : V) (v u : Value) (Q : VK), Inv X pins σ H s → RelV x v → RelV y u → r x y H Q →
    wpAny (model X.prog X.w) X.A (f v u) (EP X pins σ Q) X.xe s
/-- a one-place operation -/
def UnR (X : Cx) (f : Value → Sem Value) (r : V → Hp → VK → Prop) : Prop :=
  ∀ (pins : List (Addr × Obj)) (s : Shared) (σ : St) (H : Hp) (x : V) (v : Value) (Q : VK), Inv X pins σ H s → RelV x v → r x H Q →
    wpAny (model X.prog X.w) X.A (f v) (EP X pins σ Q) X.xe s
/-- a call of a value that is known (a builtin, a type) with values -/
def CallR (X : Cx) (f : Value) (r : List V → Hp → VK → Prop) : Prop :=
  ∀ (pins : List (Addr × Obj)) (s : Shared) (σ : St) (H : Hp) (xs : List V) (us : List Value) (Q : VK), Inv X pins σ H s → Vals xs us → r xs H Q →
    wpAny (model X.prog X.w) X.A (call f us) (EP X pins σ Q) X.xe s
def tOp (r : R2) (ta tb : TE) : TE := fun σ H Q => ta σ H fun x H1 => tb σ H1 fun y H2 => r x y H2 Q
/-- ints in, under C, and a value out -/
def rI (C : Int → Int → Prop) (g : Int → Int → V) : R2 := fun x y H Q => ∃ i j, x = .int i ∧ y = .int j ∧ C i j ∧ Q (g i j) H
def rI0 (g : Int → Int → V) : R2 := fun x y H Q => ∃ i j, x = .int i ∧ y = .int j ∧ Q (g i j) H
section
variable {X : Cx} {a b c : Expr} {ta tb tc : TE} {pos : Pos}

theorem binT (ha : PE X a ta) (hb : PE X b tb) {pins : List (Addr × Obj)} {s : Shared} {σ : St} {H : Hp} {R : V → V → Hp → Prop} (I : Inv X pins σ H s)
    (h : ta σ H fun x H1 => tb σ H1 fun y H2 => R x y H2) {Q : Value → Shared → Prop} {f : Value → Value → Sem Value}
    (hf : ∀ v u s2 x y H2, Inv X pins σ H2 s2 → RelV x v → RelV y u → R x y H2 → wpAny (model X.prog X.w) X.A (f v u) Q X.xe s2) :
    wpAny (model X.prog X.w) X.A (eval a X.env) (fun v s₁ => wpAny (model X.prog X.w) X.A (eval b X.env) (fun u s₂ => wpAny (model X.prog X.w) X.A (f v u) Q X.xe s₂) X.xe s₁) X.xe s := by
  refine thn (ha pins s σ H _ I h) fun v s1 ⟨x, H1, I1, r1, q1⟩ => ?_
  refine thn (hb pins s1 σ H1 _ I1 q1) fun u s2 ⟨y, H2, I2, r2, q2⟩ => ?_
  exact hf v u s2 x y H2 I2 r1 r2 q2

theorem pe_op {op : Operator} {r : R2} (ho : OpR X (binaryOp op) r) (ha : PE X a ta) (hb : PE X b tb) : PE X (.BinOp a op b pos) (tOp r ta tb) := by
  intro pins s σ H Q I h
  exact wpAny_BinOp (binT ha hb I h fun v u s2 x y H2 I2 rx ry q => ho pins s2 σ H2 x y v u Q I2 rx ry q)
/-! ### ints -/
theorem opI {f : Value → Value → Sem Value} {C : Int → Int → Prop} {g : Int → Int → Int}
    (rule : ∀ (i j : Int) (t u : Tok) (s : Shared) (Q : Value → Shared → Prop) (E : Value → Shared → Prop), C i j → Q (.int (g i j) s.toks) { s with toks := s.toks + 1 } → wpAny (model X.prog X.w) X.A (f (.int i t) (.int j u)) Q E s) :
    OpR X f (rI C fun i j => .int (g i j)) := by
  intro pins s σ H x y v u Q I rx ry h
  obtain ⟨i, j, rfl, rfl, hc, q⟩ := h
  obtain ⟨t, rfl⟩ := rx
  obtain ⟨t', rfl⟩ := ry
  exact rule i j t t' s _ _ hc ⟨.int (g i j), H, I.tok _, ⟨_, rfl⟩, q⟩
theorem opI0 {f : Value → Value → Sem Value} {g : Int → Int → Int}
    (rule : ∀ (i j : Int) (t u : Tok) (s : Shared) (Q : Value → Shared → Prop) (E : Value → Shared → Prop), Q (.int (g i j) s.toks) { s with toks := s.toks + 1 } → wpAny (model X.prog X.w) X.A (f (.int i t) (.int j u)) Q E s) :
    OpR X f (rI0 fun i j => .int (g i j)) := by
  intro pins s σ H x y v u Q I rx ry h
  obtain ⟨i, j, rfl, rfl, q⟩ := h
  obtain ⟨t, rfl⟩ := rx
  obtain ⟨t', rfl⟩ := ry
  exact rule i j t t' s _ _ ⟨.int (g i j), H, I.tok _, ⟨_, rfl⟩, q⟩
theorem opB0 {f : Value → Value → Sem Value} {g : Int → Int → Bool}
    (rule : ∀ (i j : Int) (t u : Tok) (s : Shared) (Q : Value → Shared → Prop) (E : Value → Shared → Prop), Q (.bool (g i j)) s → wpAny (model X.prog X.w) X.A (f (.int i t) (.int j u)) Q E s) :
    OpR X f (rI0 fun i j => .bl (g i j)) := by
  intro pins s σ H x y v u Q I rx ry h
  obtain ⟨i, j, rfl, rfl, q⟩ := h
  obtain ⟨t, rfl⟩ := rx
  obtain ⟨t', rfl⟩ := ry
  exact rule i j t t' s _ _ ⟨.bl (g i j), H, I, rfl, q⟩

def CDiv (i j : Int) : Prop := 0 < j ∧ j < 1073741824
def CPow (i j : Int) : Prop := 0 ≤ j ∧ j ≤ 1000000 ∧ i.natAbs < 2 ^ 64
def CMul (i j : Int) : Prop := (-(2 ^ 64) < i ∧ i < 2 ^ 64) ∨ (-(2 ^ 64) < j ∧ j < 2 ^ 64)
theorem CMul.ok {i j : Int} (h : CMul i j) : IntMulOk i j := by
  rcases h with ⟨h1, h2⟩ | ⟨h1, h2⟩
  · exact .of_left (intBits_le_64 h1 h2)
  · exact .of_right (intBits_le_64 h1 h2)
theorem op_add : OpR X (binaryOp .Add) (rI0 fun i j => .int (i + j)) := opI0 fun _ _ _ _ _ _ _ q => add_int q
theorem op_sub : OpR X (binaryOp .Sub) (rI0 fun i j => .int (i - j)) := opI0 fun _ _ _ _ _ _ _ q => sub_int q
theorem op_mul : OpR X (binaryOp .Mult) (rI CMul fun i j => .int (i * j)) := opI fun _ _ _ _ _ _ _ hc q => mul_int q hc.ok
/-- // by a positive divisor -/
theorem op_fdiv : OpR X (binaryOp .FloorDiv) (rI CDiv fun i j => .int (i / j)) := opI fun i j _ _ _ _ _ hc q => by
  have h1 : (0 : Int) < j := hc.1
  have h2 : j < 1073741824 := hc.2
  exact floordiv_int (by omega) (by rw [Int.fdiv_eq_ediv_of_nonneg i (by omega)]; exact q) (.inl (PyProof.noPylong_small (by omega)))
/-- % by a positive divisor of any size -/
theorem op_mod : OpR X (binaryOp .Mod) (rI (fun _ j => 0 < j) fun i j => .int (i % j)) := opI fun i j _ _ _ _ _ hc q => by
  have h1 : (0 : Int) < j := hc
  exact mod_int' (by omega) (by rw [Int.fmod_eq_emod_of_nonneg i (by omega)]; exact q)
theorem op_pow : OpR X (binaryOp .Pow) (rI CPow fun i j => .int (i ^ j.toNat)) := opI fun _ _ _ _ _ _ _ hc q => pow_int_small hc.1 hc.2.1 hc.2.2 q
/-! ### bools among ints: n += (a < b) -/
end

/-! ### comparisons -/
/-- the scalars that == tells apart as data does -/
def scal : V → V → Bool
  | .non, .non => true | .non, .int _ => true | .int _, .non => true | .non, .bl _ => true | .bl _, .non => true | .non, .str _ => true | .str _, .non => true
  | .int _, .int _ => true | .bl _, .bl _ => true | .str _, .str _ => true | .byt _, .byt _ => true
  | .int _, .str _ => true | .str _, .int _ => true | .bl _, .str _ => true | .str _, .bl _ => true
  | _, _ => false
def rEq : R2 := fun x y H Q => scal x y = true ∧ Q (.bl (decide (x = y))) H
def rNe : R2 := fun x y H Q => scal x y = true ∧ Q (.bl (!decide (x = y))) H

theorem dec_int {i j : Int} : decide (V.int i = V.int j) = (i == j) := by
  rw [Bool.eq_iff_iff]
  simp
theorem dec_bl {i j : Bool} : decide (V.bl i = V.bl j) = (i == j) := by
  rw [Bool.eq_iff_iff]
  simp
theorem dec_str {i j : Str} : decide (V.str i = V.str j) = (i == j) := by
  rw [Bool.eq_iff_iff]
  simp
theorem dec_byt {i j : Array UInt8} : decide (V.byt i = V.byt j) = (i.toList == j.toList) := by
  rw [Bool.eq_iff_iff]
  cases i
  cases j
  simp

section
variable {X : Cx} {a b c : Expr} {ta tb tc : TE} {pos : Pos}
theorem fin_bl {pins : List (Addr × Obj)} {σ : St} {H : Hp} {s : Shared} {Q : VK} {k k' : Bool} (I : Inv X pins σ H s) (q : Q (.bl k) H) (e : k = k') : EP X pins σ Q (.bool k') s := by
  subst e
  exact ⟨.bl k, H, I, rfl, q⟩
theorem op_eq : OpR X (compareOp .Eq) rEq := by
  intro pins s σ H x y v u Q I rx ry h
  obtain ⟨hs, q⟩ := h
  cases x with
  | non =>
    cases rx
    cases y with
    | non => cases ry; exact PySem.EqNone.eq_none_none (fin_bl I q (by simp))
    | bl j => cases ry; exact PySem.EqNone.eq_none_bool (fin_bl I q (by simp))
    | int j => obtain ⟨t', rfl⟩ := ry; exact PySem.EqNone.eq_none_int (fin_bl I q (by simp))
    | str j => obtain ⟨t', rfl⟩ := ry; exact PySem.EqNone.eq_none_str (fin_bl I q (by simp))
    | _ => exact absurd (show false = true from hs) Bool.false_ne_true
  | bl i =>
    cases rx
    cases y with
    | non => cases ry; exact PySem.EqNone.eq_bool_none (fin_bl I q (by simp))
    | bl j => cases ry; exact eq_bool (fin_bl I q dec_bl)
    | str j => obtain ⟨t', rfl⟩ := ry; exact PySem.EqMixed.eq_bool_str (fin_bl I q (by simp))
    | _ => exact absurd (show false = true from hs) Bool.false_ne_true
  | int i =>
    obtain ⟨t, rfl⟩ := rx
    cases y with
    | non => cases ry; exact PySem.EqNone.eq_int_none (fin_bl I q (by simp))
    | int j => obtain ⟨t', rfl⟩ := ry; exact eq_int (fin_bl I q dec_int)
    | str j => obtain ⟨t', rfl⟩ := ry; exact PySem.EqMixed.eq_int_str (fin_bl I q (by simp))
    | _ => exact absurd (show false = true from hs) Bool.false_ne_true
  | str i =>
    obtain ⟨t, rfl⟩ := rx
    cases y with
    | non => cases ry; exact PySem.EqNone.eq_str_none (fin_bl I q (by simp))
    | bl j => cases ry; exact PySem.EqMixed.eq_str_bool (fin_bl I q (by simp))
    | int j => obtain ⟨t', rfl⟩ := ry; exact PySem.EqMixed.eq_str_int (fin_bl I q (by simp))
    | str j => obtain ⟨t', rfl⟩ := ry; exact eq_str (fin_bl I q dec_str)
    | _ => exact absurd (show false = true from hs) Bool.false_ne_true
  | byt i =>
    obtain ⟨t, rfl⟩ := rx
    cases y with
    | byt j => obtain ⟨t', rfl⟩ := ry; exact PySem.W.eq_bytes (fin_bl I q dec_byt)
    | _ => exact absurd (show false = true from hs) Bool.false_ne_true
  | _ => cases y <;> exact absurd (show false = true from hs) Bool.false_ne_true
theorem op_ne : OpR X (compareOp .NotEq) rNe := by
  intro pins s σ H x y v u Q I rx ry h
  obtain ⟨hs, q⟩ := h
  cases x with
  | non =>
    cases rx
    cases y with
    | non => cases ry; exact PySem.EqNone.ne_none_none (fin_bl I q (by simp))
    | bl j => cases ry; exact PySem.EqNone.ne_none_bool (fin_bl I q (by simp))
    | int j => obtain ⟨t', rfl⟩ := ry; exact PySem.EqNone.ne_none_int (fin_bl I q (by simp))
    | str j => obtain ⟨t', rfl⟩ := ry; exact PySem.EqNone.ne_none_str (fin_bl I q (by simp))
    | _ => exact absurd (show false = true from hs) Bool.false_ne_true
  | bl i =>
    cases rx
    cases y with
    | non => cases ry; exact PySem.EqNone.ne_bool_none (fin_bl I q (by simp))
    | bl j => cases ry; exact ne_bool (fin_bl I q (congrArg not dec_bl))
    | str j => obtain ⟨t', rfl⟩ := ry; exact PySem.EqMixed.ne_bool_str (fin_bl I q (by simp))
    | _ => exact absurd (show false = true from hs) Bool.false_ne_true
  | int i =>
    obtain ⟨t, rfl⟩ := rx
    cases y with
    | non => cases ry; exact PySem.EqNone.ne_int_none (fin_bl I q (by simp))
    | int j => obtain ⟨t', rfl⟩ := ry; exact ne_int (fin_bl I q (congrArg not dec_int))
    | str j => obtain ⟨t', rfl⟩ := ry; exact PySem.EqMixed.ne_int_str (fin_bl I q (by simp))
    | _ => exact absurd (show false = true from hs) Bool.false_ne_true
  | str i =>
    obtain ⟨t, rfl⟩ := rx
    cases y with
    | non => cases ry; exact PySem.EqNone.ne_str_none (fin_bl I q (by simp))
    | bl j => cases ry; exact PySem.EqMixed.ne_str_bool (fin_bl I q (by simp))
    | int j => obtain ⟨t', rfl⟩ := ry; exact PySem.EqMixed.ne_str_int (fin_bl I q (by simp))
    | str j => obtain ⟨t', rfl⟩ := ry; exact ne_str (fin_bl I q (congrArg not dec_str))
    | _ => exact absurd (show false = true from hs) Bool.false_ne_true
  | byt i =>
    obtain ⟨t, rfl⟩ := rx
    cases y with
    | byt j => obtain ⟨t', rfl⟩ := ry; exact PySem.W.ne_bytes (fin_bl I q (congrArg not dec_byt))
    | _ => exact absurd (show false = true from hs) Bool.false_ne_true
  | _ => cases y <;> exact absurd (show false = true from hs) Bool.false_ne_true

theorem op_lt : OpR X (compareOp .Lt) (rI0 fun i j => .bl (decide (i < j))) := opB0 fun _ _ _ _ _ _ _ q => lt_int q
theorem op_le : OpR X (compareOp .LtE) (rI0 fun i j => .bl (decide (i ≤ j))) := opB0 fun _ _ _ _ _ _ _ q => le_int q
theorem op_gt : OpR X (compareOp .Gt) (rI0 fun i j => .bl (decide (j < i))) := opB0 fun _ _ _ _ _ _ _ q => gt_int q
theorem op_lt_str : OpR X (compareOp .Lt) (fun x y H Q => ∃ i j, x = .str i ∧ y = .str j ∧ Q (.bl (decide (i.cps.toList < j.cps.toList))) H) := by
  intro pins s σ H x y v u Q I rx ry h
  obtain ⟨i, j, rfl, rfl, q⟩ := h
  obtain ⟨t, rfl⟩ := rx
  obtain ⟨t', rfl⟩ := ry
  exact lt_str (fin_bl I q rfl)
/-- the one string within the other -/
theorem op_in_str : OpR X (compareOp .In) (fun x y H Q => ∃ i j, x = .str i ∧ y = .str j ∧ Q (.bl (!(Builtin.Str.occurrences j i 0 j.length 1).isEmpty)) H) := by
  intro pins s σ H x y v u Q I rx ry h
  obtain ⟨i, j, rfl, rfl, q⟩ := h
  obtain ⟨t, rfl⟩ := rx
  obtain ⟨t', rfl⟩ := ry
  exact in_str (fin_bl I q rfl)

/-- two rules for one operation: by cases -/
theorem OpR.or {f : Value → Value → Sem Value} {r r' : R2} (h : OpR X f r) (h' : OpR X f r') : OpR X f (fun x y H Q => r x y H Q ∨ r' x y H Q) := by
  intro pins s σ H x y v u Q I rx ry q
  rcases q with q | q
  · exact h pins s σ H x y v u Q I rx ry q
  · exact h' pins s σ H x y v u Q I rx ry q

theorem nomark (b : Expr) {op : CmpOp} (h : op ≠ .In := by decide) (h2 : op ≠ .NotIn := by decide) : behindInMarks op b = false := by
  have e1 : (op == CmpOp.In) = false := by cases op <;> first | rfl | exact absurd rfl h
  have e2 : (op == CmpOp.NotIn) = false := by cases op <;> first | rfl | exact absurd rfl h2
  cases b <;> simp [behindInMarks, e1, e2]
/-- a comparison as a value; hm: nomark b, or (for in, not in) by with_unfolding_all rfl -/
theorem pe_cmpR {op : CmpOp} {r : R2} (ho : OpR X (compareOp op) r) (ha : PE X a ta) (hb : PE X b tb) (hm : behindInMarks op b = false) : PE X (.Compare a [op] [b] pos) (tOp r ta tb) := by
  intro pins s σ H Q I h
  exact wpAny_Compare1 (binT ha hb I h fun v u s2 x y H2 I2 rx ry q => ho pins s2 σ H2 x y v u Q I2 rx ry q) hm
/-- a reading of a value as a test -/
def tTest (t : TE) : TT := fun σ H Q => t σ H fun x H' => ∃ k, x = .bl k ∧ Q k H'
theorem pt_cmpR {op : CmpOp} {r : R2} (ho : OpR X (compareOp op) r) (ha : PE X a ta) (hb : PE X b tb) (hm : behindInMarks op b = false) : PT X (.Compare a [op] [b] pos) (tTest (tOp r ta tb)) := by
  intro pins s σ H Q I h
  refine wpAny_isTrue_Compare1 (thn (ha pins s σ H _ I h) fun v s1 ⟨x, H1, I1, r1, q1⟩ => thn (hb pins s1 σ H1 _ I1 q1) fun u s2 ⟨y, H2, I2, r2, q2⟩ =>
    thn (ho pins s2 σ H2 x y v u _ I2 r1 r2 q2) fun c s3 ⟨z, H3, I3, r3, k, e, q3⟩ => ?_) hm
  subst e
  cases r3
  exact wpAny_truthy_bool ⟨H3, I3, q3⟩
/-- a op1 b op2 c -/
def tChain (r r' : R2) (ta tb tc : TE) : TE := fun σ H Q => ta σ H fun x H1 => tb σ H1 fun y H2 => r x y H2 fun z H3 => ∃ k, z = .bl k ∧
  (if k = true then tc σ H3 fun w' H4 => r' y w' H4 Q else Q (.bl false) H3)
theorem pt_chain {op op' : CmpOp} {r r' : R2} (ho : OpR X (compareOp op) r) (ho' : OpR X (compareOp op') r') (ha : PE X a ta) (hb : PE X b tb) (hc : PE X c tc)
    (hm : lastMarks [op, op'] [b, c] = false := by with_unfolding_all rfl) : PT X (.Compare a [op, op'] [b, c] pos) (tTest (tChain r r' ta tb tc)) := by
  intro pins s σ H Q I h
  refine isTrue_chain (thn (ha pins s σ H _ I h) fun v s1 ⟨x, H1, I1, r1, q1⟩ => test_link (thn (hb pins s1 σ H1 _ I1 q1) fun u s2 ⟨y, H2, I2, r2, q2⟩ =>
    thn (ho pins s2 σ H2 x y v u _ I2 r1 r2 q2) fun d s3 ⟨z, H3, I3, r3, k, e, q3⟩ => ?_)) hm
  subst e
  cases r3
  refine wpAny_truthy_bool ?_
  cases k with
  | false =>
    obtain ⟨k', e', q'⟩ := q3
    cases e'
    exact ite_ff ⟨H3, I3, q'⟩
  | true =>
    refine ite_tt (test_last (thn (hc pins s3 σ H3 _ I3 q3) fun w' s4 ⟨z', H4, I4, r4, q4⟩ => thn (ho' pins s4 σ H4 y z' u w' _ I4 r2 r4 q4) fun d' s5 ⟨z2, H5, I5, r5, k2, e2, q5⟩ => ?_))
    subst e2
    cases r5
    exact wpAny_truthy_bool ⟨H5, I5, q5⟩

/-! ### truth -/
theorem line63 : (sizeLine : Nat) < 2 ^ 63 := by rw [sizeLine_eq]; decide
/-! ### strs and bytes -/
theorem op_add_str : OpR X (binaryOp .Add) (fun x y H Q => ∃ i j, x = .str i ∧ y = .str j ∧ i.length + j.length ≤ sizeLine ∧ Q (.str (i ++ j)) H) := by
  intro pins s σ H x y v u Q I rx ry h
  obtain ⟨i, j, rfl, rfl, hz, q⟩ := h
  obtain ⟨t, rfl⟩ := rx
  obtain ⟨t', rfl⟩ := ry
  exact add_str (fun t' tk => ⟨.str (i ++ j), H, I.tok _, ⟨_, rfl⟩, q⟩) hz
/-! ### scalar builtins, by CallR -/
theorem vals1 {x : V} {us : List Value} (r : Vals [x] us) : ∃ u, us = [u] ∧ RelV x u := by
  cases r with
  | cons r1 r2 => cases r2; exact ⟨_, rfl, r1⟩
theorem vals2 {x y : V} {us : List Value} (r : Vals [x, y] us) : ∃ u w', us = [u, w'] ∧ RelV x u ∧ RelV y w' := by
  cases r with
  | cons r1 r2 =>
    cases r2 with
    | cons r3 r4 => cases r4; exact ⟨_, _, rfl, r1, r3⟩
theorem call_abs : CallR X (.builtin "abs") (fun xs H Q => ∃ i, xs = [.int i] ∧ Q (.int (if i < 0 then -i else i)) H) := by
  intro pins s σ H xs us Q I r h
  obtain ⟨i, rfl, q⟩ := h
  obtain ⟨u, rfl, t, rfl⟩ := vals1 r
  exact call_abs_int fun u tk => ⟨.int (if i < 0 then -i else i), H, I.tok _, ⟨_, rfl⟩, q⟩
theorem call_int1 : CallR X (.type "int") (fun xs H Q => (∃ i, xs = [.int i] ∧ Q (.int i) H) ∨ ∃ k, xs = [.bl k] ∧ Q (.int (if k then 1 else 0)) H) := by
  intro pins s σ H xs us Q I r h
  rcases h with ⟨i, rfl, q⟩ | ⟨k, rfl, q⟩
  · obtain ⟨u, rfl, t, rfl⟩ := vals1 r
    exact call_int_int ⟨.int i, H, I, ⟨_, rfl⟩, q⟩
  · obtain ⟨u, rfl, r1⟩ := vals1 r
    cases r1
    exact call_int_bool ⟨.int (if k then 1 else 0), H, I.tok _, ⟨_, rfl⟩, q⟩
end
end L2

namespace L2
open PySem PySem.Spec PyProof.Rows

/-! ### an instance, its attributes a map -/
structure ObjM (h : Heap) (x dx C : Addr) (mA : Str → Option Value) : Prop where
  obj : h.get? x = some (PySem.W.instObj C dx)
  ns : h.Ns1 dx mA
  ne : dx ≠ x

theorem lookIn_ns {h : Heap} {dx : Addr} {mA : Str → Option Value} (n : h.Ns1 dx mA) : ∃ od, h.get? dx = some od ∧ ∀ name, PySem.W.lookIn name od = some (mA name) := by
  obtain ⟨o, es, ep, ho, hd, hk, _, hm⟩ := n
  refine ⟨o, ho, fun name => ?_⟩
  have e := hm name
  unfold nsFind findBy at e
  rw [← Array.find?_toList] at e
  unfold PySem.W.lookIn
  rw [hd]
  dsimp only
  split
  · rename_i y q
    rw [q] at e
    exact congrArg some e
  · rename_i q
    rw [q] at e
    have a : es.toList.any (·.refKey) = false := by
      rw [List.any_eq_false]
      intro y hy
      obtain ⟨z, t, hkey⟩ := hk y (Array.mem_toList_iff.mp hy)
      simp [DictEntry.refKey, hkey]
    have a' : ¬ es.toList.any (·.refKey) = true := by rw [a]; exact Bool.false_ne_true
    rw [if_neg a']
    exact congrArg some e

theorem ObjM.look {h : Heap} {x dx C : Addr} {mA : Str → Option Value} (I : ObjM h x dx C mA) : ∃ od, PySem.W.InstAt h x (PySem.W.instObj C dx) C (some od) ∧ ∀ name, PySem.W.lookIn name od = some (mA name) :=
  let ⟨od, ho, hl⟩ := lookIn_ns I.ns
  ⟨od, ⟨I.obj, rfl, rfl, ho⟩, hl⟩

section
variable {prog : Program} {w : World} {A : Around} {E : Value → Shared → Prop} {s : Shared} {K : PySem.W.Frag} {x dx C f : Addr} {mA : Str → Option Value} {name : Str} {v : Value}

end

/-! ### the attributes as a list of pairs -/
def putF (f : Str) (v : V) : List (Str × V) → List (Str × V)
  | [] => [(f, v)]
  | (g, x) :: r => if g = f then (g, v) :: r else (g, x) :: putF f v r
theorem RelO.some_of {v : V} {o : Option Value} (r : RelO (some v) o) : ∃ u, o = some u ∧ RelV v u := by
  cases o with
  | none => exact (show False from r).elim
  | some u => exact ⟨u, rfl, r⟩
section
variable {P : Program} {w : World} {H H' : Hp} {h h' : Heap} {a C dx : Addr} {fs fs' : List (Str × V)}
theorem ins_get (hok : HOk P w H h) (e : H a = some (.ins C dx fs)) : ∃ mA, ObjM h a dx C mA ∧ (∀ f, RelO (fs.lookup f) (mA f)) ∧ PySem.Within mA (fs.map (·.1)) ∧ fs.length ≤ 1000 ∧ H dx = some (.own a) := by
  obtain ⟨d, z, ne, ob, mA, n, r, q⟩ := (show ObjOk P w H h a (.ins C dx fs) from hok a _ e)
  exact ⟨mA, ⟨ob, n, ne⟩, r, q, z, d⟩
end

/-! ### what of the text a class must have -/
structure Cls (K : PySem.W.Frag) (C : Addr) : Prop where
  pg : PySem.W.plainGet K C Str.empty = true
  hd : PySem.W.hasDictIn K C = true
  po : PySem.W.plainOver K C = true
  sa : PySem.W.findIn K (.ref C) "__setattr__" = some (some (.builtin "object.__setattr__"))
theorem Cls.get {K : PySem.W.Frag} {C : Addr} (c : Cls K C) (f : Str) : PySem.W.plainGet K C f = true := c.pg
/-- no class of it has the name -/
def NoAttr (K : PySem.W.Frag) (C : Addr) (f : Str) : Prop := PySem.W.findIn K (.ref C) f = some none
/-- a constant of the class -/
structure Con (K : PySem.W.Frag) (C : Addr) (f : Str) (v : V) (u : Value) : Prop where
  at_ : PySem.W.findIn K (.ref C) f = some (some u)
  rel : RelV v u
  get : PySem.W.specialIn K u "__get__" = some none
  cp : PySem.W.copiedNames.contains f = false
/-- a method: a plain def of the class or of one above it -/
structure Meth (K : PySem.W.Frag) (C : Addr) (m : Str) (f : Addr) : Prop where
  at_ : PySem.W.findIn K (.ref C) m = some (some (.ref f))
  fn : PySem.W.isFn K (.ref f) = true
  kp : PySem.W.keepIn K (.ref f) = true

section
variable {X : Cx} {pins : List (Addr × Obj)} {σ : St} {H : Hp} {s : Shared} {a C dx : Addr} {fs : List (Str × V)} {f : Str} {v : V} {A : Around} {E : Value → Shared → Prop}

end

/-! ### readings and rules -/
section
variable {X : Cx} {o e value : Expr} {f : Str} {pos pos' tpos : Pos} {ta tv : TE}
end

/-! ### isinstance -/
section
variable {X : Cx} {pins : List (Addr × Obj)} {σ : St} {H : Hp} {s : Shared} {A : Around} {E : Value → Shared → Prop} {Q : Value → Shared → Prop} {c : Value} {b : Bool}
/-- the type of a value, as the fragment's deciders take it; for an instance its class -/
inductive TyOf (K : PySem.W.Frag) (H : Hp) : V → Value → Prop where
  | non : TyOf K H .non (.type "NoneType")
  | bl (x : Bool) : TyOf K H (.bl x) (.type "bool")
  | int (i : Int) : TyOf K H (.int i) (.type "int")
  | str (x : Str) : TyOf K H (.str x) (.type "str")
  | flt (x : UInt64) : TyOf K H (.flt x) (.type "float")
  | lst {a : Addr} {xs : List V} (e : H a = some (.lst xs)) : TyOf K H (.ref a) (.type "list")
  | frz {a : Addr} {o : Obj} {xs : List V} (e : H a = some (.frz o (.lst xs))) : TyOf K H (.ref a) (.type "list")
  | tup {a : Addr} {xs : List V} (e : H a = some (.tup xs)) : TyOf K H (.ref a) (.type "tuple")
  | dK {a : Addr} {kvs : List (Key × V)} (e : H a = some (.dK kvs)) : TyOf K H (.ref a) (.type "dict")
  | dT {a : Addr} {kvs : List (List Key × V)} (e : H a = some (.dT kvs)) : TyOf K H (.ref a) (.type "dict")
  | ins {a C dx : Addr} {fs : List (Str × V)} (e : H a = some (.ins C dx fs)) (cl : Cls K C) (ha : PySem.W.findIn K (.ref C) "__class__" = some (some (.builtin "object.__class__")))
      (hn : PySem.W.specialIn K (.builtin "object.__class__") "__get__" = some (some (.builtin "getset_descriptor.__get__"))) (htk : PySem.W.takesIn K (.builtin "object.__class__") = some true)
      (hm : PySem.W.mroIn K C (.type "object") = some true) : TyOf K H (.ref a) (.ref C)
/-- isinstance(x, c) for one class c, a built-in or an own one: kitOne's answer -/
theorem isinst_ok {x : V} {u t : Value} (I : Inv X pins σ H s) (rx : RelV x u) (ty : TyOf X.K H x t) (e : PySem.W.kitOne X.K t c = some b) (h : ∀ tk, Q (.bool b) { s with toks := tk }) :
    wpAny (model X.prog X.w) A (call (.builtin "isinstance") [u, c]) Q E s := by
  cases ty with
  | non => cases (show u = Value.none from rx); exact PySem.W.kia_one PySem.W.kitx_none I.kIn True.intro e (fun z => nomatch z) h
  | bl y => cases (show u = Value.bool y from rx); exact PySem.W.kia_one PySem.W.kitx_bool I.kIn True.intro e (fun z => nomatch z) h
  | int i => obtain ⟨t, q⟩ := (show ∃ t, u = Value.int i t from rx); cases q; exact PySem.W.kia_one PySem.W.kitx_int I.kIn True.intro e (fun z => nomatch z) h
  | str y => obtain ⟨t, q⟩ := (show ∃ t, u = Value.str y t from rx); cases q; exact PySem.W.kia_one PySem.W.kitx_str I.kIn True.intro e (fun z => nomatch z) h
  | flt y => obtain ⟨t, q⟩ := (show ∃ t, u = Value.float y t from rx); cases q; exact PySem.W.kia_one PySem.W.kitx_float I.kIn True.intro e (fun z => nomatch z) h
  | @lst a xs ea =>
    cases (show u = Value.ref a from rx)
    obtain ⟨_, _, n, _, h1⟩ := (show ObjOk X.prog X.w H s.heap a (.lst xs) from I.hok a _ ea)
    exact PySem.W.kia_one PySem.W.kitx_list I.kIn ⟨_, h1, rfl⟩ e (fun z => nomatch z) h
  | @frz a ob xs ea =>
    cases (show u = Value.ref a from rx)
    obtain ⟨_, _, _, n, _, h1⟩ := (show ObjOk X.prog X.w H s.heap a (.frz ob (.lst xs)) from I.hok a _ ea)
    exact PySem.W.kia_one PySem.W.kitx_list I.kIn ⟨_, h1, rfl⟩ e (fun z => nomatch z) h
  | @tup a xs ea =>
    cases (show u = Value.ref a from rx)
    obtain ⟨_, _, _, p⟩ := (show ObjOk X.prog X.w H s.heap a (.tup xs) from I.hok a _ ea)
    obtain ⟨o, h1, h2, _⟩ := p
    exact PySem.W.kia_one PySem.W.kitx_tuple I.kIn ⟨o, h1, h2⟩ e (fun z => nomatch z) h
  | @dK a kvs ea =>
    cases (show u = Value.ref a from rx)
    obtain ⟨_, _, vs, _, p⟩ := (show ObjOk X.prog X.w H s.heap a (.dK kvs) from I.hok a _ ea)
    obtain ⟨o, es, ep, h1, h2, _⟩ := p
    exact PySem.W.kia_one PySem.W.kitx_dict I.kIn ⟨o, h1, h2.1⟩ e (fun z => nomatch z) h
  | @dT a kvs ea =>
    cases (show u = Value.ref a from rx)
    obtain ⟨_, _, xs, _, o, es, ep, h1, h2, _⟩ := (show ObjOk X.prog X.w H s.heap a (.dT kvs) from I.hok a _ ea)
    exact PySem.W.kia_one PySem.W.kitx_dict I.kIn ⟨o, h1, h2.1⟩ e (fun z => nomatch z) h
  | @ins a C dx fs ea cl ha hn htk hm =>
    cases (show u = Value.ref a from rx)
    obtain ⟨mA, O, _⟩ := ins_get I.hok ea
    obtain ⟨od, J, _⟩ := O.look
    exact PySem.W.kia_one (PySem.W.kitx_own (cl.get _) cl.hd ha hn htk hm) I.kIn J e (fun z => nomatch z) h
end
end L2

namespace L2
open PySem PySem.Spec PyProof.Rows

/-! ### room -/
structure Room (k : Nat) (A : Around) : Prop where
  hd : A.handled = none
  dp : A.depth + 3 * k + 5 < recursionLimit
  un : A.units + 16 * k + 200 < cLine
theorem Room.mono {j k : Nat} {A : Around} (r : Room k A) (h : j ≤ k) : Room j A := ⟨r.hd, by have := r.dp; omega, by have := r.un; omega⟩
theorem Room.deeper {k : Nat} {A : Around} (r : Room (k + 1) A) (env : Env) : Room k (A.deeper env) :=
  ⟨r.hd, by have := r.dp; show A.depth + 1 + 3 * k + 5 < _; omega, by have := r.un; show A.units + 3 + 16 * k + 200 < _; omega⟩
theorem Room.in1 {k : Nat} {A : Around} (r : Room (k + 1) A) : Room k A.in1 :=
  ⟨r.hd, by have := r.dp; show A.depth + 3 * k + 5 < _; omega, by have := r.un; show A.units + 1 + 16 * k + 200 < _; omega⟩
theorem Room.depth {k : Nat} {A : Around} (r : Room k A) : A.depth < recursionLimit := by have := r.dp; omega
theorem Room.units {k : Nat} {A : Around} (r : Room k A) : A.units + 64 < cLine := by have := r.un; omega
/-! ### argument lists and displays -/
def tNil : TA := fun _ H Q => Q [] H
def tCons (ta : TE) (tr : TA) : TA := fun σ H Q => ta σ H fun x H1 => tr σ H1 fun xs H2 => Q (x :: xs) H2
section
variable {X : Cx} {e : Expr} {es : List Expr} {te : TE} {t : TA} {pos : Pos}
theorem pa_nil : PA X [] tNil := fun _ _ _ _ H Q I h => Calls.spliced_nil ⟨[], H, I, .nil, h⟩
theorem pa_cons (ha : PE X e te) (hr : PA X es t) (hs : starEach (e :: es) X.env = (false, eval e X.env) :: starEach es X.env := by rfl) : PA X (e :: es) (tCons te t) := by
  intro pos pins s σ H Q I h
  rw [hs]
  show wpAny _ _ (spliced ((false, eval e X.env) :: backTo pos (starEach es X.env))) _ _ s
  refine Calls.spliced_cons (thn (ha pins s σ H _ I h) fun u s1 ⟨x, H1, I1, r1, q1⟩ => ?_)
  exact thn (hr pos pins s1 σ H1 _ I1 q1) fun us s2 ⟨xs, H2, I2, r2, q2⟩ => ⟨x :: xs, H2, I2, .cons r1 r2, q2⟩

/-- a tuple, a list of written items -/
def tTup (t : TA) : TE := fun σ H Q => t σ H fun xs H1 => xs.length ≤ sizeLine ∧ ∀ p, H1 p = none → Q (.ref p) (upd H1 p (.tup xs))
def tLst (t : TA) : TE := fun σ H Q => t σ H fun xs H1 => xs.length ≤ sizeLine ∧ ∀ p, H1 p = none → Q (.ref p) (upd H1 p (.lst xs))
theorem pe_tup {x1} (h : PA X es t) : PE X (.Tuple es x1 pos) (tTup t) := by
  intro pins s σ H Q I hq
  refine wpAny_Tuple_spliced (thn (h pos pins s σ H _ I hq) fun us s1 ⟨xs, H1, I1, r, z, q⟩ => ⟨by rw [← r.length]; exact z, ?_⟩)
  have hf : H1 s1.heap.objs.size = none := I1.hok.fresh (Nat.le_refl _)
  refine ⟨.ref s1.heap.objs.size, upd H1 s1.heap.objs.size (.tup xs), I1.laid (t' := s1.toks) (fun b u e => Heap.get?_push_of_some _ e) (Nat.le_refl _) ?_, rfl, q _ hf⟩
  exact ⟨z, us, r, ⟨_, Heap.get?_push_size _ rfl, rfl, _, rfl⟩⟩
theorem pe_lst (h : PA X es t) : PE X (.List es pos) (tLst t) := by
  intro pins s σ H Q I hq
  refine wpAny_List_spliced (thn (h pos pins s σ H _ I hq) fun us s1 ⟨xs, H1, I1, r, z, q⟩ => ⟨by rw [← r.length]; exact z, ?_⟩)
  have hf : H1 s1.heap.objs.size = none := I1.hok.fresh (Nat.le_refl _)
  refine ⟨.ref s1.heap.objs.size, upd H1 s1.heap.objs.size (.lst xs), I1.laid (t' := s1.toks) (fun b u e => Heap.get?_push_of_some _ e) (Nat.le_refl _) ?_, rfl, q _ hf⟩
  exact ⟨z, us, 0, r, Heap.get?_push_size _ rfl⟩
end

/-! ### what a def promises -/
/-- a def's promise: the bound arguments in the parameters' order, the heap, the wanted end, the wanted exception -/
abbrev Sp := List V → Hp → VK → XK → Prop
/-- how an exception lies behind a call (file 08 gives it): the callers' frames, abstract heap and state ahead of the call, the wish, the exception, the state -/
abbrev CXT := List Env → Hp → Shared → XK → Value → Shared → Prop

/-- the state at a call -/
structure Env0 (P : Program) (w : World) (K : PySem.W.Frag) (mg : Str → Option Value) (base : Heap) (A : Around) (outer : List Env) (s : Shared) (H : Hp) : Prop where
  frames : A.frames = some outer
  mod : Mod K mg base
  bs : ∀ b o, base.get? b = some o → s.heap.get? b = some o ∧ H b = none
  bsz : base.objs.size ≤ s.heap.objs.size
  funs : s.heap.FunFrames base outer
  frf : ∀ b ∈ frs outer, H b = none
  hok : HOk P w H s.heap
  bare : AllBare s.gens
/-- a call's end -/
def CE (outer : List Env) (P : Program) (w : World) (H : Hp) (s : Shared) (Q : VK) (u : Value) (s' : Shared) : Prop :=
  ∃ v H', s'.os = s.os ∧ AllBare s'.gens ∧ Un (frs outer) [] H H' s.heap s'.heap ∧ HOk P w H' s'.heap ∧ RelV v u ∧ Q v H'
def CR (CX : CXT) (outer : List Env) (P : Program) (w : World) (H : Hp) (s : Shared) (Q : VK) (E : XK) (r : Result) (s' : Shared) : Prop :=
  match r with
  | .ok (.ret u) => CE outer P w H s Q u s'
  | .ok _ => False
  | .error e => CX outer H s E e s'
structure FnOk (P : Program) (w : World) (K : PySem.W.Frag) (mg : Str → Option Value) (base : Heap) (CX : CXT) (k : Nat) (f : Addr) (fd : FuncData) (ps : List Str) (sp : Sp) : Prop where
  len : ∀ vs H Q E, sp vs H Q E → vs.length = ps.length
  run : ∀ (A : Around) (outer : List Env) (s : Shared) (H : Hp) (args : Args) (us : List Value) (vs : List V) (Q : VK) (E : XK), Room k A → Env0 P w K mg base A outer s H → BindsTo s fd args (ps.zip us) → Vals vs us → sp vs H Q E →
    codeAny (model P w) A (.call (.ref f) args) (CR CX outer P w H s Q E) s
theorem FnOk.mono {P : Program} {w : World} {K : PySem.W.Frag} {mg : Str → Option Value} {base : Heap} {CX : CXT} {j k : Nat} {f : Addr} {fd : FuncData} {ps : List Str} {sp : Sp} (F : FnOk P w K mg base CX j f fd ps sp) (h : j ≤ k) :
    FnOk P w K mg base CX k f fd ps sp := ⟨F.len, fun A outer s H args us vs Q E hr => F.run A outer s H args us vs Q E (hr.mono h)⟩
/-- a weaker promise -/
theorem FnOk.imp {P : Program} {w : World} {K : PySem.W.Frag} {mg : Str → Option Value} {base : Heap} {CX : CXT} {k : Nat} {f : Addr} {fd : FuncData} {ps : List Str} {sp sp' : Sp} (F : FnOk P w K mg base CX k f fd ps sp)
    (h : ∀ vs H Q E, sp' vs H Q E → sp vs H Q E) : FnOk P w K mg base CX k f fd ps sp' :=
  ⟨fun vs H Q E q => F.len vs H Q E (h _ _ _ _ q), fun A outer s H args us vs Q E hr he hb hv hs => F.run A outer s H args us vs Q E hr he hb hv (h _ _ _ _ hs)⟩

theorem Env0.in1 {P : Program} {w : World} {K : PySem.W.Frag} {mg : Str → Option Value} {base : Heap} {A : Around} {outer : List Env} {s : Shared} {H : Hp} (e : Env0 P w K mg base A outer s H) :
    Env0 P w K mg base A.in1 outer s H := ⟨e.frames, e.mod, e.bs, e.bsz, e.funs, e.frf, e.hok, e.bare⟩

section
variable {X : Cx} {pins : List (Addr × Obj)} {σ : St} {H : Hp} {s s' : Shared}
/-- from a body: what a callee wants -/
theorem Inv.env0 (I : Inv X pins σ H s) : Env0 X.prog X.w X.K X.mg X.base X.A X.stack s H :=
  ⟨I.ok.frames, I.ok.mod, I.bs, Nat.le_trans I.ok.bsz I.sz, I.stack, I.stkFree, I.hok, I.bare⟩
/-- behind a call -/
theorem Inv.after {Q : VK} {u : Value} (I : Inv X pins σ H s) (h : CE X.stack X.prog X.w H s Q u s') : EP X pins σ Q u s' := by
  obtain ⟨v, H', os, bare, un, hok, r, q⟩ := h
  obtain ⟨hh, g, d, t, os'⟩ := s'
  obtain rfl : os' = s.os := os
  exact ⟨v, H', I.call (h' := hh) (g' := g) (d' := d) (t' := t) (ch := []) un hok bare (fun b z => absurd z (by simp)), r, q⟩
end

/-! ### calls -/
/-- f(..): the written arguments, then the defaults dvs; E: what is wanted of an exception -/
def tCall (sp : Sp) (dvs : List V) (E : XK) (t : TA) : TE := fun σ H Q => t σ H fun vs H1 => sp (vs ++ dvs) H1 Q E
/-- how the parameters are bound: us the positional arguments, kw the keywords' values by name, ds the defaults that fill up -/
def Binds (K : PySem.W.Frag) (fd : FuncData) (ps : List Str) (ds : List Value) : Prop :=
  ∀ (s : Shared) (us : List Value), K.In s.heap → (us ++ ds).length = ps.length → BindsTo s fd ⟨us, []⟩ (ps.zip (us ++ ds))
/-- every parameter is given -/
theorem Binds.all {K : PySem.W.Frag} {fd : FuncData} {ps : List Str} (h : ∀ us : List Value, us.length = ps.length → bindArgs fd ⟨us, []⟩ = pure (ps.zip us)) : Binds K fd ps [] := fun s us _ hl => by
  rw [List.append_nil] at hl ⊢
  exact .of_eq (h us hl)

/-- an exception of a callee reaches what this body wants of exceptions -/
def Passes (CX : CXT) (X : Cx) (E : XK) : Prop := ∀ (pins : List (Addr × Obj)) (σ : St) (H : Hp) (s : Shared) (e : Value) (s' : Shared), Inv X pins σ H s → CX X.stack H s E e s' → X.xe e s'

section
variable {X : Cx} {CX : CXT} {k : Nat} {f C : Addr} {fd : FuncData} {ps : List Str} {sp : Sp} {dvs : List V} {ds : List Value} {E : XK} {x m : Str} {p pos apos : Pos} {e o : Expr} {es : List Expr} {ta : TE} {t : TA}

/-- the callee runs -/
theorem run_fn {pins : List (Addr × Obj)} {σ : St} {H : Hp} {s : Shared} {Q : VK} {us : List Value} {vs : List V} (F : FnOk X.prog X.w X.K X.mg X.base CX k f fd ps sp) (hr : Room k X.A) (hb : Binds X.K fd ps ds) (hd : Vals dvs ds) (hx : Passes CX X E)
    (I : Inv X pins σ H s) (r : Vals vs us) (h : sp (vs ++ dvs) H Q E) : wpAny (model X.prog X.w) X.A (call (.ref f) us) (EP X pins σ Q) X.xe s := by
  have r2 : Vals (vs ++ dvs) (us ++ ds) := r.append hd
  have hl : (us ++ ds).length = ps.length := by rw [← r2.length]; exact F.len _ _ _ _ h
  refine wpAny_call (codeAny_mono (F.run X.A X.stack s H ⟨us, []⟩ (us ++ ds) (vs ++ dvs) Q E hr I.env0 (hb s us I.kIn hl) r2 h) fun r s' hq => ?_)
  cases r with
  | error e => exact hx pins σ H s e s' I hq
  | ok fl =>
    cases fl with
    | ret u => exact I.after hq
    | next => exact False.elim hq
    | brk => exact False.elim hq
    | cont => exact False.elim hq

theorem pe_call (F : FnOk X.prog X.w X.K X.mg X.base CX k f fd ps sp) (hr : Room k X.A) (hg : Gl X x) (hm : X.mg x = some (.ref f)) (hk : PySem.W.keepIn X.K (.ref f) = true) (hb : Binds X.K fd ps ds) (hd : Vals dvs ds) (hx : Passes CX X E)
    (ha : PA X (e :: es) t) (hdb : (x == ("__debug__" : Str)) = false := by decide) (he : starEach (e :: es) X.env = (false, eval e X.env) :: starEach es X.env := by rfl) (hpl : (backTo pos (starEach es X.env)).any (·.1) = false := by rfl) :
    PE X (.Call (.Name x p) (e :: es) [] pos) (tCall sp dvs E t) := by
  intro pins s σ H Q I h
  refine wpAny_Call_Name_kw (ld_glob I hg hm ?_ hdb)
  refine PySem.W.callWith_K (h₀ := X.base) I.ok.mod.kin hk (thn (ha pos pins s σ H _ I h) fun us s1 ⟨vs, H1, I1, r, q⟩ => ⟨I1.kIn, ?_⟩) he hpl
  exact run_fn F hr hb hd hx I1 r q
/-- what a class must have to be made -/
structure Mk (K : PySem.W.Frag) (C f : Addr) : Prop where
  makes : PySem.W.makesIn K C = true
  init : PySem.W.findIn K (.ref C) "__init__" = some (some (.ref f))
  fn : PySem.W.isFn K (.ref f) = true
  kp : PySem.W.keepIn K (.ref C) = true

end

/-! ### keywords -/
section
variable {X : Cx} {CX : CXT} {k : Nat} {f C : Addr} {fd : FuncData} {ps ks : List Str} {sp : Sp} {E : XK} {x m : Str} {p pos apos kpos : Pos} {e o : Expr} {es : List Expr} {kws : List Keyword} {te ta : TE} {t tk : TA} {nm : Option Str}
/-- how a call with keywords binds: g puts the positional values us and the keywords' values ws (names ks) in the parameters' order, defaults among them -/
structure KBinds (K : PySem.W.Frag) (fd : FuncData) (ps ks : List Str) (g : List Value → List Value → List Value) (gV : List V → List V → List V) : Prop where
  to : ∀ (s : Shared) (us ws : List Value), K.In s.heap → (g us ws).length = ps.length → BindsTo s fd ⟨us, ks.zip ws⟩ (ps.zip (g us ws))
  rel : ∀ {vs : List V} {us : List Value} {zs : List V} {ws : List Value}, Vals vs us → Vals zs ws → Vals (gV vs zs) (g us ws)
variable {g : List Value → List Value → List Value} {gV : List V → List V → List V}
end

/-! ### a def's body keeps its promise -/
/-- names: the parameters first -/
structure FnScope (N P : List Str) (sc : Scope) : Prop where
  kind : sc.kind = .function
  co : sc.isCoroutine = false
  gen : sc.isGenerator = false
  nd : N.Nodup
  pre : N.take P.length = P
  par : ∀ x ∈ P, sc.names.lookup x = some .local ∨ sc.names.lookup x = some .cell
  nofree : ∀ y ∈ sc.names, y.2 ≠ .free

theorem bindL_out {kindOf : Str → Option NameKind} {x : Str} : ∀ {binds : List (Str × Value)} {m : Str → Option Value}, (∀ v, (x, v) ∉ binds) → bindL kindOf binds m x = m x
  | [], _, _ => rfl
  | (n, v) :: r, m, h => by
    unfold bindL
    rw [bindL_out fun w hw => h w (List.mem_cons_of_mem _ hw)]
    split
    · have : x ≠ n := by rintro rfl; exact h v List.mem_cons_self
      simp [this]
    · rfl
theorem bindC_out {kindOf : Str → Option NameKind} {x : Str} : ∀ {binds : List (Str × Value)} {m : Str → Option Value}, (∀ v, (x, v) ∉ binds) → bindC kindOf binds m x = m x
  | [], _, _ => rfl
  | (n, v) :: r, m, h => by
    unfold bindC
    rw [bindC_out fun w hw => h w (List.mem_cons_of_mem _ hw)]
    split
    · rfl
    · have : x ≠ n := by rintro rfl; exact h v List.mem_cons_self
      simp [this]
theorem bindL_get {kindOf : Str → Option NameKind} {x : Str} {v : Value} : ∀ {P : List Str} {vs : List Value} {i : Nat} {m : Str → Option Value}, P.Nodup → P[i]? = some x → vs[i]? = some v → kindOf x = some .local →
    bindL kindOf (P.zip vs) m x = some v
  | [], _, _, _, _, h, _, _ => by simp at h
  | _ :: _, [], _, _, _, _, h, _ => by simp at h
  | p :: P, w :: vs, 0, m, nd, h1, h2, hk => by
    simp at h1 h2; subst h1; subst h2
    show bindL kindOf ((p, w) :: P.zip vs) m p = _
    unfold bindL
    rw [bindL_out fun v hv => (List.nodup_cons.mp nd).1 (List.of_mem_zip hv).1, if_pos hk]
    simp
  | p :: P, w :: vs, i + 1, m, nd, h1, h2, hk => by
    show bindL kindOf ((p, w) :: P.zip vs) m x = _
    unfold bindL
    exact bindL_get (i := i) (List.nodup_cons.mp nd).2 (by simpa using h1) (by simpa using h2) hk
theorem bindC_get {kindOf : Str → Option NameKind} {x : Str} {v : Value} : ∀ {P : List Str} {vs : List Value} {i : Nat} {m : Str → Option Value}, P.Nodup → P[i]? = some x → vs[i]? = some v → kindOf x ≠ some .local →
    bindC kindOf (P.zip vs) m x = some v
  | [], _, _, _, _, h, _, _ => by simp at h
  | _ :: _, [], _, _, _, _, h, _ => by simp at h
  | p :: P, w :: vs, 0, m, nd, h1, h2, hk => by
    simp at h1 h2; subst h1; subst h2
    show bindC kindOf ((p, w) :: P.zip vs) m p = _
    unfold bindC
    rw [bindC_out fun v hv => (List.nodup_cons.mp nd).1 (List.of_mem_zip hv).1, if_neg hk]
    simp
  | p :: P, w :: vs, i + 1, m, nd, h1, h2, hk => by
    show bindC kindOf ((p, w) :: P.zip vs) m x = _
    unfold bindC
    exact bindC_get (i := i) (List.nodup_cons.mp nd).2 (by simpa using h1) (by simpa using h2) hk

/-- the names' values at the entry -/
def start (N : List Str) (vs : List V) : St := vs.map some ++ List.replicate (N.length - vs.length) none

/-- the context of a def's body, at its entry; an exception leaves the frame, then lies as CX says -/
def cxOf (CX : CXT) (P : Program) (w : World) (K : PySem.W.Frag) (mg : Str → Option Value) (base : Heap) (N : List Str) (qual : Str) (scope : Scope) (f : Addr) (cd : Value) (A : Around) (outer : List Env) (s : Shared) (H : Hp) (E : XK) : Cx where
  prog := P
  w := w
  K := K
  mg := mg
  base := base
  A := A.deeper (envOfC qual scope s.heap.objs.size f cd)
  N := N
  s₀ := s
  H₀ := H
  env := envOfC qual scope s.heap.objs.size f cd
  outer := outer
  stack := envOfC qual scope s.heap.objs.size f cd :: outer
  ex := []
  calm := true
  fn := fun _ => true
  pn := []
  xe := fun e s' => wpAny (model P w) (A.deeper (envOfC qual scope s.heap.objs.size f cd)) (leaving (envOfC qual scope s.heap.objs.size f cd) e) (fun _ s'' => CX outer H s E e s'') (fun e' s'' => CX outer H s E e' s'') s'

theorem cell_has {sc : Scope} {n : Nat} {x : Str} (h : sc.names.lookup x = some .cell) : ∃ c, (cellsFrom n sc.names []).lookup x = some c := by
  have q := PySem.W.cellsFrom_some sc.names n [] (.inl h)
  exact Option.isSome_iff_exists.mp q

theorem inv_start {CX : CXT} {P : Program} {w : World} {K : PySem.W.Frag} {mg : Str → Option Value} {base : Heap} {N ps : List Str} {qual : Str} {scope : Scope} {f : Addr} {cd : Value} {A : Around} {outer : List Env} {s s1 : Shared} {H : Hp} {E : XK} {us : List Value} {vs : List V}
    (S : FnScope N ps scope) (hd : A.handled = none) (e0 : Env0 P w K mg base A outer s H) (hl : vs.length = ps.length) (r : Vals vs us)
    (x : InCallC s s.heap.objs.size (bindL (envOfC qual scope s.heap.objs.size f cd).kindOf (ps.zip us) fun _ => none) (cellsFrom (s.heap.objs.size + 1) scope.names []) (bindC (envOfC qual scope s.heap.objs.size f cd).kindOf (ps.zip us) fun _ => none) s1) :
    Inv (cxOf CX P w K mg base N qual scope f cd A outer s H E) [] (start N vs) H s1 := by
  have hpl : ps.length ≤ N.length := by have := congrArg List.length S.pre; rw [List.length_take] at this; omega
  obtain ⟨h1, tk, rfl, hk⟩ := x.done
  have noA : ∀ b : Addr, b ∉ (cxOf CX P w K mg base N qual scope f cd A outer s H E).ex := fun b z => absurd (show b ∈ ([] : List Addr) from z) (by simp)
  refine ⟨⟨e0.mod, S.kind, rfl, rfl, Nat.le_refl _, fun y z c h1 h2 => ?_, fun y hy => ?_, fun y c _ h => ?_, fun _ => hd, Around.frames_deeper e0.frames, .inr ⟨rfl, rfl⟩, fun b z => absurd z (noA b), e0.bs, e0.bsz, fun b _ _ => noA b, fun b z => absurd z (noA b), e0.funs, e0.frf⟩,
    rfl, e0.bare, Un.kept hk, ⟨_, x.toInCall.ns, fun i y v h1 h2 h3 => ?_⟩, fun y c h => ⟨_, x.cell y c h⟩, e0.hok.fresh (Nat.le_refl _), fun y c h => ?_, fun p hp => absurd (show p ∈ ([] : List (Addr × Obj)) from hp) (by simp), e0.hok.kept hk, ?_⟩
  · exact name_of_addr x.apart (PySem.mem_of_lookup h1) (PySem.mem_of_lookup h2)
  · have hy : scope.names.lookup y = some .cell ∨ scope.names.lookup y = some .free := hy
    rcases hy with hy | hy
    · exact cell_has hy
    · exact absurd rfl (S.nofree _ (PySem.mem_of_lookup hy))
  · exact Nat.le_of_lt (x.above y c (PySem.mem_of_lookup h))
  · have hi : i < vs.length := by
      unfold start at h2
      by_cases hi : i < vs.length
      · exact hi
      · rw [List.getElem?_append_right (by simpa using hi)] at h2
        rw [List.getElem?_replicate] at h2
        split at h2 <;> cases h2
    have ha : vs[i]? = some v := by
      unfold start at h2
      rw [List.getElem?_append_left (by simpa using hi), List.getElem?_map] at h2
      cases e : vs[i]? with
      | none => rw [e] at h2; cases h2
      | some a => rw [e] at h2; cases h2; rfl
    obtain ⟨u, hu, rv⟩ := r.get ha
    have hp : ps[i]? = some y := by
      rw [← S.pre, List.getElem?_take_of_lt (by omega)]; exact h1
    have ndP : ps.Nodup := by rw [← S.pre]; exact S.nd.sublist (List.take_sublist _ _)
    refine ⟨u, rv, ?_⟩
    rcases S.par y (List.mem_of_getElem? hp) with k | k
    · exact .inl ⟨k, bindL_get ndP hp hu k⟩
    · obtain ⟨c, e⟩ := cell_has (n := s.heap.objs.size + 1) k
      refine .inr ⟨.inl k, c, e, ?_⟩
      have q := x.cell y c e
      rw [bindC_get ndP hp hu (by show scope.names.lookup y ≠ _; rw [k]; decide)] at q
      exact q
  · exact e0.hok.fresh (Nat.le_of_lt (x.above y c (PySem.mem_of_lookup h)))
  · unfold start
    show _ = N.length
    rw [List.length_append, List.length_map, List.length_replicate]
    omega

/-- THE RULE: a def (or a method) of the text, by its body. The body's reading t is chosen for each entry; it is run at the parameters' values -/
theorem fn_of {CX : CXT} {P : Program} {w : World} {K : PySem.W.Frag} {mg : Str → Option Value} {base : Heap} {k : Nat} {f : Addr} {name qual : Str} {params : Arguments} {body : List Stmt} {scope : Scope} {dV kV doc pm cdv ct oc : Value} {an od : Option Addr}
    {osl : Array (Option Value)} {N ps : List Str} {sp : Sp} (lk : K.lookup f = some ⟨oc, od, .func (PySem.W.fnOf name qual params body scope dV kV doc pm an cdv ct), osl⟩) (hcd : PySem.W.codeIn K cdv qual = true) (S : FnScope N ps scope)
    (len : ∀ vs H Q E, sp vs H Q E → vs.length = ps.length)
    (hbody : ∀ (A : Around) (outer : List Env) (s : Shared) (H : Hp) (vs : List V) (Q : VK) (E : XK), Room k (A.deeper (envOfC qual scope s.heap.objs.size f cdv)) → sp vs H Q E →
      ∃ t, PSs (cxOf CX P w K mg base N qual scope f cdv A outer s H E) body t ∧ t { nx := fun _ H' => Q .non H', rt := Q } (start N vs) H) :
    FnOk P w K mg base CX (k + 1) f (PySem.W.fnOf name qual params body scope dV kV doc pm an cdv ct) ps sp := by
  refine ⟨len, fun A outer s H args us vs Q E hr e0 hb r hsp => ?_⟩
  have hl := len _ _ _ _ hsp
  have KX : K.In s.heap := e0.mod.kin.keeps fun b o e => (e0.bs b o e).1
  have lim : s.heap.NoLimit := e0.mod.nolimit.keeps fun b o e => (e0.bs b o e).1
  have hkind : ∀ y ∈ ps.zip us, scope.names.lookup y.1 = some .local ∨ (scope.names.lookup y.1 = some .cell ∧ ((cellsFrom (s.heap.objs.size + 1) scope.names []).lookup y.1).isSome = true) := fun ⟨n, v⟩ hy => by
    rcases S.par n (List.of_mem_zip hy).1 with q | q
    · exact .inl q
    · exact .inr ⟨q, PySem.W.cellsFrom_some _ _ _ (.inl q)⟩
  refine codeAny_call_function hr.depth (KX _ _ lk) rfl S.co S.gen rfl (PySem.W.codeRec_of KX hcd) (hb _ _ _ _ ?_)
  refine wpAny_newFunctionEnv_cells S.kind hkind fun env he s1 x => ?_
  subst he
  refine ⟨lim.keeps x.toInCall.keep, codeAny_func ?_⟩
  obtain ⟨t, ht, hq⟩ := hbody A outer s H vs Q E (hr.deeper _) hsp
  have I : Inv (cxOf CX P w K mg base N qual scope f cdv A outer s H E) [] (start N vs) H s1 := inv_start S hr.hd e0 hl r x
  refine wpAny_mono (ht [] s1 (start N vs) H _ I hq) (fun fl s' hs => ?_) fun e s' hs => hs
  have fin : ∀ {σ' : St} {H' : Hp} {v : V} {u : Value}, Inv (cxOf CX P w K mg base N qual scope f cdv A outer s H E) [] σ' H' s' → RelV v u → Q v H' → CE outer P w H s Q u s' :=
    fun {σ' H' v u} J rv q => ⟨v, H', J.os, J.bare, J.base, J.hok, rv, q⟩
  cases fl with
  | ret u =>
    obtain ⟨v, σ', H', J, rv, q⟩ := hs
    exact fin J rv q
  | next =>
    obtain ⟨σ', H', J, q⟩ := hs
    exact fin (v := V.non) (u := Value.none) J rfl q
  | brk =>
    obtain ⟨_, _, _, q⟩ := hs
    exact False.elim q
  | cont =>
    obtain ⟨_, _, _, q⟩ := hs
    exact False.elim q
end L2

namespace L2
open PySem PySem.Spec PyProof.Rows
section
variable {X : Cx} {x : Str} {p pos : Pos} {e : Expr} {es : List Expr} {t : TA} {id T : String} {r : List V → Hp → VK → Prop}

def tCB (r : List V → Hp → VK → Prop) (t : TA) : TE := fun σ H Q => t σ H fun vs H1 => r vs H1 Q
/-- f(e, ..), f a built-in function -/
theorem pe_callB (hc : CallR X (.builtin id) r) (hg : Gl X x) (hm : X.mg x = none) (hv : bootBuiltins x = some (.builtin id)) (ha : PA X (e :: es) t) (hn : x ≠ "__name__" := by decide) (hdb : (x == ("__debug__" : Str)) = false := by decide)
    (he : starEach (e :: es) X.env = (false, eval e X.env) :: starEach es X.env := by rfl) (hpl : (backTo pos (starEach es X.env)).any (·.1) = false := by rfl) : PE X (.Call (.Name x p) (e :: es) [] pos) (tCB r t) := by
  intro pins s σ H Q I h
  refine wpAny_Call_Name_kw (ld_blt I hg hm hv ?_ hn hdb)
  exact PyProof.Rows.callWith_builtin1 (thn (ha pos pins s σ H _ I h) fun us s1 ⟨vs, H1, I1, r1, q1⟩ => hc pins s1 σ H1 vs us Q I1 r1 q1) he hpl
/-- T(e, ..), T a built-in type -/
theorem pe_callTy (hc : CallR X (.type T) r) (hg : Gl X x) (hm : X.mg x = none) (hv : bootBuiltins x = some (.type T)) (ha : PA X (e :: es) t) (hn : x ≠ "__name__" := by decide) (hdb : (x == ("__debug__" : Str)) = false := by decide)
    (he : starEach (e :: es) X.env = (false, eval e X.env) :: starEach es X.env := by rfl) (hpl : (backTo pos (starEach es X.env)).any (·.1) = false := by rfl) : PE X (.Call (.Name x p) (e :: es) [] pos) (tCB r t) := by
  intro pins s σ H Q I h
  refine wpAny_Call_Name_kw (ld_blt I hg hm hv ?_ hn hdb)
  exact PyProof.Rows.callWith_type1 (thn (ha pos pins s σ H _ I h) fun us s1 ⟨vs, H1, I1, r1, q1⟩ => hc pins s1 σ H1 vs us Q I1 r1 q1) he hpl
end
end L2

namespace HT
open PySem PyProof.Rows

section
open PySem.SeqAt
open PySem.AutoSeq1 (wpAny_loadPart')
open PySem.MeetsSeq PySem.MeetsSeq2 PySem.MeetsSeq3

end

section
variable {prog : Program} {w : World} {A : Around} {E : Value → Shared → Prop} {s : Shared}

/-! ### t[a:b], not the whole -/
/-- a slice's bound as a place among n (d where it is left out) -/
def sIx (n d : Nat) : Option Int → Nat
  | none => d
  | some v => if v < 0 then (v + (n : Int)).toNat else min v.toNat n
theorem sIx_none (n d : Nat) : sIx n d none = d := rfl
theorem sIx_nat (n d k : Nat) : sIx n d (some (k : Int)) = min k n := by
  show (if (k : Int) < 0 then ((k : Int) + (n : Int)).toNat else min (k : Int).toNat n) = min k n
  rw [if_neg (by omega), Int.toNat_natCast]
theorem sIx_le (n d : Nat) (hd : d ≤ n) (o : Option Int) : sIx n d o ≤ n := by
  cases o with
  | none => exact hd
  | some v =>
    show (if v < 0 then (v + (n : Int)).toNat else min v.toNat n) ≤ n
    by_cases hv : v < 0
    · rw [if_pos hv]; omega
    · rw [if_neg hv]; exact Nat.min_le_right _ _
theorem clip_eq (v : Int) (n d : Nat) : (if v < 0 then max (v + (n : Int)) 0 else min v (n : Int)) = ((sIx n d (some v) : Nat) : Int) := by
  show (if v < 0 then max (v + (n : Int)) 0 else min v (n : Int)) = (((if v < 0 then (v + (n : Int)).toNat else min v.toNat n) : Nat) : Int)
  by_cases hv : v < 0
  · simp only [if_pos hv]; omega
  · simp only [if_neg hv]; omega
theorem adjust_gen (lo hi : Option Int) (n : Nat) : Builtin.Slice.sliceAdjust lo hi 1 (n : Int) = (((sIx n 0 lo : Nat) : Int), ((sIx n n hi : Nat) : Int)) := by
  have h1 : ¬ ((1 : Int) < 0) := by omega
  unfold Builtin.Slice.sliceAdjust
  simp only [h1, if_false]
  refine Prod.ext ?_ ?_
  · cases lo with
    | none => rfl
    | some v => exact clip_eq v n 0
  · cases hi with
    | none => rfl
    | some v => exact clip_eq v n n
theorem places_gen (i j : Nat) : Builtin.Slice.slicePlaces (i : Int) (j : Int) 1 = j - i := by
  unfold Builtin.Slice.slicePlaces
  have h1 : (1 : Int) > 0 := by omega
  simp only [h1, if_true, Int.ediv_one]
  split <;> omega
theorem slicePart_ {v : Value} {o : Option Int} {Q : Option Int → Shared → Prop} (p : IsPart v o) (h : Q o s) : wpAny (model prog w) A (Builtin.Slice.slicePartIndex v) Q E s := by
  cases p with
  | none => exact slicePart_none h
  | int i t => exact slicePart_int h
theorem sliceApplied_gen {sl : Addr} {vl vu : Value} {lo hi : Option Int} {n : Nat} {Q : Int × Int × Nat → Shared → Prop} (hs : s.heap.IsSliceOf sl vl vu .none) (pl : IsPart vl lo) (pu : IsPart vu hi)
    (h : Q (((sIx n 0 lo : Nat) : Int), 1, sIx n n hi - sIx n 0 lo) s) : wpAny (model prog w) A (Builtin.Slice.sliceApplied (.ref sl) (pure (n : Int))) Q E s := by
  obtain ⟨os, hos, hcs, hds⟩ := id hs
  unfold Builtin.Slice.sliceApplied Builtin.Slice.sliceFields
  refine wpAny_bind (wpAny_bind (wpAny_field hos hds (x := vl) rfl (wpAny_bind (wpAny_field hos hds (x := vu) rfl (wpAny_bind (wpAny_field hos hds (x := .none) rfl (wpAny_pure ?_)))))))
  refine wpAny_bind (slicePart_none ?_)
  show wpAny _ _ (if ((1 : Int) == 0) = true then _ else _) _ _ s
  rw [if_neg (by decide)]
  refine wpAny_bind (slicePart_ pl (wpAny_bind (slicePart_ pu (wpAny_bind (wpAny_pure ?_)))))
  show wpAny _ _ (match Builtin.Slice.sliceAdjust lo hi 1 (n : Int) with | (lo, hi) => pure (lo, (1 : Int), Builtin.Slice.slicePlaces lo hi 1)) _ _ s
  rw [adjust_gen lo hi n]
  show wpAny _ _ (pure (((sIx n 0 lo : Nat) : Int), (1 : Int), Builtin.Slice.slicePlaces ((sIx n 0 lo : Nat) : Int) ((sIx n n hi : Nat) : Int) 1)) _ _ s
  rw [places_gen]
  exact wpAny_pure h
theorem pick_gen (xs : Array Value) (i k : Nat) : ((List.range k).filterMap fun (m : Nat) => xs[((i : Int) + (m : Int) * 1).toNat]?).toArray = ((xs.toList.drop i).take k).toArray := by
  have e : (fun (m : Nat) => xs[((i : Int) + (m : Int) * 1).toNat]?) = fun m => xs[i + m]? := by
    funext m
    have : ((i : Int) + (m : Int) * 1).toNat = i + m := by omega
    rw [this]
  rw [e]
  have := pick_run xs i k
  rw [List.filterMap_map] at this
  have e2 : ((fun x => xs[x]?) ∘ fun x => i + x) = fun m => xs[i + m]? := rfl
  rw [e2] at this
  rw [this]

theorem getItem_tuple_cut {t sl : Addr} {items : Array Value} {vl vu : Value} {lo hi : Option Int} {Q : Value → Shared → Prop} (ht : IsTup s.heap t items) (hs : s.heap.IsSliceOf sl vl vu .none) (pl : IsPart vl lo) (pu : IsPart vu hi)
    (hw : ¬ (sIx items.size 0 lo = 0 ∧ sIx items.size items.size hi = items.size))
    (h : Q (.ref s.heap.objs.size) { s with heap := s.heap.push { cls := .type "tuple", data := .seq ((items.toList.drop (sIx items.size 0 lo)).take (sIx items.size items.size hi - sIx items.size 0 lo)).toArray } })
    (hsz : items.size ≤ sizeLine) : wpAny (model prog w) A (getItem (.ref t) (.ref sl)) Q E s := by
  have htake : sizeOk (.seq ((items.toList.drop (sIx items.size 0 lo)).take (sIx items.size items.size hi - sIx items.size 0 lo)).toArray) := by
    show ((items.toList.drop (sIx items.size 0 lo)).take (sIx items.size items.size hi - sIx items.size 0 lo)).toArray.size ≤ sizeLine
    rw [List.size_toArray, List.length_take, List.length_drop, Array.length_toList]
    omega
  have hj : sIx items.size items.size hi ≤ items.size := sIx_le _ _ (Nat.le_refl _) hi
  obtain ⟨os, hos, hcs, hds⟩ := id hs
  have hTs : s.TypeIs (.ref sl) "slice" := ⟨os, hos, hcs⟩
  unfold getItem
  try with_reducible refine wpAny_holding ?_
  first | refine wpAny_bind (wpAny_pure ?_) | skip
  refine wpAny_bind (wpAny_sequenceKey ht.typeIs (by decide) ?_)
  refine wpAny_bind (wpAny_callSpecial?_slot (name := Str.ofString "__getitem__") ht.typeIs PyProof.Rows.slot_tuple_getitem
    (wpAny_call_entry PyProof.Rows.slot_tuple_getitem ht.typeIs entry_tuple_getitem ?_ (args_tuple_getitem _ _)))
  show wpAny _ _ (Builtin.Tuple.tupleItemsOf (.ref t) >>= _) _ _ s
  refine wpAny_bind (tupleItemsOf_ ht ?_)
  refine wpAny_bind (wpAny_typeOf hTs ?_)
  rw [if_pos (by decide)]
  refine wpAny_bind (sliceApplied_gen hs pl pu ?_)
  have hno : ¬ ((((sIx items.size 0 lo : Nat) : Int) == 0 && (1 : Int) == 1 && (sIx items.size items.size hi - sIx items.size 0 lo) == items.size) = true) := by
    intro q
    rw [Bool.and_eq_true, Bool.and_eq_true] at q
    have q1 : ((sIx items.size 0 lo : Nat) : Int) = 0 := eq_of_beq q.1.1
    have q2 : sIx items.size items.size hi - sIx items.size 0 lo = items.size := eq_of_beq q.2
    exact hw ⟨by omega, by omega⟩
  show wpAny _ _ (if (((sIx items.size 0 lo : Nat) : Int) == 0 && (1 : Int) == 1 && (sIx items.size items.size hi - sIx items.size 0 lo) == items.size) = true then _ else _) _ _ s
  rw [if_neg hno, pick_gen]
  first
    | exact wpAny_bind (m := Builtin.Tuple.tupleExact _) (wpAny_newObj_type (wpAny_pure ⟨_, rfl, wpAny_pure h⟩) htake)
    | exact wpAny_bind (m := Builtin.Tuple.tupleExact _) (wpAny_newObj_type (wpAny_bind (wpAny_pure (wpAny_pure ⟨_, rfl, wpAny_pure h⟩))) htake)
    | exact wpAny_bind (wpAny_bind (m := Builtin.Tuple.tupleExact _) (wpAny_newObj_type (wpAny_pure (wpAny_pure ⟨_, rfl, wpAny_pure h⟩)) htake))
    | exact wpAny_bind (wpAny_bind (m := Builtin.Tuple.tupleExact _) (wpAny_newObj_type (wpAny_pure ⟨_, rfl, wpAny_pure h⟩) htake))
end
end HT

namespace L2
open PySem PySem.Spec PyProof.Rows

/-! ### the parts of a slice -/
abbrev TO := St → Hp → (Option Int → Hp → Prop) → Prop
/-- a slice's part (left out, or an int) -/
def PO (X : Cx) (e : Option Expr) (t : TO) : Prop :=
  ∀ (pins : List (Addr × Obj)) (s : Shared) (σ : St) (H : Hp) (Q : Option Int → Hp → Prop), Inv X pins σ H s → t σ H Q →
    wpAny (model X.prog X.w) X.A (evalPart e X.env) (fun u s' => ∃ o H', Inv X pins σ H' s' ∧ IsPart u o ∧ Q o H') X.xe s
def tNoPart : TO := fun _ H Q => Q none H
def tPart (t : TE) : TO := fun σ H Q => t σ H fun x H1 => ∃ i, x = .int i ∧ Q (some i) H1

theorem intsAre_of {ns : List Int} : ∀ {us : List Value}, Vals (ns.map V.int) us → IntsAre us ns := by
  induction ns with
  | nil => intro us r; rw [List.map_nil] at r; cases r; exact .nil
  | cons n ns ih =>
    intro us r
    rw [List.map_cons] at r
    cases r with
    | cons r1 r2 =>
      obtain ⟨t, e⟩ := r1
      subst e
      exact .cons n t (ih r2)

section
variable {X : Cx} {e : Expr} {te : TE} {lo hi : Option Expr} {tl th : TO} {pos p2 : Pos}

theorem po_none : PO X none tNoPart := by
  intro pins s σ H Q I h
  rw [evalPart_none]
  exact wpAny_pure ⟨none, H, I, .none, h⟩
theorem po_some (h : PE X e te) : PO X (some e) (tPart te) := by
  intro pins s σ H Q I hw
  rw [evalPart_some]
  refine thn (h pins s σ H _ I hw) fun u s1 ⟨x, H1, I1, r1, q1⟩ => ?_
  obtain ⟨i, rfl, q⟩ := q1
  obtain ⟨t, rfl⟩ := r1
  exact ⟨some i, H1, I1, .int i t, q⟩

/-- what a slice of a value is, by values: the slice object stands at sl -/
def SlR (X : Cx) (r : V → Option Int → Option Int → Hp → VK → Prop) : Prop :=
  ∀ (pins : List (Addr × Obj)) (s : Shared) (σ : St) (H : Hp) (x : V) (v vl vu : Value) (lo hi : Option Int) (sl : Addr) (Q : VK), Inv X pins σ H s → RelV x v → s.heap.IsSliceOf sl vl vu .none → IsPart vl lo → IsPart vu hi → r x lo hi H Q →
    ∃ T id, typeLookup (.type T) "__getitem__" = pure (some (.builtin id)) ∧ s.TypeIs v T ∧ wpAny (model X.prog X.w) X.A (getItem v (.ref sl)) (EP X pins σ Q) X.xe s
theorem SlR.or {r r' : V → Option Int → Option Int → Hp → VK → Prop} (h : SlR X r) (h' : SlR X r') : SlR X (fun x lo hi H Q => r x lo hi H Q ∨ r' x lo hi H Q) := by
  intro pins s σ H x v vl vu lo hi sl Q I rx hs pl pu q
  rcases q with q | q
  · exact h pins s σ H x v vl vu lo hi sl Q I rx hs pl pu q
  · exact h' pins s σ H x v vl vu lo hi sl Q I rx hs pl pu q
def tSl (r : V → Option Int → Option Int → Hp → VK → Prop) (te : TE) (tl th : TO) : TE := fun σ H Q => te σ H fun x H1 => tl σ H1 fun l H2 => th σ H2 fun u H3 => r x l u H3 Q
/-- a[lo:hi], any a -/
theorem pe_slice {r : V → Option Int → Option Int → Hp → VK → Prop} (hr : SlR X r) (he : PE X e te) (hl : PO X lo tl) (hu : PO X hi th) : PE X (.Subscript e (.Slice lo hi none p2) pos) (tSl r te tl th) := by
  intro pins s σ H Q I h
  refine Subscript_ (thn (he pins s σ H _ I h) fun v s1 ⟨x, H1, I1, r1, q1⟩ => ?_)
  refine wpAny_Slice (thn (hl pins s1 σ H1 _ I1 q1) fun vl s2 ⟨l, H2, I2, pl, q2⟩ => thn (hu pins s2 σ H2 _ I2 q2) fun vu s3 ⟨u, H3, I3, pu, q3⟩ => ?_)
  rw [evalPart_none]
  refine wpAny_pure ?_
  have I4 : Inv X pins σ H3 { s3 with heap := s3.heap.push { cls := .type "slice", data := .fields #[vl, vu, .none] } } := I3.kept (t' := s3.toks) fun b ob q => Heap.get?_push_of_some _ q
  obtain ⟨T, id, hT, ht, hg⟩ := hr pins { s3 with heap := s3.heap.push { cls := .type "slice", data := .fields #[vl, vu, .none] } } σ H3 x v vl vu l u s3.heap.objs.size Q I4 r1 (Heap.IsSliceOf.new ..) pl pu q3
  show wpAny (model X.prog X.w) X.A (subscriptTail e (.Slice lo hi none p2) v (.ref s3.heap.objs.size)) (EP X pins σ Q) X.xe { s3 with heap := s3.heap.push { cls := .type "slice", data := .fields #[vl, vu, .none] } }
  exact tail_any (ops := [.ref s3.heap.objs.size, v]) ht hT hg (by with_unfolding_all rfl)

/-- the items of xs[lo:hi] -/
def cutV (xs : List V) (lo hi : Option Int) : List V := (xs.drop (HT.sIx xs.length 0 lo)).take (HT.sIx xs.length xs.length hi - HT.sIx xs.length 0 lo)
theorem cutV_length (xs : List V) (lo hi : Option Int) : (cutV xs lo hi).length ≤ xs.length := by
  unfold cutV
  rw [List.length_take, List.length_drop]
  omega
/-- t[lo:hi], not the whole of it (the whole would be t itself) -/
def rSlT (K : PySem.W.Frag) : V → Option Int → Option Int → Hp → VK → Prop := fun x lo hi H Q => ∃ a xs, x = .ref a ∧ SqT K H a xs ∧
  ¬ (HT.sIx xs.length 0 lo = 0 ∧ HT.sIx xs.length xs.length hi = xs.length) ∧ ∀ p, H p = none → Q (.ref p) (upd H p (.tup (cutV xs lo hi)))
theorem sl_tup : SlR X (rSlT X.K) := by
  intro pins s σ H x v vl vu lo hi sl Q I rx hs pl pu h
  obtain ⟨a, xs, rfl, hx, hw, q⟩ := h
  cases rx
  obtain ⟨its, r, ht, hz⟩ := I.tuple hx
  have hlen : its.toArray.size = xs.length := by rw [List.size_toArray]; exact r.length.symm
  refine ⟨"tuple", _, PyProof.Rows.slot_tuple_getitem.lookup, ht.typeIs, ?_⟩
  refine HT.getItem_tuple_cut ht hs pl pu (by rw [hlen]; exact hw) ?_ (by rw [hlen]; exact hz)
  rw [hlen]
  refine ⟨.ref s.heap.objs.size, _, I.laid (t' := s.toks) (o := .tup (cutV xs lo hi)) (fun b ob q => Heap.get?_push_of_some _ q) (Nat.le_refl _) ?_, rfl, q _ (I.hok.fresh (Nat.le_refl _))⟩
  exact ⟨Nat.le_trans (cutV_length xs lo hi) hz, _, (r.drop (HT.sIx xs.length 0 lo)).take (HT.sIx xs.length xs.length hi - HT.sIx xs.length 0 lo), IsTup.new _ _⟩

/-! ### t < u, t + u -/
end
end L2

namespace L2
open PySem PySem.Spec PyProof.Rows

/-! ### places -/
/-- the place that an index of any sign means -/
def ixN (n : Nat) (i : Int) : Option Nat := if 0 ≤ i then (if i < n then some i.toNat else none) else if -(n : Int) ≤ i then some (i + n).toNat else none
def atI {α : Type} (xs : List α) (i : Int) : Option α := (ixN xs.length i).bind fun j => xs[j]?
theorem ixN_seq {n : Nat} {i : Int} {j : Nat} (h : ixN n i = some j) : seqIndex? i n = some j ∧ j < n ∧ -(n : Int) ≤ i ∧ i < n := by
  unfold ixN at h
  by_cases h0 : 0 ≤ i
  · rw [if_pos h0] at h
    by_cases h1 : i < n
    · rw [if_pos h1] at h
      have e : i.toNat = j := Option.some.inj h
      exact ⟨by rw [seqIndex_of h0 h1, e], by omega, by omega, h1⟩
    · rw [if_neg h1] at h; cases h
  · rw [if_neg h0] at h
    by_cases h1 : -(n : Int) ≤ i
    · rw [if_pos h1] at h
      have e : (i + n).toNat = j := Option.some.inj h
      exact ⟨by rw [seqIndex_neg (by omega) h1, e], by omega, h1, by omega⟩
    · rw [if_neg h1] at h; cases h
theorem atI_get {α : Type} {xs : List α} {i : Int} {v : α} (h : atI xs i = some v) : ∃ j, seqIndex? i xs.length = some j ∧ xs[j]? = some v ∧ j < xs.length ∧ -(xs.length : Int) ≤ i ∧ i < xs.length := by
  unfold atI at h
  cases e : ixN xs.length i with
  | none => rw [e] at h; cases h
  | some j =>
    rw [e] at h
    obtain ⟨h1, h2, h3, h4⟩ := ixN_seq e
    exact ⟨j, h1, h, h2, h3, h4⟩
theorem atI_nat {α : Type} {xs : List α} {j : Nat} {v : α} (h : xs[j]? = some v) : atI xs (j : Int) = some v := by
  have hj : j < xs.length := (List.getElem?_eq_some_iff.mp h).1
  have e : ixN xs.length (j : Int) = some j := by
    unfold ixN
    rw [if_pos (by omega), if_pos (by omega)]; simp
  unfold atI; rw [e]; exact h
/-! ### what may be subscripted -/
/-- what stands as an index of a plain subscript -/
def PlainIx (b : Expr) : Prop := ∀ o i, subscripted b false o i = operate [o, i] (getItem o i)
/-- a subscript by values -/
def IxR (X : Cx) (r : R2) : Prop :=
  ∀ (value slice : Expr) (pins : List (Addr × Obj)) (s : Shared) (σ : St) (H : Hp) (x y : V) (v u : Value) (Q : VK), Inv X pins σ H s → RelV x v → RelV y u → r x y H Q →
    subscripted slice false v u = operate [v, u] (getItem v u) → wpAny (model X.prog X.w) X.A (subscriptTail value slice v u) (EP X pins σ Q) X.xe s
/-- a call of a builtin's method by values: the receiver, the arguments -/
def MtR (X : Cx) (id : String) (r : V → List V → Hp → VK → Prop) : Prop :=
  ∀ (pins : List (Addr × Obj)) (s : Shared) (σ : St) (H : Hp) (x : V) (xs : List V) (v : Value) (us : List Value) (Q : VK), Inv X pins σ H s → RelV x v → Vals xs us → r x xs H Q →
    wpAny (model X.prog X.w) X.A (call (.builtin id) (v :: us)) (EP X pins σ Q) X.xe s
section
variable {X : Cx} {a b : Expr} {ta tb : TE} {pos : Pos}
theorem IxR.or {r r' : R2} (h : IxR X r) (h' : IxR X r') : IxR X (fun x y H Q => r x y H Q ∨ r' x y H Q) := by
  intro value slice pins s σ H x y v u Q I rx ry q hs
  rcases q with q | q
  · exact h value slice pins s σ H x y v u Q I rx ry q hs
  · exact h' value slice pins s σ H x y v u Q I rx ry q hs
theorem MtR.or {id : String} {r r' : V → List V → Hp → VK → Prop} (h : MtR X id r) (h' : MtR X id r') : MtR X id (fun x xs H Q => r x xs H Q ∨ r' x xs H Q) := by
  intro pins s σ H x xs v us Q I rx rs q
  rcases q with q | q
  · exact h pins s σ H x xs v us Q I rx rs q
  · exact h' pins s σ H x xs v us Q I rx rs q
/-- a[b] -/
theorem pe_ix {r : R2} (hr : IxR X r) (ha : PE X a ta) (hb : PE X b tb) (hs : PlainIx b) : PE X (.Subscript a b pos) (tOp r ta tb) := by
  intro pins s σ H Q I h
  exact Subscript_ (binT ha hb I h fun v u s2 x y H2 I2 rx ry q => hr a b pins s2 σ H2 x y v u Q I2 rx ry q (hs _ _))

def rIxL (K : PySem.W.Frag) : R2 := fun x y H Q => ∃ p xs i v, x = .ref p ∧ y = .int i ∧ SqL K H p xs ∧ atI xs i = some v ∧ Q v H
def rIxT (K : PySem.W.Frag) : R2 := fun x y H Q => ∃ p xs i v, x = .ref p ∧ y = .int i ∧ SqT K H p xs ∧ atI xs i = some v ∧ Q v H
def rIxS : R2 := fun x y H Q => ∃ z i c, x = .str z ∧ y = .int i ∧ z.length ≤ sizeLine ∧ atI z.cps.toList i = some c ∧ Q (.str ⟨#[c]⟩) H
theorem ix_list : IxR X (rIxL X.K) := by
  intro value slice pins s σ H x y v u Q I rx ry h hs
  obtain ⟨p, xs, i, z, rfl, rfl, hq, he, q⟩ := h
  cases rx
  obtain ⟨t, rfl⟩ := ry
  obtain ⟨its, r, pl, hz⟩ := I.list hq
  obtain ⟨j, h1, h2, h3, h4, h5⟩ := atI_get he
  obtain ⟨w, ew, rw'⟩ := r.get h2
  have hl := r.length
  have hn := line63
  have fin : EP X pins σ Q w s := ⟨z, H, I, rw', q⟩
  by_cases h0 : 0 ≤ i
  · have hj : i.toNat = j := by
      rw [seqIndex_of h0 h5] at h1
      exact Option.some.inj h1
    exact item_listR pl.isList h0 (by omega) (by rw [hj]; simpa using ew) fin hs
  · have hj : (i + (its.toArray.size : Int)).toNat = j := by
      rw [seqIndex_neg (by omega) h4] at h1
      rw [List.size_toArray, ← hl]
      exact Option.some.inj h1
    exact subscriptTail_builtinR (x := w) pl.isList.typeIs slot_list_getitem.lookup
      (wpAny_getItem_list_neg (Q := fun r s' => r = w ∧ EP X pins σ Q r s') pl.isList (by omega) (by rw [List.size_toArray] <;> omega) (by omega) (by rw [hj]; simpa using ew) ⟨rfl, fin⟩) hs
theorem ix_tup : IxR X (rIxT X.K) := by
  intro value slice pins s σ H x y v u Q I rx ry h hs
  obtain ⟨p, xs, i, z, rfl, rfl, hq, he, q⟩ := h
  cases rx
  obtain ⟨t, rfl⟩ := ry
  obtain ⟨its, r, pl, hz⟩ := I.tuple hq
  obtain ⟨j, h1, h2, h3, h4, h5⟩ := atI_get he
  obtain ⟨w, ew, rw'⟩ := r.get h2
  have hl := r.length
  have hn := line63
  have fin : EP X pins σ Q w s := ⟨z, H, I, rw', q⟩
  exact subscriptTail_builtinR (x := w) pl.typeIs slot_tuple_getitem.lookup
    (getItem_tuple (j := j) (Q := fun r s' => r = w ∧ EP X pins σ Q r s') pl (by omega) (by omega) (by rw [List.size_toArray, ← hl]; exact h1) (by simpa using ew) ⟨rfl, fin⟩) hs
theorem ix_str : IxR X rIxS := by
  intro value slice pins s σ H x y v u Q I rx ry h hs
  obtain ⟨z, i, c, rfl, rfl, hz, he, q⟩ := h
  obtain ⟨t, rfl⟩ := rx
  obtain ⟨t', rfl⟩ := ry
  obtain ⟨j, h1, h2, h3, h4, h5⟩ := atI_get he
  have hl : z.cps.toList.length = z.length := by simp [Str.length]
  rw [hl] at h1 h4 h5
  have hn := line63
  exact tail_any (typeIs_str s z t) slot_str_getitem.lookup (getItem_str (c := c) (by
    have e1 : decide (i < -(2 ^ 63 : Int)) = false := decide_eq_false (by omega)
    have e2 : decide (i ≥ 2 ^ 63) = false := decide_eq_false (by omega)
    rw [e1, e2, Bool.or_false]) (by rw [h1]; simpa using h2) ⟨.str ⟨#[c]⟩, H, I.tok _, ⟨_, rfl⟩, q⟩) hs
/-- list, tuple or str -/
def rIx (K : PySem.W.Frag) : R2 := fun x y H Q => rIxL K x y H Q ∨ rIxT K x y H Q ∨ rIxS x y H Q
theorem ix_seq : IxR X (rIx X.K) := ix_list.or (ix_tup.or ix_str)

/-! ### xs[i] = v, any sign -/
theorem Inv.lst {pins : List (Addr × Obj)} {σ : St} {H : Hp} {s : Shared} {p : Addr} {xs : List V} (I : Inv X pins σ H s) (h : H p = some (.lst xs)) :
    ∃ (its : List Value) (n : Nat), Vals xs its ∧ s.heap.get? p = some { cls := .type "list", data := .seq its.toArray n } ∧ xs.length ≤ sizeLine := by
  obtain ⟨z, its, n, r, e⟩ := I.hok p _ h
  exact ⟨its, n, r, e, z⟩
/-! ### slices -/
theorem slice_bounds (lo hi : Option Int) (n : Nat) : (sliceBounds lo hi none n).1 = ((HT.sIx n 0 lo : Nat) : Int) ∧ (sliceBounds lo hi none n).2.1 = ((HT.sIx n n hi : Nat) : Int) ∧ (sliceBounds lo hi none n).2.2 = 1 := by
  refine ⟨?_, ?_, rfl⟩
  · cases lo with
    | none => simp [sliceBounds, HT.sIx]
    | some i =>
      simp only [sliceBounds, HT.sIx, Option.getD_none, show (1 : Int) > 0 by decide, if_true]
      by_cases h : i < 0
      · simp only [h, if_true] <;> omega
      · simp only [h, if_false] <;> omega
  · cases hi with
    | none => simp [sliceBounds, HT.sIx]
    | some i =>
      simp only [sliceBounds, HT.sIx, Option.getD_none, show (1 : Int) > 0 by decide, if_true]
      by_cases h : i < 0
      · simp only [h, if_true] <;> omega
      · simp only [h, if_false] <;> omega
theorem slicePick_cut (its : List Value) (lo hi : Option Int) : slicePick its.toArray lo hi none = ((its.drop (HT.sIx its.length 0 lo)).take (HT.sIx its.length its.length hi - HT.sIx its.length 0 lo)).toArray := by
  obtain ⟨h1, h2, h3⟩ := slice_bounds lo hi its.toArray.size
  unfold slicePick
  rw [h1, h2, h3]
  simp only [sliceRange_one, pick_run, List.size_toArray] <;> rfl
/-- xs[lo:hi] of a list: a new list -/
def rSlL (K : PySem.W.Frag) : V → Option Int → Option Int → Hp → VK → Prop := fun x lo hi H Q => ∃ a xs, x = .ref a ∧ SqL K H a xs ∧ ∀ p, H p = none → Q (.ref p) (upd H p (.lst (cutV xs lo hi)))
theorem sl_list : SlR X (rSlL X.K) := by
  intro pins s σ H x v vl vu lo hi sl Q I rx hs pl pu h
  obtain ⟨a, xs, rfl, hx, q⟩ := h
  cases rx
  obtain ⟨its, r, ht, hz⟩ := I.list hx
  have hlen := r.length
  refine ⟨"list", _, slot_list_getitem.lookup, ht.isList.typeIs, ?_⟩
  refine wpAny_getItem_list_slice ht.isList hs pl pu .none (by simp) ?_ (by rw [List.size_toArray] <;> omega)
  rw [slicePick_cut, ← hlen]
  refine ⟨.ref s.heap.objs.size, _, I.laid (t' := s.toks) (o := .lst (cutV xs lo hi)) (fun b ob q => Heap.get?_push_of_some _ q) (Nat.le_refl _) ?_, rfl, q _ (I.hok.fresh (Nat.le_refl _))⟩
  exact ⟨Nat.le_trans (cutV_length xs lo hi) hz, _, 0, (r.drop (HT.sIx xs.length 0 lo)).take (HT.sIx xs.length xs.length hi - HT.sIx xs.length 0 lo), Heap.get?_push_size _ rfl⟩

/-! ### in, not in: flat items -/
def flatV : V → Bool
  | .non => true
  | .bl _ => true
  | .int _ => true
  | .str _ => true
  | _ => false
/-- == of flat values -/
def eqV : V → V → Bool
  | .non, .non => true
  | .bl a, .bl b => a == b
  | .bl a, .int b => (if a then 1 else 0) == b
  | .int a, .bl b => a == (if b then 1 else 0)
  | .int a, .int b => a == b
  | .str a, .str b => a == b
  | _, _ => false
theorem eqAt_V {A : Around} {s : Shared} {y x : V} {u v : Value} (ry : RelV y u) (rx : RelV x v) (fy : flatV y = true) (fx : flatV x = true) : SeqAt.EqAt A s u v (eqV y x) := by
  cases y with
  | non =>
    cases ry
    cases x with
    | non => cases rx; exact SeqAt.EqAt.same _
    | bl b => cases rx; exact SeqAt.EqAt.none_bool b
    | int b => obtain ⟨t, rfl⟩ := rx; exact SeqAt.EqAt.none_int b t
    | str b => obtain ⟨t, rfl⟩ := rx; exact SeqAt.EqAt.none_str b t
    | _ => exact absurd (show false = true from fx) Bool.false_ne_true
  | bl a =>
    cases ry
    cases x with
    | non => cases rx; exact SeqAt.EqAt.bool_none a
    | bl b => cases rx; exact SeqAt.EqAt.bool_bool a b
    | int b => obtain ⟨t, rfl⟩ := rx; exact SeqAt.EqAt.bool_int a b t
    | str b => obtain ⟨t, rfl⟩ := rx; exact SeqAt.EqAt.bool_str a b t
    | _ => exact absurd (show false = true from fx) Bool.false_ne_true
  | int a =>
    obtain ⟨t', rfl⟩ := ry
    cases x with
    | non => cases rx; exact SeqAt.EqAt.int_none a t'
    | bl b => cases rx; exact SeqAt.EqAt.int_bool a t' b
    | int b => obtain ⟨t, rfl⟩ := rx; exact SeqAt.EqAt.int_int a t' b t
    | str b => obtain ⟨t, rfl⟩ := rx; exact SeqAt.EqAt.int_str a t' b t
    | _ => exact absurd (show false = true from fx) Bool.false_ne_true
  | str a =>
    obtain ⟨t', rfl⟩ := ry
    cases x with
    | non => cases rx; exact SeqAt.EqAt.str_none a t'
    | bl b => cases rx; exact SeqAt.EqAt.str_bool a t' b
    | int b => obtain ⟨t, rfl⟩ := rx; exact SeqAt.EqAt.str_int a t' b t
    | str b => obtain ⟨t, rfl⟩ := rx; exact SeqAt.EqAt.str_str a t' b t
    | _ => exact absurd (show false = true from fx) Bool.false_ne_true
  | _ => exact absurd (show false = true from fy) Bool.false_ne_true
/-- the items' answers, read off the values (a value's own answer does not lean on its token) -/
def eqU (x : V) (u : Value) : Bool := match u with
  | .none => eqV .non x
  | .bool b => eqV (.bl b) x
  | .int i _ => eqV (.int i) x
  | .str z _ => eqV (.str z) x
  | _ => false
theorem eqU_of {x y : V} {u : Value} (r : RelV y u) (f : flatV y = true) : eqU x u = eqV y x := by
  cases y with
  | non => cases r; rfl
  | bl b => cases r; rfl
  | int i => obtain ⟨t, rfl⟩ := r; rfl
  | str z => obtain ⟨t, rfl⟩ := r; rfl
  | _ => exact absurd (show false = true from f) Bool.false_ne_true
theorem any_eqU {x : V} : ∀ {xs : List V} {us : List Value}, Vals xs us → xs.all flatV = true → us.any (eqU x) = xs.any fun y => eqV y x
  | _, _, .nil, _ => rfl
  | y :: xs, u :: us, .cons r t, f => by
    rw [List.all_cons, Bool.and_eq_true] at f
    rw [List.any_cons, List.any_cons, eqU_of r f.1, any_eqU t f.2]
theorem mem_eqAt {A : Around} {s : Shared} {x : V} {v : Value} (rx : RelV x v) (fx : flatV x = true) : ∀ {xs : List V} {us : List Value}, Vals xs us → xs.all flatV = true → ∀ u ∈ us, SeqAt.EqAt A s u v (eqU x u)
  | _, _, .nil, _ => fun u hu => by cases hu
  | y :: xs, u :: us, .cons r t, f => fun u' hu => by
    rw [List.all_cons, Bool.and_eq_true] at f
    rcases List.mem_cons.mp hu with rfl | hu
    · rw [eqU_of r f.1]; exact eqAt_V r rx f.1 fx
    · exact mem_eqAt rx fx t f.2 u' hu
def inV (x : V) (xs : List V) : Bool := xs.any fun y => eqV y x
/-- x in a list or tuple of flat items -/
def rIn (K : PySem.W.Frag) (neg : Bool) : R2 := fun x y H Q => ∃ p xs, y = .ref p ∧ (SqL K H p xs ∨ SqT K H p xs) ∧ flatV x = true ∧ xs.all flatV = true ∧ Q (.bl (if neg then !inV x xs else inV x xs)) H
theorem op_in_seq : OpR X (compareOp .In) (rIn X.K false) := by
  intro pins s σ H x y v u Q I rx ry h
  obtain ⟨p, xs, rfl, hq, fx, fs, q⟩ := h
  cases ry
  rcases hq with hq | hq
  · obtain ⟨its, r, pl, hz⟩ := I.list hq
    refine SeqAt.in_listAt (eqU x) pl.isList (fun w hw => mem_eqAt rx fx r fs w (by simpa using hw)) ⟨.bl _, H, I, rfl, ?_⟩
    rw [show its.toArray.any (eqU x) = its.any (eqU x) by simp, any_eqU r fs]
    exact q
  · obtain ⟨its, r, pl, hz⟩ := I.tuple hq
    refine SeqAt.in_tupleAt (eqU x) pl (fun w hw => mem_eqAt rx fx r fs w (by simpa using hw)) ⟨.bl _, H, I, rfl, ?_⟩
    rw [show its.toArray.any (eqU x) = its.any (eqU x) by simp, any_eqU r fs]
    exact q
/-! ### len, list(x), tuple(x) of any list or tuple that is read -/
theorem call_len_seq : CallR X (.builtin "len") (fun xs H Q => ∃ p ys, xs = [.ref p] ∧ (SqL X.K H p ys ∨ SqT X.K H p ys) ∧ Q (.int ys.length) H) := by
  intro pins s σ H xs us Q I r h
  obtain ⟨p, ys, rfl, hq, q⟩ := h
  obtain ⟨u, rfl, rx⟩ := vals1 r
  cases rx
  have hn := line63
  rcases hq with hq | hq
  · obtain ⟨its, r', pl, hz⟩ := I.list hq
    have hlen := r'.length
    exact Calls.call_len_list pl.isList (by simp only [List.size_toArray] <;> omega) ⟨.int ys.length, H, I.tok _, ⟨s.toks + 1, by rw [List.size_toArray, hlen]⟩, q⟩
  · obtain ⟨its, r', pl, hz⟩ := I.tuple hq
    have hlen := r'.length
    exact len_tuple pl (by simp only [List.size_toArray] <;> omega) ⟨.int ys.length, H, I.tok _, ⟨s.toks + 1, by rw [List.size_toArray, hlen]⟩, q⟩
theorem call_len_str : CallR X (.builtin "len") (fun xs H Q => ∃ z, xs = [.str z] ∧ z.length ≤ sizeLine ∧ Q (.int z.length) H) := by
  intro pins s σ H xs us Q I r h
  obtain ⟨z, rfl, hz, q⟩ := h
  obtain ⟨u, rfl, t, rfl⟩ := vals1 r
  have hn := line63
  exact len_str (by omega) ⟨.int z.length, H, I.tok _, ⟨_, rfl⟩, q⟩
theorem CallR.or {f : Value} {r r' : List V → Hp → VK → Prop} (h : CallR X f r) (h' : CallR X f r') : CallR X f (fun xs H Q => r xs H Q ∨ r' xs H Q) := by
  intro pins s σ H xs us Q I rs q
  rcases q with q | q
  · exact h pins s σ H xs us Q I rs q
  · exact h' pins s σ H xs us Q I rs q
theorem call_tuple_of : CallR X (.type "tuple") (fun xs H Q => ∃ p ys, xs = [.ref p] ∧ ((SqL X.K H p ys ∧ ∀ l, H l = none → Q (.ref l) (upd H l (.tup ys))) ∨ (SqT X.K H p ys ∧ Q (.ref p) H))) := by
  intro pins s σ H xs us Q I r h
  obtain ⟨p, ys, rfl, h⟩ := h
  obtain ⟨u, rfl, rx⟩ := vals1 r
  cases rx
  rcases h with ⟨hq, q⟩ | ⟨hq, q⟩
  · obtain ⟨its, r', pl, hz⟩ := I.list hq
    have hlen := r'.length
    refine call_tuple_list pl.isList (fun h' kp => ?_) (by simp only [List.size_toArray] <;> omega)
    have I1 : Inv X pins σ H { s with heap := h' } := I.kept (t' := s.toks) kp
    have I2 : Inv X pins σ (upd H h'.objs.size (.tup ys)) { s with heap := h'.push { cls := .type "tuple", data := .seq its.toArray } } :=
      I1.laid (t' := s.toks) (fun b o e => Heap.get?_push_of_some _ e) (Nat.le_refl _) (show ObjOk X.prog X.w _ _ _ (.tup ys) from ⟨hz, its, r', IsTup.new _ _⟩)
    exact ⟨.ref h'.objs.size, _, I2, rfl, q _ (I1.hok.fresh (Nat.le_refl _))⟩
  · obtain ⟨its, r', pl, hz⟩ := I.tuple hq
    exact call_tuple_same pl ⟨.ref p, H, I, rfl, q⟩

/-! ### the call of a builtin's method: o.m(..) -/
/-- the value is of that builtin type -/
def tyV (K : PySem.W.Frag) (T : String) (x : V) (H : Hp) : Prop := match x with
  | .str _ => T = "str"
  | .int _ => T = "int"
  | .ref p => (T = "list" ∧ ∃ xs, SqL K H p xs) ∨ (T = "tuple" ∧ ∃ o, K.lookup p = some o ∧ o.cls = .type "tuple" ∧ o.dict = none) ∨
      (T = "dict" ∧ ((∃ kvs, H p = some (.dK kvs)) ∨ ∃ kvs, H p = some (.dT kvs))) ∨ (T = "set" ∧ ∃ S n, H p = some (.set S n))
  | _ => False
theorem tyV_is {pins : List (Addr × Obj)} {σ : St} {H : Hp} {s : Shared} {T : String} {x : V} {v : Value} (I : Inv X pins σ H s) (r : RelV x v) (ty : tyV X.K T x H) :
    s.TypeIs v T ∧ ∀ a, v = .ref a → ∃ ob, s.heap.get? a = some ob ∧ ob.dict = none := by
  cases x with
  | str z =>
    obtain ⟨t, rfl⟩ := r
    cases (show T = "str" from ty)
    exact ⟨typeIs_str s z t, fun _ e => nomatch e⟩
  | int i =>
    obtain ⟨t, rfl⟩ := r
    cases (show T = "int" from ty)
    exact ⟨typeIs_int s i t, fun _ e => nomatch e⟩
  | ref p =>
    cases r
    rcases ty with ⟨rfl, xs, hq⟩ | ⟨rfl, o, hk, hc, hd⟩ | ⟨rfl, hk⟩ | ⟨rfl, S, n, hk⟩
    · obtain ⟨its, _, pl, _⟩ := I.list hq
      refine ⟨pl.isList.typeIs, fun a e => ?_⟩
      cases e
      obtain ⟨o, n, e, c, hd, _⟩ := pl
      exact ⟨o, e, hd⟩
    · refine ⟨⟨o, I.kIn p o hk, hc⟩, fun a e => ?_⟩
      cases e
      exact ⟨o, I.kIn _ o hk, hd⟩
    · have z : ∃ o, s.heap.get? p = some o ∧ o.ExactDict := by
        rcases hk with ⟨kvs, hk⟩ | ⟨kvs, hk⟩
        · obtain ⟨_, _, _, _, o, _, _, e, ex, _⟩ := I.hok p _ hk
          exact ⟨o, e, ex⟩
        · obtain ⟨_, _, _, _, o, _, _, e, ex, _⟩ := I.hok p _ hk
          exact ⟨o, e, ex⟩
      obtain ⟨o, e, ex⟩ := z
      refine ⟨⟨o, e, ex.1⟩, fun a e2 => ?_⟩
      cases e2
      exact ⟨o, e, ex.2.1⟩
    · obtain ⟨o, _, _, _, e, ex, _⟩ := I.hok p _ hk
      refine ⟨⟨o, e, ex.1⟩, fun a e2 => ?_⟩
      cases e2
      exact ⟨o, e, ex.2.1⟩
  | _ => exact False.elim ty
def tBM0 (K : PySem.W.Frag) (T : String) (r : V → List V → Hp → VK → Prop) (to : TE) : TE := fun σ H Q => to σ H fun x H1 => tyV K T x H1 ∧ r x [] H1 Q
def tBM (K : PySem.W.Frag) (T : String) (r : V → List V → Hp → VK → Prop) (to : TE) (t : TA) : TE := fun σ H Q => to σ H fun x H1 => tyV K T x H1 ∧ t σ H1 fun xs H2 => r x xs H2 Q
variable {o e : Expr} {es : List Expr} {to : TE} {t : TA} {name : Str} {apos cpos : Pos} {T id : String} {r : V → List V → Hp → VK → Prop}
theorem pe_bm0 (pa : PlainAttrs T) (slot : Slot T name id) (hty : typeOf (.builtin id) = pure (.type "method_descriptor")) (hm : MtR X id r) (ho : PE X o to)
    (hbase : attributeBase o name X.env (eval o X.env) = eval o X.env := by rfl) (hline : (apos.endLine == cpos.line) = true := by rfl) : PE X (.Call (.Attribute o name apos) [] [] cpos) (tBM0 X.K T r to) := by
  intro pins s σ H Q I h
  refine wpAny_Call_method0_late hbase hline (thn (ho pins s σ H _ I h) fun v s1 ⟨x, H1, I1, r1, ty, q1⟩ => ?_)
  obtain ⟨h1, h2⟩ := tyV_is I1 r1 ty
  exact ⟨T, id, pa, slot, hty, h1, h2, Calls.callWith_builtin rfl (PySem.evalArgs_none (hm pins s1 σ H1 x [] v [] Q I1 r1 .nil q1))⟩
theorem pe_bm (pa : PlainAttrs T) (slot : Slot T name id) (hty : typeOf (.builtin id) = pure (.type "method_descriptor")) (hm : MtR X id r) (ho : PE X o to) (ha : PA X (e :: es) t)
    (hbase : attributeBase o name X.env (eval o X.env) = eval o X.env := by rfl)
    (hfew : ((backTo cpos (starEach (e :: es) X.env)).all (fun x => !x.1) && (backToKw cpos (keywordEach [] X.env)).all (fun x => x.1.isSome)
      && decide ((e :: es).length + ([] : List Keyword).length + (if ([] : List Keyword).isEmpty then 0 else 1) < 30)) = true := by rfl)
    (hline : (apos.endLine == cpos.line) = true := by rfl) (hs : starEach (e :: es) X.env = (false, eval e X.env) :: starEach es X.env := by rfl) (hplain : (backTo cpos (starEach es X.env)).any (·.1) = false := by rfl) :
    PE X (.Call (.Attribute o name apos) (e :: es) [] cpos) (tBM X.K T r to t) := by
  intro pins s σ H Q I h
  refine wpAny_Call_method_late hbase hfew hline rfl (thn (ho pins s σ H _ I h) fun v s1 ⟨x, H1, I1, r1, ty, q1⟩ => ?_)
  obtain ⟨h1, h2⟩ := tyV_is I1 r1 ty
  refine ⟨T, id, pa, slot, hty, h1, h2, ?_⟩
  have hA := ha cpos pins s1 σ H1 _ I1 q1
  rw [hs] at hA ⊢
  refine Calls.callWith_builtin (by show (false || (backTo cpos (starEach es X.env)).any (·.1)) = false; rw [hplain] <;> rfl) (Calls.evalArgs_plain ?_)
  exact thn hA fun us s2 ⟨vs, H2, I2, r2, q2⟩ => hm pins s2 σ H2 x vs v us Q I2 r1 r2 q2
/- xs.append(e), list.index on a module's tuple .. are MtR facts of 06m -/
end
end L2

namespace L2
open PySem PySem.Spec PyProof.Rows

def MtM (X : Cx) (id : String) (r : V → List V → Hp → VK → Prop) : Prop :=
  ∀ (pins : List (Addr × Obj)) (s : Shared) (σ : St) (H : Hp) (x : V) (xs : List V) (v : Value) (us : List Value) (Q : VK), Inv X pins σ H s → RelV x v → Vals xs us → r x xs H Q →
    wpAny (model X.prog X.w) X.A (call (.builtin id) (v :: us)) (EP X pins σ Q) X.xe s

/-! ### lists of values -/
theorem Vals.one : ∀ {x : V} {us : List Value}, Vals [x] us → ∃ u, us = [u] ∧ RelV x u
  | _, _, .cons r .nil => ⟨_, rfl, r⟩
theorem Vals.two : ∀ {x y : V} {us : List Value}, Vals [x, y] us → ∃ u v, us = [u, v] ∧ RelV x u ∧ RelV y v
  | _, _, _, .cons r (.cons q .nil) => ⟨_, _, rfl, r, q⟩
theorem Vals.zero : ∀ {us : List Value}, Vals [] us → us = []
  | _, .nil => rfl
theorem Vals.dropLast {xs : List V} {us : List Value} (h : Vals xs us) : Vals xs.dropLast us.dropLast := by
  induction h with
  | nil => exact .nil
  | cons r t ih =>
    cases t with
    | nil => exact .nil
    | cons q t' => exact .cons r ih
theorem Vals.eraseIdx : ∀ {xs : List V} {us : List Value} (i : Nat), Vals xs us → Vals (xs.eraseIdx i) (us.eraseIdx i)
  | _, _, _, .nil => .nil
  | _, _, 0, .cons _ t => t
  | _, _, i + 1, .cons r t => .cons r (Vals.eraseIdx i t)
theorem Vals.reverse {xs : List V} {us : List Value} (h : Vals xs us) : Vals xs.reverse us.reverse := by
  induction h with
  | nil => exact .nil
  | cons r t ih => rw [List.reverse_cons, List.reverse_cons]; exact Vals.append ih (.cons r .nil)
theorem erase_last {α : Type} (l : List α) : l.eraseIdx (l.length - 1) = l.dropLast := by
  induction l with
  | nil => rfl
  | cons a r ih =>
    cases r with
    | nil => rfl
    | cons b r =>
      have e : (a :: b :: r).length - 1 = ((b :: r).length - 1) + 1 := by
        have h1 : (a :: b :: r).length = r.length + 2 := rfl
        have h2 : (b :: r).length = r.length + 1 := rfl
        omega
      rw [e, List.eraseIdx_cons_succ, ih]
      all_goals rfl
theorem len_erase {α : Type} : ∀ (l : List α) (i : Nat), (l.eraseIdx i).length ≤ l.length
  | [], _ => Nat.le_refl _
  | _ :: _, 0 => Nat.le_succ _
  | _ :: r, i + 1 => Nat.succ_le_succ (len_erase r i)
section
variable {X : Cx} {pins : List (Addr × Obj)} {σ : St} {H : Hp} {s : Shared} {l b : Addr} {xs ys zs : List V}

/-! ### the two steps: a tracked list is rewritten, a new list is laid -/
theorem Inv.lset {its its' : List Value} {n : Nat} {f : Array Value → Array Value} {t' : Nat} (I : Inv X pins σ H s) (hH : H l = some (.lst xs))
    (e : s.heap.get? l = some { cls := .type "list", data := .seq its.toArray n }) (hf : f its.toArray = its'.toArray) (hv : Vals ys its') (hz : ys.length ≤ sizeLine) :
    Inv X pins σ (upd H l (.lst ys)) { s with heap := s.heap.update l (Obj.mapSeq f), toks := t' } := by
  have q := PySem.IsL.update e f
  rw [hf] at q
  refine I.write (x := l) (e := l) (by rw [hH]; exact trivial) (.inl rfl) (fun b' u hb hu => (Heap.get?_update_other s.heap (Obj.mapSeq f) (Ne.symm hb)).trans hu) ⟨_, q⟩ ?_
  exact ⟨hz, its', _, hv, q⟩
theorem Inv.lnew {its : List Value} {t' : Nat} (I : Inv X pins σ H s) (hv : Vals ys its) (hz : ys.length ≤ sizeLine) :
    Inv X pins σ (upd H s.heap.objs.size (.lst ys)) { s with heap := s.heap.push { cls := .type "list", data := .seq its.toArray }, toks := t' } :=
  I.laid (fun _ _ q => Heap.get?_push_of_some _ q) (Nat.le_refl _) ⟨hz, its, 0, hv, Heap.get?_push_size _ rfl⟩
theorem Inv.fresh (I : Inv X pins σ H s) : H s.heap.objs.size = none := I.hok.fresh (Nat.le_refl _)
theorem Inv.lstM (I : Inv X pins σ H s) (hH : H l = some (.lst xs)) : xs.length ≤ sizeLine ∧ ∃ (its : List Value) (n : Nat), Vals xs its ∧ xs.length = its.length ∧ s.heap.get? l = some { cls := .type "list", data := .seq its.toArray n } := by
  obtain ⟨z, its, n, r, e⟩ := I.hok l _ hH
  exact ⟨z, its, n, r, r.length, e⟩

end

section
variable {X : Cx}

/-! ### methods -/
def rAppend : V → List V → Hp → VK → Prop := fun x vs H Q => ∃ l xs y, x = .ref l ∧ vs = [y] ∧ H l = some (.lst xs) ∧ xs.length < sizeLine ∧ Q .non (upd H l (.lst (xs ++ [y])))
theorem mt_append : MtM X "list.append" rAppend := by
  intro pins s σ H x vs v us Q I rx rv h
  obtain ⟨l, xs, y, rfl, rfl, hH, hz, q⟩ := h
  cases rx
  obtain ⟨u, rfl, ru⟩ := rv.one
  obtain ⟨z, its, n, r, hl, e⟩ := I.lstM hH
  refine call_meets F.slot_list_append ⟨_, e, rfl⟩ F.entry_list_append (F.args_list_append_2 _ _) (PySem.list_append l its.toArray n u (by rw [List.size_toArray]; omega)) ⟨e, ?_⟩
  refine ⟨.non, _, I.lset (its' := its ++ [u]) hH e (by simp) (r.append (.cons ru .nil)) ?_, rfl, q⟩
  rw [List.length_append, List.length_singleton]
  omega

def rPop : V → List V → Hp → VK → Prop := fun x vs H Q => ∃ l xs y, x = .ref l ∧ vs = [] ∧ H l = some (.lst xs) ∧ xs[xs.length - 1]? = some y ∧ Q y (upd H l (.lst xs.dropLast))
theorem mt_pop : MtM X "list.pop" rPop := by
  intro pins s σ H x vs v us Q I rx rv h
  obtain ⟨l, xs, y, rfl, rfl, hH, hy, q⟩ := h
  cases rx
  have hus := rv.zero
  subst hus
  obtain ⟨z, its, n, r, hl, e⟩ := I.lstM hH
  obtain ⟨u, hu, ru⟩ := r.get hy
  have hy' : its.toArray[its.toArray.size - 1]? = some u := by
    show its.toArray[its.length - 1]? = some u
    rw [← Array.getElem?_toList, ← hl]
    exact hu
  refine call_meets F.slot_list_pop ⟨_, e, rfl⟩ F.entry_list_pop (F.args_list_pop_1 _) (MeetsSeq.list_pop_last l its.toArray n u hy' (by rw [List.size_toArray]; omega)) ⟨e, ?_⟩
  refine ⟨y, _, I.lset (its' := its.dropLast) hH e ?_ r.dropLast ?_, ru, q⟩
  · show its.toArray.eraseIdxIfInBounds (its.toArray.size - 1) = its.dropLast.toArray
    rw [List.size_toArray, List.eraseIdxIfInBounds_toArray, erase_last]
  · rw [List.length_dropLast]
    omega

def rPopAt : V → List V → Hp → VK → Prop := fun x vs H Q => ∃ l xs i k y, x = .ref l ∧ vs = [.int i] ∧ H l = some (.lst xs) ∧ -(2 ^ 63) ≤ i ∧ i < 2 ^ 63 ∧ seqIndex? i xs.length = some k ∧ xs[k]? = some y ∧ Q y (upd H l (.lst (xs.eraseIdx k)))
theorem mt_popAt : MtM X "list.pop" rPopAt := by
  intro pins s σ H x vs v us Q I rx rv h
  obtain ⟨l, xs, i, k, y, rfl, rfl, hH, h1, h2, hk, hy, q⟩ := h
  cases rx
  obtain ⟨u, rfl, ru⟩ := rv.one
  obtain ⟨t, rfl⟩ := ru
  obtain ⟨z, its, n, r, hl, e⟩ := I.lstM hH
  obtain ⟨w, hw, rw'⟩ := r.get hy
  refine call_meets F.slot_list_pop ⟨_, e, rfl⟩ F.entry_list_pop (F.args_list_pop_2 _ _)
    (MeetsSeq.list_pop_at l its.toArray n i t k w (fitsIndex_both h1 h2) (by rw [List.size_toArray, ← hl]; exact hk) (by rw [← Array.getElem?_toList]; exact hw) (by rw [List.size_toArray]; omega)) ⟨e, ?_⟩
  refine ⟨y, _, I.lset (its' := its.eraseIdx k) hH e ?_ (r.eraseIdx k) ?_, rw', q⟩
  · show its.toArray.eraseIdxIfInBounds k = (its.eraseIdx k).toArray
    rw [List.eraseIdxIfInBounds_toArray]
  · have := len_erase xs k
    omega

/-! ### list + list, list += list, list * int -/
def rCat : R2 := fun x y H Q => ∃ l b xs zs, x = .ref l ∧ y = .ref b ∧ H l = some (.lst xs) ∧ H b = some (.lst zs) ∧ xs.length + zs.length ≤ sizeLine ∧ ∀ p, H p = none → Q (.ref p) (upd H p (.lst (xs ++ zs)))
theorem op_cat : OpR X (binaryOp .Add) rCat := by
  intro pins s σ H x y v u Q I rx ry h
  obtain ⟨l, b, xs, zs, rfl, rfl, hH, hB, hz, q⟩ := h
  cases rx
  cases ry
  obtain ⟨z, its, n, r, hl, e⟩ := I.lstM hH
  obtain ⟨z2, its2, n2, r2, hl2, e2⟩ := I.lstM hB
  refine PySem.P.add_list e e2 ?_ (by rw [List.size_toArray, List.size_toArray]; omega)
  have ea : its.toArray ++ its2.toArray = (its ++ its2).toArray := by simp
  rw [ea]
  exact ⟨.ref _, _, I.lnew (t' := s.toks) (r.append r2) (by rw [List.length_append]; omega), rfl, q _ I.fresh⟩
/-! ### del xs[i] -/
end

/-! ### xs[a:b] = ys -/
section
variable {prog : Program} {w : World} {A : Around} {E : Value → Shared → Prop} {s : Shared}
end

section
variable {X : Cx}
end
end L2

namespace L2
open PySem PySem.Spec PyProof.Rows

/-! ### lists of pairs as tables -/
section
variable {κ : Type} [DecidableEq κ]
def valV (kvs : List (κ × V)) (k : κ) : Option V := (kvs.find? fun kv => decide (kv.1 = k)).map (·.2)
/-- in its place, or at the end -/
def putK (kvs : List (κ × V)) (k : κ) (v : V) : List (κ × V) :=
  if (kvs.any fun kv => decide (kv.1 = k)) = true then kvs.map (fun kv => if kv.1 = k then (kv.1, v) else kv) else kvs ++ [(k, v)]
def dropK (kvs : List (κ × V)) (k : κ) : List (κ × V) := kvs.filter fun kv => decide (kv.1 ≠ k)

theorem valV_pos {p : κ × V} {r : List (κ × V)} {k : κ} (e : p.1 = k) : valV (p :: r) k = some p.2 := by simp [valV, List.find?_cons, e]
theorem valV_neg {p : κ × V} {r : List (κ × V)} {k : κ} (e : ¬ p.1 = k) : valV (p :: r) k = valV r k := by simp [valV, List.find?_cons, e]
theorem valV_any (k : κ) : ∀ kvs : List (κ × V), (kvs.any fun kv => decide (kv.1 = k)) = (valV kvs k).isSome
  | [] => rfl
  | p :: r => by
    rw [List.any_cons]
    by_cases e : p.1 = k
    · simp only [valV_pos e, decide_eq_true e, Bool.true_or, Option.isSome_some]
    · rw [valV_neg e, decide_eq_false e, Bool.false_or]; exact valV_any k r
theorem length_putK (kvs : List (κ × V)) (k : κ) (v : V) : (putK kvs k v).length ≤ kvs.length + 1 := by
  unfold putK
  split
  · rw [List.length_map]; omega
  · rw [List.length_append, List.length_cons, List.length_nil]; omega
theorem RelO.isSome_eq {o : Option V} {u : Option Value} (r : RelO o u) : o.isSome = u.isSome := by
  cases o with
  | none => cases u with
    | none => rfl
    | some _ => exact (show False from r).elim
  | some _ => cases u with
    | none => exact (show False from r).elim
    | some _ => rfl
theorem RelO.getD {o : Option V} {u : Option Value} {d : V} {d' : Value} (r : RelO o u) (rd : RelV d d') : RelV (o.getD d) (u.getD d') := by
  cases o with
  | none => cases u with
    | none => exact rd
    | some _ => exact (show False from r).elim
  | some _ => cases u with
    | none => exact (show False from r).elim
    | some _ => exact r

/-- raw tables of the same keys -/
theorem KV.val {kvs : List (κ × V)} {vs : List (κ × Value)} (r : KV kvs vs) (k : κ) : RelO (valV kvs k) (valueAt vs k) := by
  unfold KV at r
  induction r with
  | nil => exact True.intro
  | @cons p q ps qs h t ih =>
    obtain ⟨h1, h2⟩ := h
    by_cases e : p.1 = k
    · have e' : q.1 = k := h1.symm.trans e
      have b : valueAt (q :: qs) k = some q.2 := by simp [valueAt, List.find?_cons, e']
      rw [valV_pos e, b]; exact h2
    · have e' : ¬ q.1 = k := fun z => e (h1.trans z)
      have b : valueAt (q :: qs) k = valueAt qs k := by simp [valueAt, List.find?_cons, e']
      rw [valV_neg e, b]; exact ih
theorem KV.any {kvs : List (κ × V)} {vs : List (κ × Value)} (r : KV kvs vs) (k : κ) : (kvs.any fun kv => decide (kv.1 = k)) = vs.any fun kv => decide (kv.1 = k) := by
  unfold KV at r
  induction r with
  | nil => rfl
  | cons h t ih => rw [List.any_cons, List.any_cons, ih, h.1]
theorem KV.repl {kvs : List (κ × V)} {vs : List (κ × Value)} (r : KV kvs vs) (k : κ) {y : V} {u : Value} (ry : RelV y u) :
    KV (kvs.map fun kv => if kv.1 = k then (kv.1, y) else kv) (vs.map fun kv => if kv.1 = k then (kv.1, u) else kv) := by
  unfold KV at r ⊢
  induction r with
  | nil => exact .nil
  | @cons p q ps qs h t ih =>
    rw [List.map_cons, List.map_cons]
    refine .cons ?_ ih
    obtain ⟨h1, h2⟩ := h
    by_cases e : p.1 = k
    · rw [if_pos e, if_pos (h1.symm.trans e)]; exact ⟨h1, ry⟩
    · rw [if_neg e, if_neg (fun z => e (h1.trans z))]; exact ⟨h1, h2⟩
theorem KV.put {kvs : List (κ × V)} {vs : List (κ × Value)} (r : KV kvs vs) (k : κ) {y : V} {u : Value} (ry : RelV y u) : KV (putK kvs k y) (stored vs k u) := by
  unfold putK stored
  rw [r.any k]
  by_cases e : (vs.any fun kv => decide (kv.1 = k)) = true
  · rw [if_pos e, if_pos e]; exact r.repl k ry
  · rw [if_neg e, if_neg e]; exact Paired.snoc r ⟨rfl, ry⟩
theorem KV.drop {kvs : List (κ × V)} {vs : List (κ × Value)} (r : KV kvs vs) (k : κ) : KV (dropK kvs k) (without vs k) := by
  unfold KV at r ⊢
  unfold dropK without
  induction r with
  | nil => exact .nil
  | @cons p q ps qs h t ih =>
    obtain ⟨h1, h2⟩ := h
    rw [List.filter_cons, List.filter_cons]
    by_cases e : p.1 = k
    · have a : ¬ decide (p.1 ≠ k) = true := by simp [e]
      have b : ¬ decide (q.1 ≠ k) = true := by simp [h1.symm.trans e]
      rw [if_neg a, if_neg b]; exact ih
    · have e' : ¬ q.1 = k := fun z => e (h1.trans z)
      have a : decide (p.1 ≠ k) = true := by simp [e]
      have b : decide (q.1 ≠ k) = true := by simp [e']
      rw [if_pos a, if_pos b]; exact .cons ⟨h1, h2⟩ ih
theorem KV.keys {kvs : List (κ × V)} {vs : List (κ × Value)} (r : KV kvs vs) : kvs.map (·.1) = vs.map (·.1) := by
  unfold KV at r
  induction r with
  | nil => rfl
  | cons h t ih => rw [List.map_cons, List.map_cons, ih, h.1]
theorem KV.length {kvs : List (κ × V)} {vs : List (κ × Value)} (r : KV kvs vs) : kvs.length = vs.length := Paired.length r
end


/-! ### a tracked dict, its keys ints and texts or tuples of these -/
theorem kV_is {P : Program} {w : World} {k : Key} {u : Value} (r : RelV (kV k) u) : (mixKind P w).is k u = true := by
  cases k with
  | inl i => obtain ⟨t, e⟩ := (show ∃ t, u = Value.int i t from r); subst e; exact mixKind_int P w i t
  | inr x => obtain ⟨t, e⟩ := (show ∃ t, u = Value.str x t from r); subst e; exact mixKind_str P w x t
theorem items_are {P : Program} {w : World} : ∀ {ks : List Key} {us : List Value}, Vals (ks.map kV) us → ItemsAre (mixKind P w) ks us
  | [], _, r => by rw [List.map_nil] at r; cases r; exact .nil
  | k :: ks, _, r => by
    rw [List.map_cons] at r
    cases r with
    | cons h t => exact .cons (kV_is h) (items_are t)

/-- raw entries of a dict with tuple keys -/
abbrev KT (H : Hp) : List (List Key × V) → List (List Key × Addr × Value) → Prop := Paired fun p q => p.1 = q.1 ∧ H q.2.1 = some (.tup (p.1.map kV)) ∧ RelV p.2 q.2.2
theorem KT.val {H : Hp} {kvs : List (List Key × V)} {xs : List (List Key × Addr × Value)} (r : KT H kvs xs) (k : List Key) : RelO (valV kvs k) ((atKey xs k).map (·.2)) := by
  induction r with
  | nil => exact True.intro
  | @cons p q ps qs h t ih =>
    obtain ⟨h1, _, h2⟩ := h
    by_cases e : p.1 = k
    · have e' : q.1 = k := h1.symm.trans e
      have b : atKey (q :: qs) k = some q.2 := by simp [atKey, List.find?_cons, e']
      rw [valV_pos e, b]; exact h2
    · have e' : ¬ q.1 = k := fun z => e (h1.trans z)
      have b : atKey (q :: qs) k = atKey qs k := by simp [atKey, List.find?_cons, e']
      rw [valV_neg e, b]; exact ih
theorem KT.repl {H : Hp} {kvs : List (List Key × V)} {xs : List (List Key × Addr × Value)} (r : KT H kvs xs) (k : List Key) {y : V} {u : Value} (ry : RelV y u) :
    KT H (kvs.map fun kv => if kv.1 = k then (kv.1, y) else kv) (xs.map (putAt k u)) := by
  induction r with
  | nil => exact .nil
  | @cons p q ps qs h t ih =>
    rw [List.map_cons, List.map_cons]
    refine .cons ?_ ih
    obtain ⟨h1, h2, h3⟩ := h
    unfold putAt
    by_cases e : p.1 = k
    · rw [if_pos e, if_pos (h1.symm.trans e)]; exact ⟨h1, h2, ry⟩
    · rw [if_neg e, if_neg (fun z => e (h1.trans z))]; exact ⟨h1, h2, h3⟩
theorem KT.put {H : Hp} {kvs : List (List Key × V)} {xs : List (List Key × Addr × Value)} (r : KT H kvs xs) (k : List Key) {b : Addr} {y : V} {u : Value} (hb : H b = some (.tup (k.map kV))) (ry : RelV y u) :
    KT H (putK kvs k y) (storedH xs k b u) := by
  have e : (kvs.any fun kv => decide (kv.1 = k)) = (atKey xs k).isSome := by
    rw [valV_any, (r.val k).isSome_eq, Option.isSome_map]
  unfold putK storedH
  rw [e]
  by_cases q : (atKey xs k).isSome = true
  · rw [if_pos q, if_pos q]; exact r.repl k ry
  · rw [if_neg q, if_neg q]; exact Paired.snoc r ⟨rfl, hb, ry⟩
theorem KT.keeps {H H' : Hp} {kvs : List (List Key × V)} {xs : List (List Key × Addr × Value)} (r : KT H kvs xs) (ht : ∀ b ys, H b = some (.tup ys) → H' b = some (.tup ys)) : KT H' kvs xs :=
  Paired.mapP r fun _ _ z => ⟨z.1, ht _ _ z.2.1, z.2.2⟩

section
variable {P : Program} {w : World} {H : Hp} {h : Heap} {a : Addr}
theorem rd_of {u : HO} (ok : HOk P w H h) (e : Rd H a u) : ObjOk P w H h a u := e.ok ok
theorem dk_rd {kvs : List (Key × V)} (ok : HOk P w H h) (e : Rd H a (.dK kvs)) : kvs.length ≤ sizeLine ∧ (a == sysModules) = false ∧ ∃ vs, KV kvs vs ∧ h.DictOf (mixKind P w) a vs :=
  show ObjOk P w H h a (.dK kvs) from rd_of ok e
theorem dk_of {kvs : List (Key × V)} (ok : HOk P w H h) (e : H a = some (.dK kvs)) : kvs.length ≤ sizeLine ∧ (a == sysModules) = false ∧ ∃ vs, KV kvs vs ∧ h.DictOf (mixKind P w) a vs := dk_rd ok (.inl e)
/-- a tracked tuple of ints and texts is a key -/
theorem key_of {ks : List Key} (ok : HOk P w H h) (e : H a = some (.tup (ks.map kV))) : (tupleKind (mixKind P w)).is h ks a := by
  obtain ⟨_, its, r, o, h1, h2, n, h3⟩ := (show ObjOk P w H h a (.tup (ks.map kV)) from ok a _ e)
  exact ⟨o, its.toArray, n, h1, h2, h3, by simpa using items_are r⟩
theorem dt_rd {kvs : List (List Key × V)} (ok : HOk P w H h) (e : Rd H a (.dT kvs)) : kvs.length ≤ sizeLine ∧ (a == sysModules) = false ∧
    ∃ xs, KT H kvs xs ∧ h.DictOfH (tupleKind (mixKind P w)) a xs := by
  obtain ⟨z, y, xs, r, o, es, ep, h1, h2, h3, h4, h5⟩ := (show ObjOk P w H h a (.dT kvs) from rd_of ok e)
  refine ⟨z, y, xs, r, o, es, ep, h1, h2, h3, h4, fun x hx => ?_, h5⟩
  have all : ∀ {l : List (List Key × V)} {m : List (List Key × Addr × Value)}, KT H l m → ∀ x ∈ m, (tupleKind (mixKind P w)).is h x.1 x.2.1 := by
    intro l m q
    induction q with
    | nil => intro x hx; exact nomatch hx
    | @cons p q ps qs hq t ih =>
      intro x hx
      rcases List.mem_cons.mp hx with e | hx
      · subst e
        exact key_of ok (by rw [← hq.1]; exact hq.2.1)
      · exact ih x hx
  exact all r x hx
theorem dt_of {kvs : List (List Key × V)} (ok : HOk P w H h) (e : H a = some (.dT kvs)) : kvs.length ≤ sizeLine ∧ (a == sysModules) = false ∧
    ∃ xs, KT H kvs xs ∧ h.DictOfH (tupleKind (mixKind P w)) a xs := dt_rd ok (.inl e)
end

/-- what the dict at a holds at the key y -/
def DGet (H : Hp) (a : Addr) (y : V) (r : Option V) : Prop :=
  (∃ kvs k, Rd H a (.dK kvs) ∧ y = kV k ∧ r = valV kvs k) ∨ ∃ kvs k b, Rd H a (.dT kvs) ∧ y = .ref b ∧ H b = some (.tup (k.map kV)) ∧ r = valV kvs k
/-- the heap behind a[y] = v -/
def DPut (H : Hp) (a : Addr) (y v : V) (H' : Hp) : Prop :=
  (∃ kvs k, H a = some (.dK kvs) ∧ y = kV k ∧ kvs.length < sizeLine ∧ H' = upd H a (.dK (putK kvs k v))) ∨
  ∃ kvs k b, H a = some (.dT kvs) ∧ y = .ref b ∧ H b = some (.tup (k.map kV)) ∧ kvs.length < sizeLine ∧ H' = upd H a (.dT (putK kvs k v))
theorem DGet.k {H : Hp} {a : Addr} {kvs : List (Key × V)} {k : Key} (e : H a = some (.dK kvs)) : DGet H a (kV k) (valV kvs k) := .inl ⟨kvs, k, .inl e, rfl, rfl⟩
theorem DGet.t {H : Hp} {a b : Addr} {kvs : List (List Key × V)} {k : List Key} (e : H a = some (.dT kvs)) (eb : H b = some (.tup (k.map kV))) : DGet H a (.ref b) (valV kvs k) := .inr ⟨kvs, k, b, .inl e, rfl, eb, rfl⟩
theorem DPut.k {H : Hp} {a : Addr} {kvs : List (Key × V)} {k : Key} {v : V} (e : H a = some (.dK kvs)) (hl : kvs.length < sizeLine) : DPut H a (kV k) v (upd H a (.dK (putK kvs k v))) := .inl ⟨kvs, k, e, rfl, hl, rfl⟩
theorem DPut.t {H : Hp} {a b : Addr} {kvs : List (List Key × V)} {k : List Key} {v : V} (e : H a = some (.dT kvs)) (eb : H b = some (.tup (k.map kV))) (hl : kvs.length < sizeLine) :
    DPut H a (.ref b) v (upd H a (.dT (putK kvs k v))) := .inr ⟨kvs, k, b, e, rfl, eb, hl, rfl⟩


section
variable {X : Cx} {pins : List (Addr × Obj)} {σ : St} {H : Hp} {s : Shared} {a : Addr} {y v : V} {u r : Value} {o : Option V} {A : Around} {E : Value → Shared → Prop}

theorem Inv.big (I : Inv X pins σ H s) : sysModules < s.heap.objs.size := by
  have h : mainGlobals < s.heap.objs.size := (I.mod.glob.keeps I.bk).lt
  exact Nat.lt_trans (by decide) h

/-- a dict's object is replaced -/
theorem d_write {h' : Heap} {t' : Nat} {ob : HO} (I : Inv X pins σ H s) (mu : Mut (H a)) (hs : Heap.SameBut a s.heap h') (he : ∃ q, h'.get? a = some q) (new : ObjOk X.prog X.w (upd H a ob) h' a ob) :
    Inv X pins σ (upd H a ob) { s with heap := h', toks := t' } :=
  I.write (x := a) (e := a) mu (.inl rfl) (fun b q hb z => (hs.2 b hb).trans z) he new
theorem dk_new {P : Program} {w : World} {H' : Hp} {h' : Heap} {kvs : List (Key × V)} {vs : List (Key × Value)} (z : kvs.length ≤ sizeLine) (hd : (a == sysModules) = false) (rel : KV kvs vs) (dd : h'.DictOf (mixKind P w) a vs) :
    ObjOk P w H' h' a (.dK kvs) := ⟨z, hd, vs, rel, dd⟩
/-- d[y] = v -/
theorem d_setItem {H' : Hp} {Q : Unit → Shared → Prop} (hu : A.units + 1 < cLine) (I : Inv X pins σ H s) (g : DPut H a y v H') (ry : RelV y u) (rv : RelV v r) (h : ∀ s', Inv X pins σ H' s' → Q () s') :
    wpAny (model X.prog X.w) A (setItem (.ref a) u r) Q E s := by
  rcases g with ⟨kvs, k, e, ey, l, eH⟩ | ⟨kvs, k, b, e, ey, eb, l, eH⟩
  · subst ey eH
    obtain ⟨z, hd, vs, rel, dd⟩ := dk_of I.hok e
    have hz : vs.length ≤ sizeLine := by rw [← rel.length]; exact z
    have hl : (putK kvs k v).length ≤ sizeLine := by have := length_putK kvs k v; omega
    refine wpAny_setItem_pairs (hsz := hz) (kV_is ry) dd fun h' dd' hs => h _ ?_
    have he : ∃ q, h'.get? a = some q := let ⟨q, _, _, hq, _⟩ := dd'; ⟨q, hq⟩
    exact d_write I (by rw [e]; exact True.intro) hs he (dk_new hl hd (rel.put k rv) dd')
  · subst ey eH
    cases (show u = Value.ref b from ry)
    obtain ⟨z, hd, xs, rel, dd⟩ := dt_of I.hok e
    have hz : xs.length ≤ sizeLine := by rw [← Paired.length rel]; exact z
    have hl : (putK kvs k v).length ≤ sizeLine := by have := length_putK kvs k v; omega
    refine wpAny_setItem_heap (hsz := hz) (tupleKind_room_in1 hu) (key_of I.hok eb) dd fun h' dd' hs => h _ ?_
    obtain ⟨q, es, ep, hq, h2, h3, h4, _, h5⟩ := dd'
    refine d_write I (by rw [e]; exact True.intro) hs ⟨q, hq⟩ ⟨hl, hd, _, (rel.put k eb rv).keeps fun c ys ec => ?_, q, es, ep, hq, h2, h3, h4, h5⟩
    rw [upd_ne (ne_of ec e (fun z => nomatch z))]
    exact ec
end

section
variable {X : Cx} {pins : List (Addr × Obj)} {σ : St} {H : Hp} {s : Shared} {a : Addr} {kvs : List (Key × V)} {k : Key} {u : Value} {A : Around} {E : Value → Shared → Prop}
end


/-! ### readings and rules -/
section
variable {X : Cx} {o i e value : Expr} {pos pos' tpos : Pos} {td ty tv : TE}
end


/-! ### displays -/
theorem dk_empty {P : Program} {w : World} {H : Hp} (h : Heap) (hb : sysModules < h.objs.size) : ObjOk P w H (h.push { cls := .type "dict", data := .dict #[] }) h.objs.size (.dK []) :=
  ⟨Nat.zero_le _, beq_eq_false_iff_ne.mpr (Ne.symm (Nat.ne_of_lt hb)), [], .nil, Heap.DictOf.new h⟩
/-- {}, to be a dict of the kind that is wanted -/
def tDNewK : TE := fun _ H Q => ∀ p, H p = none → Q (.ref p) (upd H p (.dK []))
section
variable {X : Cx} {pos : Pos}
theorem pe_dnewK : PE X (.Dict [] [] pos) tDNewK := fun pins s σ H Q I h =>
  wpAny_Dict_empty ⟨.ref s.heap.objs.size, _, I.laid (a := s.heap.objs.size) (o := .dK []) (t' := s.toks) (fun _ _ q => Heap.get?_push_of_some _ q) (Nat.le_refl _) (dk_empty s.heap I.big), rfl, h _ (I.hok.fresh (Nat.le_refl _))⟩
end

/-- the pairs of a display, from the left -/
def tPairs : List (TE × TE) → St → Hp → (List (V × V) → Hp → Prop) → Prop
  | [], _, H, Q => Q [] H
  | (tk, tv) :: r, σ, H, Q => tk σ H fun x H1 => tv σ H1 fun y H2 => tPairs r σ H2 fun ps H3 => Q ((x, y) :: ps) H3
abbrev VV : List (V × V) → List (Value × Value) → Prop := Paired fun p q => RelV p.1 q.1 ∧ RelV p.2 q.2
def PPs (X : Cx) (pos : Pos) (keys : List (Option Expr)) (values : List Expr) (trs : List (TE × TE)) : Prop :=
  ∀ (pins : List (Addr × Obj)) (s : Shared) (σ : St) (H : Hp) (Q : List (V × V) → Hp → Prop), Inv X pins σ H s → tPairs trs σ H Q →
    wpAny (model X.prog X.w) X.A (evalPairs (pairTrees keys values X.env pos)) (fun vs s' => ∃ ps H', Inv X pins σ H' s' ∧ VV ps vs ∧ Q ps H') X.xe s
/-! ### methods -/
/-- a method call o.m(e) of a built-in, with one argument: what must be seen of the text -/
structure M1 (X : Cx) (o : Expr) (m : Str) (apos : Pos) (e : Expr) (cpos : Pos) : Prop where
  base : attributeBase o m X.env (eval o X.env) = eval o X.env
  few : ((backTo cpos (starEach [e] X.env)).all (fun x => !x.1) && (backToKw cpos (keywordEach [] X.env)).all (fun x => x.1.isSome)
    && decide (([e] : List Expr).length + ([] : List Keyword).length + (if ([] : List Keyword).isEmpty then 0 else 1) < 30)) = true
  line : (apos.endLine == cpos.line) = true
  trees : backTo cpos (starEach [e] X.env) = [(false, eval e X.env)]
structure M2 (X : Cx) (o : Expr) (m : Str) (apos : Pos) (e f : Expr) (cpos : Pos) : Prop where
  base : attributeBase o m X.env (eval o X.env) = eval o X.env
  few : ((backTo cpos (starEach [e, f] X.env)).all (fun x => !x.1) && (backToKw cpos (keywordEach [] X.env)).all (fun x => x.1.isSome)
    && decide (([e, f] : List Expr).length + ([] : List Keyword).length + (if ([] : List Keyword).isEmpty then 0 else 1) < 30)) = true
  line : (apos.endLine == cpos.line) = true
  trees : backTo cpos (starEach [e, f] X.env) = [(false, eval e X.env), (false, eval f X.env)]

section
variable {X : Cx} {pins : List (Addr × Obj)} {σ : St} {H : Hp} {s : Shared} {a : Addr} {y d : V} {u r : Value} {o : Option V} {A : Around} {E : Value → Shared → Prop}
end

section
variable {X : Cx} {o e f : Expr} {apos cpos : Pos} {td ty tx : TE}
end

/-! ### dict(d): a copy -/
section
variable {X : Cx} {pins : List (Addr × Obj)} {σ : St} {H : Hp} {s : Shared} {a : Addr} {kvs : List (Key × V)} {A : Around} {E : Value → Shared → Prop}
end


section
variable {X : Cx} {pins : List (Addr × Obj)} {σ : St} {H : Hp} {s : Shared} {a : Addr} {y : V} {u : Value} {A : Around} {E : Value → Shared → Prop}
end
end L2

namespace Att
open PySem PySem.W PySem.Calls PyProof.Rows

/-! ### the script -/
theorem ints_of_wellAll {P : Params} {h : Heap} : ∀ (ns : List Int) (vs : List Value), WellAll P h vs (ns.map WData.int) → IntsAre vs ns := by
  intro ns
  induction ns with
  | nil =>
    intro vs w
    rw [List.map_nil] at w
    cases w
    exact .nil
  | cons n ns ih =>
    intro vs w
    rw [List.map_cons] at w
    cases w with
    | cons a b =>
      cases a
      exact .cons _ _ (ih _ b)

theorem script_of {l : OpenLaw} {n : Nat} (hn : l.most = some n) {P : Params} {h : Heap} {args : List WData} {vals : List Value}
    (hpre : l.row.toRowW.claim.pre args = true) (hwl : WellAll P h vals args) :
    ∃ a vs ns, vals = [Value.ref a] ∧ args = [WData.list (ns.map WData.int)] ∧ h.get? a = some { cls := .type "list", data := .seq vs.toArray } ∧ IntsAre vs ns ∧ ns.length ≤ n := by
  have hsh : WShape.hasAll [] args [.list .int] = true := (pre_splitW hpre).1
  have hc : l.pre.holds [] { args := args } = true := (pre_splitW hpre).2
  obtain ⟨d, r, rfl, h1, h2⟩ := hasAllW_cons hsh
  obtain rfl := hasAllW_nil h2
  obtain ⟨xs, rfl, h3⟩ := hasW_list h1
  obtain ⟨ns, rfl⟩ := items_int h3
  have hlen : ns.length ≤ n := by
    unfold OpenLaw.pre at hc
    have h4 : (WTm.not (.lt (.lit (.int (n : Int))) (.len (.arg 0)))).holds [] { args := [.list (ns.map .int)] } = true := by
      have h4 := (holds_andW hc).1
      rw [hn] at h4
      exact h4
    have h5 := condW_of h4 (w_not (w_lt w_lit (w_len_list (w_arg rfl))))
    rw [List.length_map] at h5
    refine Nat.le_of_not_lt fun q => ?_
    have q' : (n : Int) < ((ns.length : Nat) : Int) := by omega
    first
      | (rw [decide_eq_true q'] at h5; exact absurd h5 (by decide))
      | (simp at h5; omega)
  cases hwl with
  | cons w1 w2 =>
    cases w2
    cases w1 with
    | list ho hall => exact ⟨_, _, ns, rfl, rfl, ho, ints_of_wellAll ns _ hall, hlen⟩

theorem post_true (l : OpenLaw) (args : List WData) : l.row.toRowW.claim.post args (.bool true) args = true :=
  postW_of (r := l.row.toRowW) (X := (true == true))
    (show WShape.has [] (.bool true) .bool = true by first | rfl | decide | simp [WShape.has, WShape.arms, WShape.armsAll])
    (show (WTm.eq .res (.lit (.bool true))).value [] { args := args, res := some (.bool true), after := args } = some (.bool (true == true)) from w_eq_bool (w_res rfl) w_lit) rfl

/-! ### the attachment: holds_open's last premise (the goal 'hc' behind k_head) from a wpAny of the law's body -/
/-- the same from a codeAny of the CALL (for a layer whose function contracts speak of calls) -/
theorem attach_call {l : OpenLaw} {n : Nat} {q : Program} {loose : List Str} {XP : (Str → Option Value) → Heap → Prop} {YP : World → Heap → Prop} {d : DefRec}
    (hn : l.most = some n) (hdf : d.params.defaults = [])
    (call : ∀ (w : World) (s₀ s₁ : Shared) (mg mb : Str → Option Value) (fa : Addr) (o : Obj) (pm cd doc : Value) (a : Addr) (vs : List Value) (ns : List Int),
      Ground q loose [] XP w s₀ mg mb s₁.heap → YP w s₁.heap →
      s₁.heap.get? fa = some o → o.data = .func (docDef d.name d.params d.body d.scope pm cd doc) → s₁.heap.CodeRec cd d.name → mg d.name = some (.ref fa) →
      s₁.heap.get? a = some { cls := .type "list", data := .seq vs.toArray } → IntsAre vs ns → ns.length ≤ n → s₁.gens = #[] →
      codeAny (model l.prog w) callerA (.call (.ref fa) ⟨[.ref a], []⟩) (fun r s' => r = .ok (.ret (.bool true)) ∧ OldK s₁.heap s'.heap ∧ s'.os = s₁.os ∧ AllBare s'.gens) s₁) :
    WalkO q loose XP YP l.row.toRowW d [] (fun f vs => PySem.call f vs) := by
  intro w s₀ s₁ mg mb G Y fa o pm cd doc dV kV ho hd hcd hD hmg hg args vals as hpre hlay hrd hwl hlo
  obtain rfl : dV = .none := Dflts.none hD hdf
  obtain rfl : kV = .none := Dflts.noKw hD
  obtain ⟨a, vs, ns, rfl, rfl, hobj, hints, hlen⟩ := script_of hn hpre hwl
  refine enter_call (codeAny_mono (call w s₀ s₁ mg mb fa o pm cd doc a vs ns G Y ho (fd_plain hd) hcd hmg hobj hints hlen hg) fun r s' hq => ?_)
  obtain ⟨rfl, h2, h3, h4⟩ := hq
  exact ⟨.inl ⟨.bool true, .bool true, [], rfl, fun _ => rfl, .bool true, post_true l _, fun _ => ⟨List.Pairwise.nil, fun _ hm => (nomatch hm)⟩⟩, h2, h3, h4⟩

/-! ### rules over ANY heap (no ledger) from facts about the written part K: the library's own take a ledger (News) for what they write -/
section
variable {prog : Program} {w : World} {A : Around} {E : Value → Shared → Prop} {s : Shared} {K : Frag}

/-! the whole heap as the ledger: makes every rule that writes through a ledger a rule over any heap -/
end
end Att

namespace L2
open PySem PySem.Spec PyProof.Rows

theorem vals_ints : ∀ {vs : List Value} {ns : List Int}, IntsAre vs ns → Vals (ns.map V.int) vs
  | _, _, .nil => .nil
  | _, _, .cons n t h => .cons ⟨t, rfl⟩ (vals_ints h)

/-- nothing is tracked but the script, known to the object (or it is an object of the module) -/
def Only (H : Hp) : Prop := ∀ b, H b = none ∨ ∃ o xs, H b = some (.frz o (.lst xs))

/-- THE HEAD: the law's promise, at the heap behind the top. F, the promise of the law's def, may use that base is part of the heap (so K.In base, base.Ns mainGlobals mg stand in Mod) -/
theorem law_call {P : Program} {w : World} {K : PySem.W.Frag} {mg mb : Str → Option Value} {CX : CXT} {k : Nat} {fa a : Addr} {fd : FuncData} {x : Str} {sp : Sp} {s₁ : Shared} {vs : List Value} {ns : List Int}
    (KX : K.In s₁.heap) (hns : s₁.heap.Ns mainGlobals mg) (hb : s₁.heap.Ns builtinsNs mb) (hbb : ∀ x : Str, x ≠ "__name__" → mb x = bootBuiltins x) (hlim : s₁.heap.NoLimit) (hg : s₁.gens = #[])
    (ha : s₁.heap.get? a = some { cls := .type "list", data := .seq vs.toArray }) (hi : IntsAre vs ns) (hl : ns.length ≤ sizeLine) (hr : Room k callerA)
    (F : ∀ base : Heap, K.In base → base.Ns mainGlobals mg → FnOk P w K mg base CX k fa fd [x] sp) (hbind : ∀ (s : Shared) (u : Value), BindsTo s fd ⟨[u], []⟩ [(x, u)])
    (hsp : ∀ H : Hp, Only H → SqL K H a (ns.map V.int) → sp [.ref a] H (fun v _ => v = .bl true) fun _ _ _ => False)
    (hCX : ∀ H e s', CX [] H s₁ (fun _ _ _ => False) e s' → False) :
    codeAny (model P w) callerA (.call (.ref fa) ⟨[.ref a], []⟩) (fun r s' => r = .ok (.ret (.bool true)) ∧ OldK s₁.heap s'.heap ∧ s'.os = s₁.os ∧ AllBare s'.gens) s₁ := by
  have rv := vals_ints hi
  have lenV := hi.length
  -- from an abstract heap in which nothing but the script may be tracked
  have core : ∀ H : Hp, Only H → SqL K H a (ns.map V.int) → HOk P w H s₁.heap → (∀ b, H b ≠ none → b = a) → (H a ≠ none → K.lookup a = none) →
      codeAny (model P w) callerA (.call (.ref fa) ⟨[.ref a], []⟩) (fun r s' => r = .ok (.ret (.bool true)) ∧ OldK s₁.heap s'.heap ∧ s'.os = s₁.os ∧ AllBare s'.gens) s₁ := by
    intro H hO hS hok hA hK
    have base_of : ∀ {b : Addr} {o : Obj}, s₁.heap.get? b = some o → H b = none → (hidT s₁.heap H).get? b = some o := fun e n => hidT_get e n
    have noA : ∀ {b : Addr} {o : Obj} {es : Array DictEntry} {ep : Nat}, s₁.heap.get? b = some o → o.data = .dict es ep → H b = none := fun {b o es ep} e d => by
      cases q : H b with
      | none => rfl
      | some u =>
        have e' : b = a := hA b (by rw [q]; simp)
        subst e'
        rw [ha] at e; cases e
        have d' : Data.seq vs.toArray _ = Data.dict es ep := d
        cases d'
    have nsK : ∀ {b : Addr} {m : Str → Option Value}, s₁.heap.Ns b m → (hidT s₁.heap H).Ns b m := fun {b m} ⟨o, es, ep, e, d, r⟩ => ⟨o, es, ep, base_of e (noA e d), d, r⟩
    have hKb : K.In (hidT s₁.heap H) := fun b o e => base_of (KX b o e) (by
      cases q : H b with
      | none => rfl
      | some u =>
        have e' : b = a := hA b (by rw [q]; simp)
        subst e'
        rw [hK (by rw [q]; simp)] at e; cases e)
    have hM : Mod K mg (hidT s₁.heap H) := ⟨hKb, nsK hns, ⟨mb, nsK hb, hbb⟩, let ⟨mc, h1, h2⟩ := hlim; ⟨mc, nsK h1, h2⟩⟩
    have e0 : Env0 P w K mg (hidT s₁.heap H) callerA [] s₁ H := ⟨rfl, hM, fun b o e => of_hidT e, Nat.le_of_eq (hidT_size _ _), trivial, fun b hb => absurd (show b ∈ ([] : List Addr) from hb) (by simp), hok, .of_eq hg⟩
    refine codeAny_mono ((F _ hKb (nsK hns)).run callerA [] s₁ H ⟨[.ref a], []⟩ [.ref a] [.ref a] _ _ hr e0 (hbind s₁ (.ref a)) (.cons rfl .nil) (hsp H hO hS)) fun r s' h => ?_
    cases r with
    | error e => exact (hCX H e s' h).elim
    | ok fl =>
      cases fl with
      | next => exact False.elim h
      | brk => exact False.elim h
      | cont => exact False.elim h
      | ret u =>
        obtain ⟨v, H', os, bare, un, hok', r', q⟩ := h
        have q' : v = .bl true := q
        subst q'
        obtain rfl : u = Value.bool true := r'
        refine ⟨rfl, OldK.of_keep fun b o e => ?_, os, bare⟩
        cases q : H b with
        | none => exact un.keep b o e q (by intro z; exact absurd (show b ∈ ([] : List Addr) from z) (by simp)) (by simp)
        | some u =>
          rcases hO b with z | ⟨ob, xs, z⟩
          · rw [q] at z; cases z
          · have z2 := un.frzs b ob _ z
            obtain ⟨e1, _⟩ := hok b _ z
            obtain ⟨e2, _⟩ := hok' b _ z2
            rw [e] at e1; cases e1
            exact e2
  cases hk : K.lookup a with
  | some o =>
    -- the script is one of the module's own objects
    have e := KX a o hk
    rw [ha] at e
    cases e
    refine core (fun _ => none) (fun _ => .inl rfl) (.inr ⟨_, vs.toArray, _, hk, rfl, rfl, rfl, by rw [List.size_toArray, lenV]; exact hl, by simpa using rv⟩) (fun b u z => by have z' : (none : Option HO) = some u := z; cases z') (fun b z => absurd rfl z) fun z => absurd rfl z
  | none =>
    refine core (fun b => if b = a then some (.frz { cls := .type "list", data := .seq vs.toArray } (.lst (ns.map V.int))) else none) (fun b => ?_) (.inl (.inr ⟨{ cls := .type "list", data := .seq vs.toArray }, if_pos rfl⟩)) (fun b u z => ?_) (fun b z => ?_) fun _ => hk
    · by_cases hb : b = a
      · exact .inr ⟨_, _, if_pos hb⟩
      · exact .inl (if_neg hb)
    · by_cases hb : b = a
      · have z' := (if_pos hb).symm.trans z
        cases z'
        subst hb
        exact ⟨ha, by rw [List.length_map]; exact hl, vs, _, rv, ha⟩
      · have z' := (if_neg hb).symm.trans z
        cases z'
    · by_cases hb : b = a
      · exact hb
      · exact absurd (if_neg hb) z
end L2

namespace L2
open PySem PySem.Spec PyProof.Rows

abbrev KOf {K : PySem.W.Frag} {h : Heap} (_ : K.In h) : PySem.W.Frag := K

/-- the goal that k_head leaves (case hc), from the law's promise. F gives the function object fd (K's own) once, then the promise over every base -/
theorem walk_of {l : PySem.W.OpenLaw} {n k : Nat} {q : Program} {loose : List Str} {XP : (Str → Option Value) → Heap → Prop} {YP : World → Heap → Prop} {d : DefRec} {K : Params → PySem.W.Frag} {CX : World → CXT} {sp : World → Sp} {x : Str}
    (hn : l.most = some n) (hn2 : n ≤ sizeLine) (hdf : d.params.defaults = []) (hr : Room k callerA)
    (hY : ∀ (w : World) (h : Heap), YP w h → (K w.params).In h)
    (F : ∀ (w : World) (mg : Str → Option Value) (fa : Addr) (h : Heap), (K w.params).In h → h.Ns mainGlobals mg → mg d.name = some (.ref fa) →
      ∃ fd : FuncData, (∀ (s : Shared) (u : Value), BindsTo s fd ⟨[u], []⟩ [(x, u)]) ∧
        ∀ base : Heap, (K w.params).In base → base.Ns mainGlobals mg → FnOk l.prog w (K w.params) mg base (CX w) k fa fd [x] (sp w))
    (hsp : ∀ (w : World) (H : Hp) (a : Addr) (ns : List Int), ns.length ≤ n → Only H → SqL (K w.params) H a (ns.map V.int) → sp w [.ref a] H (fun v _ => v = .bl true) fun _ _ _ => False)
    (hCX : ∀ (w : World) (H : Hp) (s : Shared) (e : Value) (s' : Shared), CX w [] H s (fun _ _ _ => False) e s' → False) :
    PySem.W.WalkO q loose XP YP l.row.toRowW d [] (fun f vs => PySem.call f vs) := by
  refine Att.attach_call hn hdf fun w s₀ s₁ mg mb fa o pm cd doc a vs ns G Y ho hd hcd hmg hobj hints hlen hg => ?_
  have KX := hY w _ Y
  obtain ⟨fd, hb, hF⟩ := F w mg fa _ KX G.T.g hmg
  exact law_call KX G.T.g G.T.b G.T.builtins G.T.nolimit hg hobj hints (Nat.le_trans hlen hn2) hr hF hb (fun H hO hS => hsp w H a ns hlen hO hS) fun H e s' => hCX w H s₁ e s'
end L2

/- THE LAST THEOREM (shape; LID, My.* are yours):
   My.Adr: a structure of the addresses that your layer names (classes, functions); My.Txt K t: a structure (Prop) of the equations over K;
   My.txt_mk : {K} {implicit addresses ..} (e1 : nsIn K mainGlobals "law" = some (some (.ref f))) (e2 : K.lookup f = some ⟨oc, od, .func (fnOf "law" "law" params body scope dV kV doc pm an cdv ct), sl⟩) (e3 : codeIn K cdv "law" = true) .. : ∃ t, My.Txt K t

set_option maxRecDepth 100000 in
set_option maxHeartbeats 0 in
theorem PySem.Challenge.cw_LID_holds : PySem.Challenge.rw_LID.Holds := by
  w_on; o_law; k_head; (case hw => w_witness2)
  k_fill
  refine L2.walk_of (l := PySem.Challenge.rw_LID) (n := 63) (k := 40) (x := "script") (CX := fun w => ..) (sp := fun _ => My.sp_law) rfl (by decide) rfl ⟨rfl, by decide, by decide⟩ (fun w h Y => PySem.W.kIn_of Y) ?F ?S ?C
  case F =>
    intro w mg fa h KX G hmg
    have T : ∃ t, My.Txt (L2.KOf KX) t := by
      dsimp only [L2.KOf]                          -- K must stand as «<heap const> w.params» for k_is
      refine' My.txt_mk ?e1 ?e2 ?e3 ..
      (case e1 => PySem.W.k_is)                    -- in the order: a name -> its address -> its object -> its parts
      (case e2 => PySem.W.k_is)
      ..
    obtain ⟨t, T⟩ := T
    have e0 := hmg.symm.trans (PySem.W.mg_of KX G T.law)
    cases e0                                       -- fa is the law's own address
    exact ⟨_, fun s u => .of_eq rfl, fun base kb nb => My.law_fn T kb nb⟩     -- if «.of_eq rfl» comes too early: refine' ⟨_, ?b, fun base kb nb => My.law_fn T kb nb⟩; exact fun s u => .of_eq rfl
  case S => exact fun w H a ns hl hO hS => ..
  case C => exact ..
(the tactic k_is has no namespace: write k_is) -/

/-! SHORT WORDS over the layer: a def of the text, its body, what a loop and a test want. -/
namespace L2
open PySem PySem.Spec PyProof.Rows

/-! ### the text by places -/
def defArgs (s : Stmt) : Arguments := match s with
  | .FunctionDef _ a _ _ _ _ _ _ _ _ => a
  | _ => { posonlyargs := [], args := [], vararg := none, kwonlyargs := [], kw_defaults := [], kwarg := none, defaults := [] }
def defBody (s : Stmt) : List Stmt := match s with
  | .FunctionDef _ _ b _ _ _ _ _ _ _ => b
  | _ => []
def defScope (s : Stmt) : Scope := match s with
  | .FunctionDef _ _ _ _ _ _ sc _ _ _ => sc
  | _ => { kind := .function, names := [], isGenerator := false, isCoroutine := false }

/-! ### no exception leaves a def -/
abbrev CX0 : CXT := fun _ _ _ _ _ _ => False
abbrev E0 : XK := fun _ _ _ => False
theorem pass0 {X : Cx} : Passes CX0 X E0 := fun _ _ _ _ _ _ _ h => h.elim

/-! ### a def (or method) of the text as it stands behind the top -/
structure Fun (K : PySem.W.Frag) (x qual : Str) (st : Stmt) (f : Addr) (fd : FuncData) : Prop where
  ex : ∃ (oc : Value) (od : Option Addr) (kV doc pm : Value) (an : Option Addr) (cdv ct : Value) (osl : Array (Option Value)),
    fd = PySem.W.fnOf x qual (defArgs st) (defBody st) (defScope st) .none kV doc pm an cdv ct ∧ K.lookup f = some ⟨oc, od, .func fd, osl⟩ ∧ PySem.W.codeIn K cdv qual = true
  kp : PySem.W.keepIn K (.ref f) = true
section
variable {P : Program} {w : World} {K : PySem.W.Frag} {mg : Str → Option Value} {base : Heap}
/-- THE RULE for a def: its body as a term of rules, and the reading of that term -/
theorem Fun.ok {x qual : Str} {st : Stmt} {f : Addr} {fd : FuncData} {N ps : List Str} {k : Nat} {sp : Sp} (F : Fun K x qual st f fd) (S : FnScope N ps (defScope st)) (len : ∀ vs H Q E, sp vs H Q E → vs.length = ps.length)
    (hbody : ∀ (cdv : Value) (A : Around) (outer : List Env) (s : Shared) (H : Hp) (vs : List V) (Q : VK) (E : XK), Room k (A.deeper (envOfC qual (defScope st) s.heap.objs.size f cdv)) → sp vs H Q E →
      ∃ t, PSs (cxOf CX0 P w K mg base N qual (defScope st) f cdv A outer s H E).nox (defBody st) t ∧ t { nx := fun _ H' => Q .non H', rt := Q } (start N vs) H) : FnOk P w K mg base CX0 (k + 1) f fd ps sp := by
  obtain ⟨oc, od, kV, doc, pm, an, cdv, ct, osl, rfl, lk, hcd⟩ := F.ex
  refine fn_of lk hcd S len fun A outer s H vs Q E hr hsp => ?_
  obtain ⟨t, h, q⟩ := hbody cdv A outer s H vs Q E hr hsp
  exact ⟨t, h.nox, q⟩
/-- how its arguments bind (no defaults): h is «fun _ _ _ _ _ _ us hl => match us, hl with | [_, _], _ => rfl», one _ a parameter -/
theorem Fun.binds {x qual : Str} {st : Stmt} {f : Addr} {fd : FuncData} {ps : List Str} (F : Fun K x qual st f fd)
    (h : ∀ (kV doc pm : Value) (an : Option Addr) (cdv ct : Value) (us : List Value), us.length = ps.length → bindArgs (PySem.W.fnOf x qual (defArgs st) (defBody st) (defScope st) .none kV doc pm an cdv ct) ⟨us, []⟩ = pure (ps.zip us)) : Binds K fd ps [] := by
  obtain ⟨oc, od, kV, doc, pm, an, cdv, ct, osl, rfl, lk, hcd⟩ := F.ex
  exact .all (h kV doc pm an cdv ct)
theorem fun_mk {x qual : Str} {st : Stmt} {f : Addr} {oc : Value} {od an : Option Addr} {osl : Array (Option Value)} {kV doc pm cdv ct : Value} (l : K.lookup f = some ⟨oc, od, .func (PySem.W.fnOf x qual (defArgs st) (defBody st) (defScope st) .none kV doc pm an cdv ct), osl⟩)
    (c : PySem.W.codeIn K cdv qual = true) (k : PySem.W.keepIn K (.ref f) = true) : Fun K x qual st f (PySem.W.fnOf x qual (defArgs st) (defBody st) (defScope st) .none kV doc pm an cdv ct) := ⟨⟨oc, od, kV, doc, pm, an, cdv, ct, osl, rfl, l, c⟩, k⟩
end
/-! ### expressions in short: the name that stands in the i-th slot -/
section
variable {X : Cx}
theorem pv (i : Nat) {x : Str} {pos : Pos} (hN : X.N[i]? = some x := by rfl) (hv : Vis X.env.scope x := by first | exact Or.inl rfl | exact Or.inr (Or.inl rfl) | exact Or.inr (Or.inr rfl)) (hd : (x == ("__debug__" : Str)) = false := by decide)
    (hcd : (x == ("__classdict__" : Str)) = false := by decide) : PE X (.Name x pos) (tVar i) := pe_var hN hv hd hcd
end

/-! ### tests -/
theorem ite2 {c A B : Prop} [Decidable c] (h1 : c → A) (h2 : ¬ c → B) : if c then A else B := by
  by_cases h : c
  · rw [if_pos h]
    exact h1 h
  · rw [if_neg h]
    exact h2 h
/-! ### heaps -/
/-- all that was tracked is as it was -/
def Same (H H' : Hp) : Prop := ∀ b o, H b = some o → H' b = some o
theorem Same.refl (H : Hp) : Same H H := fun _ _ h => h
theorem Same.trans {H H1 H2 : Hp} (a : Same H H1) (b : Same H1 H2) : Same H H2 := fun c o h => b c o (a c o h)
theorem Same.free {H H' : Hp} (e : Same H H') {l : Addr} (h : H' l = Option.none) : H l = Option.none := by
  cases q : H l with
  | none => rfl
  | some o =>
    rw [e l o q] at h
    cases h
theorem Same.seq {K : PySem.W.Frag} {H H' : Hp} {a : Addr} {xs : List V} (e : Same H H') (h : SqL K H a xs) : SqL K H' a xs := by
  rcases h with (h | ⟨o, h⟩) | h
  · exact .inl (.inl (e _ _ h))
  · exact .inl (.inr ⟨o, e _ _ h⟩)
  · exact .inr h

/-! ### len of a dict -/
/-! ### a dict's pairs: keys that differ -/
section
variable {κ : Type} [DecidableEq κ]
end
end L2

set_option Elab.async false
set_option linter.all false
set_option maxRecDepth 100000
namespace L2
open PySem PySem.Spec PyProof.Rows

/-! ### a list comprehension of one clause: the block's closure -/
def closOf (cells : List (Str × Addr)) : List (Str × NameKind) → List (Str × Addr) → List (Str × Addr)
  | [], acc => acc
  | (n, k) :: r, acc => closOf cells r (if k == .free then (n, (cells.lookup n).getD 0) :: acc else acc)
theorem clos_for {env : Env} {f : (Str × NameKind) → List (Str × Addr) → Sem (ForInStep (List (Str × Addr)))}
    (hf : ∀ n k cs, f (n, k) cs = if (k == NameKind.free) = true then (cellOf env n >>= fun c => pure (ForInStep.yield ((n, c) :: cs))) else pure (ForInStep.yield cs)) :
    ∀ (names : List (Str × NameKind)) (acc : List (Str × Addr)), (∀ x ∈ names, x.2 = .free → ∃ c, env.cells.lookup x.1 = some c) →
    forIn names acc f = (pure (closOf env.cells names acc) : Sem _)
  | [], acc, _ => rfl
  | (n, k) :: r, acc, h => by
    rw [List.forIn_cons, hf]
    have ih := fun acc => clos_for hf r acc fun x hx => h x (List.mem_cons_of_mem _ hx)
    by_cases hk : (k == NameKind.free) = true
    · rw [if_pos hk]
      obtain ⟨c, hc⟩ := h (n, k) List.mem_cons_self (by simpa using hk)
      have e : cellOf env n = pure c := by unfold cellOf; rw [hc]
      rw [e, pure_bind, pure_bind]
      show forIn r ((n, c) :: acc) f = _
      rw [ih]
      show _ = pure (closOf env.cells r (if (k == NameKind.free) = true then (n, (env.cells.lookup n).getD 0) :: acc else acc))
      rw [if_pos hk, hc]; rfl
    · rw [if_neg hk, pure_bind]
      show forIn r acc f = _
      rw [ih]
      show _ = pure (closOf env.cells r (if (k == NameKind.free) = true then (n, (env.cells.lookup n).getD 0) :: acc else acc))
      rw [if_neg hk]
theorem closureFor_eq {env : Env} {scope : Scope} (h : ∀ x ∈ scope.names, x.2 = .free → ∃ c, env.cells.lookup x.1 = some c) : closureFor scope env = pure (closOf env.cells scope.names []) := by
  unfold closureFor
  show (forIn scope.names ([] : List (Str × Addr)) _ >>= fun cs => pure cs) = _
  rw [clos_for (env := env) (fun n k cs => ?_) _ _ h]
  · rfl
  · rfl
theorem closOf_some {cells : List (Str × Addr)} : ∀ {names : List (Str × NameKind)} {acc : List (Str × Addr)} {x : Str} {c : Addr}, (∀ y ∈ names, y.2 = .free → ∃ c, cells.lookup y.1 = some c) →
    (∀ y c, acc.lookup y = some c → cells.lookup y = some c) → (closOf cells names acc).lookup x = some c → cells.lookup x = some c
  | [], acc, x, c, _, ha, h => ha x c h
  | (n, k) :: r, acc, x, c, hn, ha, h => by
    refine closOf_some (names := r) (fun y hy => hn y (List.mem_cons_of_mem _ hy)) ?_ h
    intro y d hy
    by_cases hk : (k == NameKind.free) = true
    · rw [if_pos hk] at hy
      obtain ⟨e, he⟩ := hn (n, k) List.mem_cons_self (by simpa using hk)
      have he' : cells.lookup n = some e := he
      rw [List.lookup_cons] at hy
      by_cases hyn : (y == n) = true
      · rw [hyn] at hy
        have hy' : (cells.lookup n).getD 0 = d := Option.some.inj hy
        rw [he'] at hy'
        have e1 : y = n := by simpa using hyn
        rw [e1, he', ← hy']; rfl
      · have hf : (y == n) = false := by simpa using hyn
        rw [hf] at hy
        exact ha y d hy
    · rw [if_neg hk] at hy
      exact ha y d hy
theorem closOf_acc {cells : List (Str × Addr)} : ∀ {names : List (Str × NameKind)} {acc : List (Str × Addr)} {x : Str}, (∃ c, acc.lookup x = some c) → ∃ c, (closOf cells names acc).lookup x = some c
  | [], _, _, h => h
  | (n, k) :: r, acc, x, h => by
    refine closOf_acc (names := r) ?_
    by_cases hk : (k == NameKind.free) = true
    · rw [if_pos hk, List.lookup_cons]
      cases hx : (x == n) with
      | true => exact ⟨_, rfl⟩
      | false => exact h
    · rw [if_neg hk]; exact h
theorem closOf_has {cells : List (Str × Addr)} : ∀ {names : List (Str × NameKind)} {acc : List (Str × Addr)} {x : Str}, (x, NameKind.free) ∈ names → ∃ c, (closOf cells names acc).lookup x = some c
  | (n, k) :: r, acc, x, h => by
    rcases List.mem_cons.mp h with e | h
    · have e1 : x = n := congrArg (·.1) e
      have e2 : NameKind.free = k := congrArg (·.2) e
      subst e1 e2
      refine closOf_acc (names := r) ?_
      rw [if_pos (by rfl), List.lookup_cons]
      rw [beq_self_eq_true]
      exact ⟨_, rfl⟩
    · exact closOf_has (names := r) h
/-- a name of the block that is no local is one of its free ones -/
theorem relabel_free {env : Env} : ∀ {names : List (Str × NameKind)} {x : Str} {k : NameKind}, (∀ y ∈ names, y.2 ≠ .cell) →
    (names.map fun (n, k) => if (k == NameKind.free && env.scope.kind == .function && env.kindOf n == some .cell) then (n, NameKind.cell) else (n, k)).lookup x = some k → (k = .cell ∨ k = .free) → (x, NameKind.free) ∈ names
  | [], _, _, _, h, _ => by simp at h
  | (n, k0) :: r, x, k, hc, h, hk => by
    have ih := @relabel_free env r x k (fun y hy => hc y (List.mem_cons_of_mem _ hy))
    rw [List.map_cons] at h
    by_cases hf : (k0 == NameKind.free && env.scope.kind == .function && env.kindOf n == some .cell) = true
    · have hk0 : k0 = .free := by
        have : (k0 == NameKind.free) = true := by
          rw [Bool.and_eq_true, Bool.and_eq_true] at hf; exact hf.1.1
        simpa using this
      dsimp only at h
      rw [if_pos hf, List.lookup_cons] at h
      cases hx : (x == n) with
      | true =>
        have : x = n := by simpa using hx
        rw [this, hk0]; exact List.mem_cons_self
      | false => rw [hx] at h; exact List.mem_cons_of_mem _ (ih h hk)
    · dsimp only at h
      rw [if_neg hf, List.lookup_cons] at h
      cases hx : (x == n) with
      | true =>
        rw [hx] at h
        have e : k0 = k := Option.some.inj h
        have : x = n := by simpa using hx
        rcases hk with z | z
        · exact absurd (e.trans z) (hc (n, k0) List.mem_cons_self)
        · rw [this, e, z]; exact List.mem_cons_self
      | false => rw [hx] at h; exact List.mem_cons_of_mem _ (ih h hk)

/-! ### the block's context -/
def cxComp (X : Cx) (N0 T : List Str) (scope : Scope) (C : Addr) (fp : List Addr) (s : Shared) (H : Hp) : Cx :=
  { X with N := N0 ++ T, s₀ := s, H₀ := H, env := compEnvC scope (closOf X.env.cells scope.names []) C X.env, outer := X.stack, stack := X.stack, ex := fp, fn := fun _ => false, pn := [], xe := fun _ _ => False }
/-- what the scope of a block must be: no cells of its own, its free names are the def's cells, its locals are none of the tracked names -/
structure CompScope (X : Cx) (N0 T : List Str) (scope : Scope) : Prop where
  kind : scope.kind = .function
  nocell : ∀ y ∈ scope.names, y.2 ≠ .cell
  names : ∀ y ∈ scope.names, y.2 = .local → scope.names.lookup y.1 = some .local
  free : ∀ y ∈ scope.names, y.2 = .free → X.env.kindOf y.1 = some .cell ∨ X.env.kindOf y.1 = some .free
  apart : ∀ y ∈ scope.names, y.2 = .local → y.1 ∉ N0
  len0 : N0.length = X.N.length
  same : ∀ (i : Nat) (x : Str) (k : NameKind), N0[i]? = some x → (x, k) ∈ scope.names → X.N[i]? = some x
/-- a loop of one clause, with what is done ahead of the store -/
theorem codeAny_compLoop_go {prog : Program} {w : World} {A : Around} {R : Result → Shared → Prop} {s : Shared} {elt target iter : Expr} {ifs : List Expr} {scope : Scope} {pos : Pos} {it acc : Value} {env : Env} (I : Nat → Shared → Prop)
    (turn : ∀ n s, I n s → wpAny (model prog w) A (pyNext it) (fun r s₁ => match r with
      | none => R (.ok .next) s₁
      | some v => wpAny (model prog w) A (letOwnedTupleGo target it v) (fun _ s₀ => wpAny (model prog w) A (assign target env v) (fun _ s₂ =>
          wpAny (model prog w) A (forIn ifs true fun c r => if r = true then do let ok ← isTrue c env (eval c env); pure (ForInStep.yield ok) else pure (ForInStep.yield r)) (fun ok s₃ =>
            if ok = true then wpAny (model prog w) A (eval elt env) (fun x s₄ =>
              wpAny (model prog w) A (call (.builtin "list.append") [acc, x]) (fun _ s₅ => ∃ m, m < n ∧ I m s₅) (fun _ _ => False) s₄) (fun _ _ => False) s₃
            else ∃ m, m < n ∧ I m s₃) (fun _ _ => False) s₂) (fun _ _ => False) s₀) (fun _ _ => False) s₁) (fun _ _ => False) s)
    (n : Nat) (h : I n s) :
    codeAny (model prog w) A (.compLoop (.ListComp elt [⟨target, iter, ifs, 0⟩] scope pos) 0 it acc env) R s := by
  refine codeAny_loop rfl I (fun n s hI => ?_) n h
  show wpAny _ A ((compTurn (.ListComp elt [⟨target, iter, ifs, 0⟩] scope pos) 0 it acc env).onRaise (fun x => do noteFrame x env; theTreesLotGoes x)) _ _ s
  refine wpAny_noted ?_
  rw [compTurn_list]
  refine wpAny_bind (wpAny_standAt (wpAny_bind (wpAny_mono (turn n s hI) (fun r s₁ h₁ => ?_) fun _ _ h' => h'.elim)))
  cases r with
  | none => exact wpAny_pure h₁
  | some v =>
    refine wpAny_bind (wpAny_mono h₁ (fun _ s₀ h₀ => ?_) fun _ _ h' => h'.elim)
    refine wpAny_bind (wpAny_mono h₀ (fun _ s₂ h₂ => wpAny_bind (wpAny_mono h₂ (fun ok s₃ h₃ => ?_) fun _ _ h' => h'.elim)) fun _ _ h' => h'.elim)
    cases ok with
    | false => exact wpAny_pure ⟨rfl, h₃⟩
    | true =>
      exact wpAny_bind (wpAny_bind (wpAny_mono h₃ (fun x s₄ h₄ => wpAny_bind (wpAny_mono h₄ (fun _ s₅ h₅ => wpAny_pure (wpAny_pure ⟨rfl, h₅⟩)) fun _ _ h' => h'.elim)) fun _ _ h' => h'.elim))

/-- tests of a clause: none, or one -/
def PIfs (X : Cx) (ifs : List Expr) (tc : TT) : Prop :=
  ∀ (pins : List (Addr × Obj)) (s : Shared) (σ : St) (H : Hp) (Q : Bool → Hp → Prop), Inv X pins σ H s → tc σ H Q →
    wpAny (model X.prog X.w) X.A (forIn ifs true fun c r => if r = true then do let ok ← isTrue c X.env (eval c X.env); pure (ForInStep.yield ok) else pure (ForInStep.yield r)) (TP X pins σ Q) X.xe s
def tYes : TT := fun _ H Q => Q true H
theorem pifs_nil {X : Cx} : PIfs X [] tYes := fun _ _ _ H _ I h => wpAny_tests_nil ⟨H, I, h⟩
theorem pifs_one {X : Cx} {c : Expr} {tc : TT} (hc : PT X c tc) : PIfs X [c] tc := fun pins s σ H Q I h => wpAny_tests_one (hc pins s σ H Q I h)

/-- a target that stores into the slots from n on alone -/
def GFr (g : TG) (n : Nat) : Prop := ∀ x σ H Q, g x σ H Q → g x σ H fun σ' H' => Q σ' H' ∧ σ'.length = σ.length ∧ ∀ k, k < n → σ'[k]? = σ[k]?
def GsFr (g : TGs) (n : Nat) : Prop := ∀ x σ H Q, g x σ H Q → g x σ H fun σ' H' => Q σ' H' ∧ σ'.length = σ.length ∧ ∀ k, k < n → σ'[k]? = σ[k]?
theorem gfr_name {i n : Nat} (h : n ≤ i) : GFr (gName i) n := fun x σ H Q q => ⟨q, by simp, fun k hk => by rw [List.getElem?_set_ne (by omega)]⟩
theorem gsfr_nil {n : Nat} : GsFr gNil n := fun x σ H Q q => ⟨q.1, q.2, rfl, fun _ _ => rfl⟩
def GMono (g : TG) : Prop := ∀ x σ H Q Q', (∀ σ' H', Q σ' H' → Q' σ' H') → g x σ H Q → g x σ H Q'
def GsMono (g : TGs) : Prop := ∀ x σ H Q Q', (∀ σ' H', Q σ' H' → Q' σ' H') → g x σ H Q → g x σ H Q'
theorem gm_name {i : Nat} : GMono (gName i) := fun x σ H Q Q' h q => h _ _ q
theorem gsm_nil : GsMono gNil := fun x σ H Q Q' h q => ⟨q.1, h _ _ q.2⟩
theorem gsm_cons {t : TG} {u : TGs} (h1 : GMono t) (h2 : GsMono u) : GsMono (gCons t u) := fun x σ H Q Q' h ⟨v, r, e, q⟩ => ⟨v, r, e, h1 _ _ _ _ _ (fun σ' H' z => h2 _ _ _ _ _ h z) q⟩
theorem gsfr_cons {t : TG} {u : TGs} {n : Nat} (h1 : GFr t n) (m1 : GMono t) (h2 : GsFr u n) (m2 : GsMono u) : GsFr (gCons t u) n := fun x σ H Q ⟨v, r, e, q⟩ => by
  refine ⟨v, r, e, ?_⟩
  refine m1 _ _ _ _ _ (fun σ' H' z => ?_) (h1 _ _ _ _ q)
  obtain ⟨z, l1, k1⟩ := z
  exact m2 _ _ _ _ _ (fun σ2 H2 y => ⟨y.1, y.2.1.trans l1, fun k hk => (y.2.2 k hk).trans (k1 k hk)⟩) (h2 _ _ _ _ z)
theorem gfr_tup {K : PySem.W.Frag} {m n : Nat} {t : TGs} (h : GsFr t n) : GFr (gTup K m t) n := fun x σ H Q ⟨a, xs, e, q, l, z⟩ => ⟨a, xs, e, q, l, h _ _ _ _ z⟩

/-- the turns of a comprehension over J, its list at D: W by the turn, a measure, the items so far -/
def compW (J : It) (g : TG) (tc : TT) (te : TE) (nT : Nat) (σ : St) (D : Addr) (Q : VK) (H : Hp) : Prop :=
  ∃ W : Nat → Nat → List V → Hp → Prop, (∃ m, W 0 m [] H) ∧ ∀ i m ys H2, W i m ys H2 →
    (J.stop i H2 ∧ Q (.ref D) H2) ∨ (J.go i H2 ∧ ∀ x H', J.yld i H2 x H' → g x (σ ++ List.replicate nT none) H' fun σ2 H3 => tc σ2 H3 fun b H4 =>
      if b = true then te σ2 H4 fun y H5 => H5 D = some (.lst ys) ∧ ys.length < sizeLine ∧ ∃ m', m' < m ∧ W (i + 1) m' (ys ++ [y]) (upd H5 D (.lst (ys ++ [y]))) else ∃ m', m' < m ∧ W (i + 1) m' ys H4)
def tComp (wi : TI) (g : TG) (tc : TT) (te : TE) (nT : Nat) : TE := fun σ H Q => wi σ H fun J H1 => ∀ D, H1 D = none → compW J g tc te nT σ D Q (upd H1 D (.lst []))

theorem HOk.sameBut {P : Program} {w : World} {H : Hp} {h h' : Heap} {C : Addr} (x : HOk P w H h) (hs : Heap.SameBut C h h') (hC : H C = none) : HOk P w H h' := fun a o e =>
  (x a o e).stay (fun b u hb q => (hs.2 b (by
    rintro rfl
    rcases hb with z | z
    · rw [z] at hC; rw [hC] at e; cases e
    · rw [hC] at z; cases z)).trans q) (fun _ q => q) fun _ _ q => q

section
variable {X : Cx} {N0 T : List Str} {scope : Scope} {tg elt iter : Expr} {ifs : List Expr} {pos : Pos} {wi : TI} {g : TG} {tc : TT} {te : TE}

theorem comp_core {pins : List (Addr × Obj)} {σ : St} {H : Hp} {s : Shared} {E : Value → Shared → Prop} {it : Addr} {fp : List Addr} {tn : Nat → Heap → Prop} {J : It} {Q : VK} {RR : Value → Addr → Result → Shared → Prop}
    (S : CompScope X N0 T scope) (hc : X.calm = true)
    (hg : ∀ C fp s H, PG (cxComp X N0 T scope C fp s H) tg g) (hfr : GFr g X.N.length) (hi : ∀ C fp s H, PIfs (cxComp X N0 T scope C fp s H) ifs tc) (he : ∀ C fp s H, PE (cxComp X N0 T scope C fp s H) elt te)
    (I : Inv X pins σ H s) (Tn : Turn X.prog X.w X.K tg J fp it tn) (st : tn 0 s.heap) (hf : ∀ b ∈ fp, FpOk X pins H b)
    (h : ∀ D, H D = none → compW J g tc te T.length σ D Q (upd H D (.lst [])))
    (hRR : ∀ D C s' H' m, s'.heap.Ns C m → H' C = none → C ≠ X.env.locals → (∀ x c, X.env.cells.lookup x = some c → c ≠ C) → (∀ p ∈ X.pn ++ pins, p.1 ≠ C) → X.s₀.heap.objs.size ≤ C → Inv X pins σ H' s' →
      (∀ h', Heap.SameBut C s'.heap h' → Inv X pins σ H' { s' with heap := h' }) → Q (.ref D) H' → RR (.ref D) C (.ok .next) s') :
    wpAny (model X.prog X.w) X.A (newList []) (fun acc s₃ => wpAny (model X.prog X.w) X.A (newFunctionEnv scope X.env.globals (closOf X.env.cells scope.names []) [] X.env.qual none .none (some X.env)) (fun cenv s₄ =>
      codeAny (model X.prog X.w) X.A (.compStart (.ListComp elt [⟨tg, iter, ifs, 0⟩] scope pos) 0 (.ref it) acc { cenv with scope := relabel scope X.env }) (RR acc cenv.locals) s₄) E s₃) E s := by
  refine wpAny_newObj_type (wpAny_newFunctionEnv S.nocell (by intro y hy; simp at hy) (fun h₁ hns₁ hsb₁ => ?_) S.kind)
  dsimp only at hns₁ hsb₁ ⊢
  generalize hH2 : s.heap.push { cls := .type "list", dict := none, data := .seq ([] : List Value).toArray } = P2 at hns₁ hsb₁ ⊢
  have hC : P2.objs.size = s.heap.objs.size + 1 := by rw [← hH2, Heap.size_push]
  -- the new list D, the block's names C
  obtain ⟨D, hD⟩ : ∃ D : Nat, D = s.heap.objs.size := ⟨_, rfl⟩
  obtain ⟨C, hCC⟩ : ∃ C : Nat, C = P2.objs.size := ⟨_, rfl⟩
  rw [← hCC] at hns₁ hsb₁ hC ⊢
  rw [← hD] at hC ⊢
  have hDC : D ≠ C := by omega
  have hDlt : D < C := by omega
  have neD : ∀ b o, s.heap.get? b = some o → b ≠ D := fun b o e => hD ▸ Nat.ne_of_lt (Heap.lt_size e)
  have neC : ∀ b o, s.heap.get? b = some o → b ≠ C := fun b o e => Nat.ne_of_lt (Nat.lt_trans (hD ▸ Heap.lt_size e) hDlt)
  have old : ∀ b o, s.heap.get? b = some o → h₁.get? b = some o := fun b o e => hsb₁.extBut b o (neC b o e) (Heap.get?_push_of_some _ (hH2 ▸ Heap.get?_push_of_some _ e))
  have hHD : H D = none := I.hok.fresh (by omega)
  have hHC : H C = none := I.hok.fresh (by omega)
  have dat : h₁.get? D = some { cls := .type "list", data := .seq ([] : List Value).toArray 0 } := by
    refine hsb₁.extBut _ _ hDC (Heap.get?_push_of_some _ ?_)
    rw [← hH2, hD]
    exact Heap.get?_push_size _ rfl
  -- the block's context stands
  have hcl : ∀ x c, (closOf X.env.cells scope.names []).lookup x = some c → X.env.cells.lookup x = some c := fun x c e =>
    closOf_some (fun y hy hk => I.ok.has y.1 (S.free y hy hk)) (fun y c z => by simp at z) e
  have okC : (cxComp X N0 T scope C fp s H).Ok := by
    refine ⟨I.ok.mod, ?_, I.ok.glob, I.ok.blt, ?_, fun x y c e1 e2 => I.ok.inj x y c (hcl x c e1) (hcl y c e2), fun x hx => ?_, fun x c z _ => (by cases z), I.ok.hd, I.ok.frames, .inl rfl, fun b hb => ⟨?_, fun x c e => (hf b hb).2.2.2.2.1 x c (hcl x c e)⟩,
      I.bs, ?_, fun b o e hb => ?_, fun b hb z => ?_, I.stack, I.stkFree⟩
    · show (relabel scope X.env).kind = .function
      exact S.kind
    · show s.heap.objs.size ≤ C
      omega
    · have hx' : (relabel scope X.env).names.lookup x = some .cell ∨ (relabel scope X.env).names.lookup x = some .free := hx
      have m : (x, NameKind.free) ∈ scope.names := by
        rcases hx' with z | z
        · exact relabel_free S.nocell z (.inl rfl)
        · exact relabel_free S.nocell z (.inr rfl)
      exact closOf_has m
    · show b ≠ C
      obtain ⟨o, e, _⟩ := Tn.obj 0 _ st b hb
      exact neC b o e
    · exact Nat.le_trans I.ok.bsz I.sz
    · obtain ⟨_, _, _, z, _⟩ := hf b hb
      rcases z with z | z
      · exact I.ok.noex b o e z
      · exact absurd (Nat.lt_of_lt_of_le (Nat.lt_of_lt_of_le (Heap.lt_size e) I.ok.bsz) z) (Nat.lt_irrefl _)
    · obtain ⟨_, z1, z2, _⟩ := hf b hb
      rcases List.mem_cons.mp (I.stkSub b z) with q | q
      · exact z1 q
      · exact z2 q
  have I1 : Inv (cxComp X N0 T scope C fp s H) [] (σ ++ List.replicate T.length none) (upd H D (.lst [])) { s with heap := h₁, toks := s.toks + ([] : List (Str × Value)).length } := by
    refine ⟨okC, rfl, I.bare, Un.laid (h := s.heap) old (by omega) hHD, ⟨_, hns₁, fun i x v e1 e2 e3 => ?_⟩, fun x c e => ?_, ?_, fun x c e => ?_, fun p hp => (by simp [cxComp] at hp), I.hok.laid old (by omega) ?_, ?_⟩
    · have e1' : (N0 ++ T)[i]? = some x := e1
      have hl := I.len
      have hl0 := S.len0
      have hi : i < σ.length := by
        rcases Nat.lt_or_ge i σ.length with z | z
        · exact z
        · rw [List.getElem?_append_right z] at e2
          rw [List.getElem?_replicate] at e2
          split at e2 <;> cases e2
      rw [List.getElem?_append_left hi] at e2
      rw [List.getElem?_append_left (by omega)] at e1'
      have hxN : x ∈ N0 := List.mem_of_getElem? e1'
      have e3' : (relabel scope X.env).names.lookup x = some .local ∨ (relabel scope X.env).names.lookup x = some .cell ∨ (relabel scope X.env).names.lookup x = some .free := e3
      have fr : (relabel scope X.env).names.lookup x = some .cell ∨ (relabel scope X.env).names.lookup x = some .free := by
        rcases e3' with z | z | z
        · exfalso
          -- a local of the block is no tracked name
          have key : ∀ (names : List (Str × NameKind)), (names.map fun (n, k) => if (k == NameKind.free && X.env.scope.kind == .function && X.env.kindOf n == some .cell) then (n, NameKind.cell) else (n, k)).lookup x = some .local → (x, NameKind.local) ∈ names := by
            intro names
            induction names with
            | nil => intro z; simp at z
            | cons y r ih =>
              obtain ⟨n, k⟩ := y
              intro z
              rw [List.map_cons] at z
              dsimp only at z
              by_cases hfk : (k == NameKind.free && X.env.scope.kind == .function && X.env.kindOf n == some .cell) = true
              · rw [if_pos hfk, List.lookup_cons] at z
                cases hx : (x == n) with
                | true => rw [hx] at z; cases z
                | false => rw [hx] at z; exact List.mem_cons_of_mem _ (ih z)
              · rw [if_neg hfk, List.lookup_cons] at z
                cases hx : (x == n) with
                | true =>
                  rw [hx] at z
                  have ek : k = .local := Option.some.inj z
                  have en : x = n := by simpa using hx
                  rw [ek, en]; exact List.mem_cons_self
                | false => rw [hx] at z; exact List.mem_cons_of_mem _ (ih z)
          exact S.apart (x, .local) (key _ z) rfl hxN
        · exact .inl z
        · exact .inr z
      have m : (x, NameKind.free) ∈ scope.names := by
        rcases fr with z | z
        · exact relabel_free S.nocell z (.inl rfl)
        · exact relabel_free S.nocell z (.inr rfl)
      have kX := S.free _ m rfl
      obtain ⟨mm, hn, hl'⟩ := I.loc
      obtain ⟨u, r, lk⟩ := hl' i x v (S.same i x _ e1' m) e2 (.inr kX)
      refine ⟨u, r, .inr ⟨fr, ?_⟩⟩
      rcases lk with ⟨z, _⟩ | ⟨_, c, ec, cc⟩
      · rcases kX with q | q
        · rw [q] at z; cases z
        · rw [q] at z; cases z
      · obtain ⟨c', ec'⟩ := closOf_has (cells := X.env.cells) (acc := []) m
        have := hcl x c' ec'
        rw [ec] at this; cases this
        exact ⟨c, ec', cc.keeps old⟩
    · obtain ⟨v, z⟩ := I.cell x c (hcl x c e)
      exact ⟨v, z.keeps old⟩
    · show upd H D (.lst []) C = none
      rw [upd_ne (Ne.symm hDC)]; exact hHC
    · have q := I.freeC x c (hcl x c e)
      obtain ⟨v, o, z, _⟩ := I.cell x c (hcl x c e)
      rw [upd_ne (neD c o z)]; exact q
    · exact ⟨Nat.zero_le _, [], 0, .nil, dat⟩
    · show (σ ++ List.replicate T.length none).length = (N0 ++ T).length
      rw [List.length_append, List.length_append, List.length_replicate, I.len, S.len0]
  have st1 : tn 0 h₁ := Tn.keep _ _ _ st fun b _ o e => old b o e
  have fp1 : ∀ {H' : Hp}, (∀ b ∈ fp, H' b = none) → ∀ b ∈ fp, FpOk (cxComp X N0 T scope C fp s H) [] H' b := fun hn b hb =>
    ⟨hn b hb, (okC.exf b hb).1, okC.exfs b hb, .inl hb, (okC.exf b hb).2, fun p hp => (by simp [cxComp] at hp)⟩
  have fp0 : ∀ b ∈ fp, upd H D (.lst []) b = none := fun b hb => by
    obtain ⟨o, e, _⟩ := Tn.obj 0 _ st b hb
    rw [upd_ne (neD b o e)]; exact (hf b hb).1
  obtain ⟨W, ⟨m0, w0⟩, turn⟩ := h D hHD
  have loop : ∀ s₃ : Shared, s₃ = { s with heap := h₁, toks := s.toks + ([] : List (Str × Value)).length } →
      codeAny (model X.prog X.w) X.A (.compLoop (.ListComp elt [⟨tg, iter, ifs, 0⟩] scope pos) 0 (.ref it) (.ref D) (compEnvC scope (closOf X.env.cells scope.names []) C X.env)) (RR (.ref D) C) s₃ := by
    rintro s₃ rfl
    refine codeAny_compLoop_go (fun n s' => ∃ i H' ys, Inv (cxComp X N0 T scope C fp s H) [] (σ ++ List.replicate T.length none) H' s' ∧ tn i s'.heap ∧ (∀ b ∈ fp, H' b = none) ∧ W i n ys H') ?_ m0 ⟨0, _, [], I1, st1, fp0, w0⟩
    rintro n s3 ⟨i, H3, ys, I3, st3, fr3, w3⟩
    rcases turn i n ys H3 w3 with ⟨stop, qn⟩ | ⟨go, step⟩
    · refine thn (Tn.done (cxComp X N0 T scope C fp s H) rfl rfl rfl hc i [] s3 _ H3 (fun _ _ => False) I3 (fp1 fr3) st3 stop) fun r s4 ⟨hr, I4⟩ => ?_
      subst hr
      obtain ⟨m, hm, _⟩ := I4.loc
      have hch : ∀ b ∈ fp, (b ∈ X.ex ∨ X.s₀.heap.objs.size ≤ b) ∧ b ≠ X.env.locals ∧ (∀ x c, X.env.cells.lookup x = some c → c ≠ b) ∧ ∀ p ∈ X.pn ++ pins, p.1 ≠ b := fun b hb =>
        ⟨(hf b hb).2.2.2.1, (hf b hb).2.1, (hf b hb).2.2.2.2.1, (hf b hb).2.2.2.2.2⟩
      have u4 : Un (frs X.stack) fp H H3 s.heap s4.heap := I4.base
      refine hRR D C s4 H3 m hm I4.free (Ne.symm (Nat.ne_of_lt (Nat.lt_trans (hD ▸ I.lt) hDlt))) (fun x c e => ?_) (fun p hp => ?_) (Nat.le_trans (hD ▸ I.sz) (Nat.le_of_lt hDlt)) (I.call' (ch := fp) I4.os u4 I4.hok I4.bare hch) (fun h' hs' => ?_) qn
      · obtain ⟨v, o, q, _⟩ := I.cell x c e
        exact neC c o q
      · exact neC _ _ (I.pin p hp).1
      · refine I.call' (ch := fp) (s' := { s4 with heap := h' }) I4.os ⟨fun b o q n' hb hx => (hs'.2 b (neC b o q)).trans (u4.keep b o q n' hb hx), fun b o q n' hb hx => ?_, u4.free, fun b o q hx => ?_, u4.tups, u4.frzs, u4.tbls⟩ (I4.hok.sameBut hs' I4.free) I4.bare hch
        · obtain ⟨sl, e⟩ := u4.slot b o q n' hb hx
          exact ⟨sl, (hs'.2 b (neC b o q)).trans e⟩
        · obtain ⟨o', e⟩ := u4.there b o q hx
          exact ⟨o', (hs'.2 b (neC b o q)).trans e⟩
    · refine thn (Tn.item (cxComp X N0 T scope C fp s H) rfl rfl rfl hc i [] s3 _ H3 (fun _ _ => False) I3 (fp1 fr3) st3 go) fun r s4 ⟨u, hr, h4⟩ => ?_
      subst hr
      refine thn h4 fun _ s5 ⟨x, H5, I5, r5, y5, st5, fr5⟩ => ?_
      have I5' := I5.pinned (fp1 fr5) (Tn.obj _ _ st5)
      refine thn (hg C fp s H _ s5 _ H5 x u _ I5' r5 (hfr _ _ _ _ (step x H5 y5))) fun _ s6 ⟨σ6, H6, I6, q6, l6, k6⟩ => ?_
      have back : ∀ {H7 : Hp} {s7 : Shared}, Inv (cxComp X N0 T scope C fp s H) ([] ++ pinsAt fp s5.heap) σ6 H7 s7 → (∀ {m' : Nat} {zs : List V}, m' < n → W (i + 1) m' zs H7 → ∃ m, m < n ∧ ∃ i H' ys, Inv (cxComp X N0 T scope C fp s H) [] (σ ++ List.replicate T.length none) H' s7 ∧ tn i s7.heap ∧ (∀ b ∈ fp, H' b = none) ∧ W i m ys H') := fun {H7 s7} I7 {m' zs} hm w7 => by
        refine ⟨m', hm, i + 1, H7, zs, I7.unpinned.weak (by rw [l6]) (fun j v e => ?_), Tn.keep _ _ _ st5 fun b hb o e => (I7.pin (b, o) (List.mem_append_right _ (List.mem_append_right _ (mem_pinsAt hb e)))).1, fun b hb => ?_, w7⟩
        · have hj : j < σ.length := by
            rcases Nat.lt_or_ge j σ.length with z | z
            · exact z
            · rw [List.getElem?_append_right z, List.getElem?_replicate] at e
              split at e <;> cases e
          rw [k6 j (by rw [← I.len]; exact hj)]
          exact e
        · obtain ⟨o, e, d⟩ := Tn.obj _ _ st5 b hb
          exact (I7.pin (b, o) (List.mem_append_right _ (List.mem_append_right _ (mem_pinsAt hb e)))).2.1
      refine thn (hi C fp s H _ s6 σ6 H6 _ I6 q6) fun b s7 ⟨H7, I7, q7⟩ => ?_
      cases b with
      | false =>
        obtain ⟨m', hm, w7⟩ := (show ∃ m', m' < n ∧ W (i + 1) m' ys H7 from by simpa using q7)
        exact back I7 hm w7
      | true =>
        rw [if_pos rfl] at q7
        refine thn (he C fp s H _ s7 σ6 H7 _ I7 q7) fun v s8 ⟨y, H8, I8, r8, hD8, hz, m', hm, w8⟩ => ?_
        refine thn (mt_append (X := cxComp X N0 T scope C fp s H) _ s8 σ6 H8 (.ref D) [y] (.ref D) [v] (fun _ H9 => H9 = upd H8 D (.lst (ys ++ [y]))) I8 rfl (.cons r8 .nil) ⟨D, ys, y, rfl, rfl, hD8, hz, rfl⟩) fun v9 s9 ⟨y9, H9, I9, _, e9⟩ => ?_
        subst e9
        exact back I9 hm w8
  exact codeAny_compStart_list (loop _ rfl) (Tn.self X.A 0 _ _ _ st1 (loop _ rfl))

/-- [elt for tg in iter] -/
theorem pe_comp (S : CompScope X N0 T scope) (hc : X.calm = true) (hI : PI X tg iter wi)
    (hg : ∀ C fp s H, PG (cxComp X N0 T scope C fp s H) tg g) (hfr : GFr g X.N.length) (hi : ∀ C fp s H, PIfs (cxComp X N0 T scope C fp s H) ifs tc) (he : ∀ C fp s H, PE (cxComp X N0 T scope C fp s H) elt te)
    (hs : ∀ x, foldedSetIterable iter X.env x = pure x := by intro _; rfl) : PE X (.ListComp elt [⟨tg, iter, ifs, 0⟩] scope pos) (tComp wi g tc te T.length) := by
  intro pins s σ H Q I h
  rw [eval_ListComp]
  refine wpAny_comprehension_free (use := none) rfl hs (closureFor_eq fun x hx hk => I.ok.has x.1 (S.free x hx hk)) S.kind S.names (thn (hI pins s σ H _ I h) fun v s1 h1 => thn h1 fun itv s2 h2 => ?_)
  obtain ⟨it, fp, tn, J, H2, e, I2, Tn, st2, f2, q2⟩ := h2
  subst e
  refine comp_core (RR := fun acc C => compPost (model X.prog X.w) X.A X.xe none (EP X pins σ Q) acc C) S hc hg hfr hi he I2 Tn st2 f2 q2 ?_
  intro D C s' H' m hn hC hL hcells hpins hfresh I' hI' q
  exact ⟨m, hn, fun h' hs' => ⟨.ref D, H', hI' h' hs', rfl, q⟩⟩

/-- x = [elt for tg in iter] -/
theorem ps_setcomp {i : Nat} {x : Str} {pos' spos : Pos} (S : CompScope X N0 T scope) (hc : X.calm = true) (hN : X.N.Nodup) (hi' : X.N[i]? = some x) (hx : X.env.scope.names.lookup x = some .local) (hI : PI X tg iter wi)
    (hg : ∀ C fp s H, PG (cxComp X N0 T scope C fp s H) tg g) (hfr : GFr g X.N.length) (hi : ∀ C fp s H, PIfs (cxComp X N0 T scope C fp s H) ifs tc) (he : ∀ C fp s H, PE (cxComp X N0 T scope C fp s H) elt te)
    (hsw : swapsWith (.ListComp elt [⟨tg, iter, ifs, 0⟩] scope pos) (some (.Name x pos')) spos.line X.env = pure true := by rfl)
    (hs : ∀ x, foldedSetIterable iter X.env x = pure x := by intro _; rfl) : PS X (.Assign [.Name x pos'] (.ListComp elt [⟨tg, iter, ifs, 0⟩] scope pos) spos) (tAsg (tComp wi g tc te T.length) (gName i)) := by
  intro pins s σ H D I h
  rw [exec_Assign_Name_used _ _ _ _ hsw]
  refine wpAny_bind (wpAny_standAt (wpAny_bind ?_))
  show wpAny _ X.A (do let _ ← comprehension (.ListComp elt [⟨tg, iter, ifs, 0⟩] scope pos) scope X.env _ (newList []) false (eval iter X.env) (some (assign (.Name x pos') X.env))) _ _ s
  refine wpAny_bind (wpAny_mono (wpAny_comprehension_free (use := some (assign (.Name x pos') X.env)) (Q := fun _ s' => SP X pins D .next s') rfl hs (closureFor_eq fun x hx hk => I.ok.has x.1 (S.free x hx hk)) S.kind S.names
    (thn (hI pins s σ H _ I h) fun v s1 h1 => thn h1 fun itv s2 h2 => ?_)) (fun _ s' hq => wpAny_pure (wpAny_pure hq)) fun _ _ e => e)
  obtain ⟨it, fp, tn, J, H2, e, I2, Tn, st2, f2, q2⟩ := h2
  subst e
  refine comp_core (RR := fun acc C => compPost (model X.prog X.w) X.A X.xe (some (assign (.Name x pos') X.env)) (fun _ s' => SP X pins D .next s') acc C) S hc hg hfr hi he I2 Tn st2 f2 q2 ?_
  intro L C s' H' m hn hC hL hcells hpins hfresh I' hI' q
  show wpAny _ X.A (assign (.Name x pos') X.env (.ref L)) _ _ _
  refine wpAny_assign_Name (store_ok2 (v := .ref L) I' hN hi' (.inl hx) rfl (fun s'' I'' ⟨a, hsa, ha⟩ => ?_) (.inr hx))
  have hCa : C ≠ a := by
    rintro rfl
    rcases ha with z | z
    · exact hL z
    · exact hcells x C z rfl
  refine ⟨m, hn.sameBut hsa hCa, fun h' hs' => ?_⟩
  exact ⟨σ.set i (some (.ref L)), H', I''.turned (t' := s''.toks) (fun b o hb e => (hs'.2 b hb).trans e) hC hL (.inr hfresh) hcells hpins, q⟩
end
end L2

set_option Elab.async false
set_option linter.all false
set_option maxRecDepth 100000
namespace L2
open PySem PySem.Spec PyProof.Rows

/-! ### items of a list of values, the other way about -/
theorem Vals.of : ∀ {xs : List V} {us : List Value} {i : Nat} {u : Value}, Vals xs us → us[i]? = some u → ∃ x, xs[i]? = some x ∧ RelV x u
  | _, _, 0, u, .cons r _, e => ⟨_, rfl, by simp at e; subst e; exact r⟩
  | _, _, i + 1, u, .cons _ rr, e => by
    obtain ⟨x, hx, r⟩ := Vals.of (i := i) rr (by simpa using e)
    exact ⟨x, by simpa using hx, r⟩
theorem vals_strs : ∀ {ss : List Str} {us : List Value}, Vals (ss.map V.str) us → StrsAre us ss
  | [], _, .nil => .nil
  | s :: ss, _, .cons r rr => by
    obtain ⟨t, rfl⟩ := r
    exact .cons s t (vals_strs rr)
/-! ### all, any of a list of bools -/
theorem range_all (bs : List Bool) : (List.range bs.length).all (fun i => bs.getD i false) = bs.all id := by
  rw [Bool.eq_iff_iff, List.all_eq_true, List.all_eq_true]
  constructor
  · intro h b hb
    obtain ⟨i, hi, rfl⟩ := List.mem_iff_getElem.mp hb
    have := h i (List.mem_range.mpr hi)
    rw [List.getD_eq_getElem?_getD, List.getElem?_eq_getElem hi] at this
    exact this
  · intro h i hi
    have hi' := List.mem_range.mp hi
    rw [List.getD_eq_getElem?_getD, List.getElem?_eq_getElem hi']
    exact h _ (List.getElem_mem hi')
theorem bools_at {bs : List Bool} {us : List Value} (r : Vals (bs.map V.bl) us) {i : Nat} {v : Value} (e : us.toArray[i]? = some v) : v = .bool (bs.getD i false) := by
  obtain ⟨x, hx, rx⟩ := r.of (i := i) (by simpa using e)
  rw [List.getElem?_map] at hx
  cases hb : bs[i]? with
  | none => rw [hb] at hx; cases hx
  | some b =>
    rw [hb] at hx
    have hx' : V.bl b = x := Option.some.inj hx
    subst hx'
    rw [List.getD_eq_getElem?_getD, hb]
    exact rx
section
variable {X : Cx}
def rAll (K : PySem.W.Frag) : List V → Hp → VK → Prop := fun xs H Q => ∃ (p : Addr) (bs : List Bool), xs = [.ref p] ∧ SqL K H p (bs.map V.bl) ∧ Q (.bl (bs.all id)) H
theorem rAll_at {K : PySem.W.Frag} {H : Hp} {Q : VK} (p : Addr) : rAll K [.ref p] H Q = ∃ bs : List Bool, SqL K H p (bs.map V.bl) ∧ Q (.bl (bs.all id)) H := propext ⟨fun ⟨_, bs, e, q⟩ => by cases e; exact ⟨bs, q⟩, fun ⟨bs, q⟩ => ⟨p, bs, rfl, q⟩⟩
theorem call_allL (hc : X.calm = true) : CallR X (.builtin "all") (rAll X.K) := by
  intro pins s σ H xs us Q I r h
  obtain ⟨p, bs, rfl, hq, q⟩ := h
  obtain ⟨u, rfl, ru⟩ := vals1 r
  cases ru
  obtain ⟨its, rv, pl, hz⟩ := I.list hq
  have hlen : its.length = bs.length := by rw [← rv.length, List.length_map]
  refine call_all_walk (wpAny_pyIter_list pl.isList ?_)
  refine ⟨_, _, _, _, _, _, fun i => bs.getD i false, rfl, Walks.list (A := X.A.in1) (I.ok.hd hc) s.heap.objs.size p (Nat.ne_of_lt pl.lt) its.toArray, ⟨⟨_, Heap.get?_push_size _ rfl, rfl, rfl⟩, (pl.keeps fun b o e => Heap.get?_push_of_some _ e).isList⟩, ?_, fun h' tk hk => ?_⟩
  · intro i v s' Q' E' hP hQ
    rw [bools_at rv hP]
    exact wpAny_truthy_bool hQ
  · refine ⟨.bl (bs.all id), H, I.kept (t' := tk) fun b o e => hk b o (fun z => ?_) (Heap.get?_push_of_some _ e), ?_, q⟩
    · exact Nat.ne_of_lt (Heap.lt_size e) (by simpa using z)
    · have e : (List.range its.toArray.size).all (fun i => bs.getD i false) = bs.all id := by rw [List.size_toArray, hlen, range_all]
      show Value.bool ((List.range its.toArray.size).all fun i => bs.getD i false) = Value.bool (bs.all id)
      rw [e]
/-! ### isinstance -/
/-- the built-in type that a value is of -/
def tyName (H : Hp) : V → Option String
  | .non => some "NoneType"
  | .bl _ => some "bool"
  | .int _ => some "int"
  | .str _ => some "str"
  | .ref a => match H a with
    | some (.lst _) => some "list"
    | some (.frz _ (.lst _)) => some "list"
    | some (.tup _) => some "tuple"
    | some (.dK _) => some "dict"
    | some (.dT _) => some "dict"
    | _ => none
  | _ => none
theorem tyOf_name {K : PySem.W.Frag} {H : Hp} : ∀ {x : V} {T : String}, tyName H x = some T → TyOf K H x (.type T)
  | .non, T, h => by cases h; exact .non
  | .bl b, T, h => by cases h; exact .bl b
  | .int i, T, h => by cases h; exact .int i
  | .str y, T, h => by cases h; exact .str y
  | .byt _, T, h => by cases h
  | .flt _, T, h => by cases h
  | .ty _, T, h => by cases h
  | .ref a, T, h => by
    cases e : H a with
    | none => simp [tyName, e] at h
    | some o =>
      cases o with
      | lst xs => simp [tyName, e] at h; subst h; exact .lst e
      | tup xs => simp [tyName, e] at h; subst h; exact .tup e
      | dK xs => simp [tyName, e] at h; subst h; exact .dK e
      | dT xs => simp [tyName, e] at h; subst h; exact .dT e
      | frz ob u =>
        cases u with
        | lst xs => simp [tyName, e] at h; subst h; exact .frz e
        | _ => simp [tyName, e] at h
      | _ => simp [tyName, e] at h
def isT (T C : String) : Bool := T == C || (T == "bool" && C == "int")
theorem kit_name (K : PySem.W.Frag) {T C : String} (hT : T ∈ ["NoneType", "bool", "int", "str", "list", "tuple", "dict"]) (hC : C ∈ ["bool", "int", "str", "list", "tuple"]) : PySem.W.kitOne K (.type T) (.type C) = some (isT T C) := by
  simp only [List.mem_cons, List.mem_nil_iff, or_false] at hT hC
  rcases hT with rfl | rfl | rfl | rfl | rfl | rfl | rfl <;> rcases hC with rfl | rfl | rfl | rfl | rfl <;> (with_unfolding_all rfl)
theorem tyName_mem {H : Hp} {x : V} {T : String} (h : tyName H x = some T) : T ∈ ["NoneType", "bool", "int", "str", "list", "tuple", "dict"] := by
  cases x with
  | ref a =>
    cases e : H a with
    | none => simp [tyName, e] at h
    | some o =>
      cases o with
      | frz ob u => cases u <;> simp [tyName, e] at h <;> subst h <;> decide
      | _ => simp [tyName, e] at h <;> subst h <;> decide
  | _ => first | (cases h; decide) | cases h
def rIsT : List V → Hp → VK → Prop := fun xs H Q => ∃ (x : V) (T C : String), xs = [x, .ty C] ∧ tyName H x = some T ∧ C ∈ ["bool", "int", "str", "list", "tuple"] ∧ Q (.bl (isT T C)) H
theorem rIsT_at {H : Hp} {Q : VK} (x : V) (C : String) : rIsT [x, .ty C] H Q = ∃ T, tyName H x = some T ∧ C ∈ ["bool", "int", "str", "list", "tuple"] ∧ Q (.bl (isT T C)) H :=
  propext ⟨fun ⟨_, T, _, e, q⟩ => by cases e; exact ⟨T, q⟩, fun ⟨T, q⟩ => ⟨x, T, C, rfl, q⟩⟩
theorem call_isT : CallR X (.builtin "isinstance") rIsT := by
  intro pins s σ H xs us Q I r h
  obtain ⟨x, T, C, rfl, hT, hC, q⟩ := h
  obtain ⟨u, w', rfl, ru, rw'⟩ := vals2 r
  cases rw'
  exact isinst_ok I ru (tyOf_name hT) (kit_name X.K (tyName_mem hT) hC) fun tk => ⟨.bl (isT T C), H, I.tok tk, rfl, q⟩

/-! ### sep.join(texts) -/
def rJoin (K : PySem.W.Frag) : V → List V → Hp → VK → Prop := fun x vs H Q => ∃ (sep : Str) (p : Addr) (ss : List Str), x = .str sep ∧ vs = [.ref p] ∧ SqL K H p (ss.map V.str) ∧ (ss.map (·.length)).sum + ss.length * sep.length ≤ 16777216 ∧ Q (.str (Txt.join sep ss)) H
theorem mt_join : MtR X "str.join" (rJoin X.K) := by
  intro pins s σ H x xs v us Q I rx r h
  obtain ⟨sep, p, ss, rfl, rfl, hq, hz, q⟩ := h
  obtain ⟨t, rfl⟩ := rx
  obtain ⟨u, rfl, ru⟩ := vals1 r
  cases ru
  obtain ⟨its, rv, pl, _⟩ := I.list hq
  exact join_list pl.isList (by simpa using vals_strs rv) hz fun t' k => ⟨.str (Txt.join sep ss), H, I.tok k, ⟨t', rfl⟩, q⟩

/-! ### a loop over a text's signs -/
def Its (x : Str) : It := ⟨fun i _ => i < x.length, fun i H v H' => H' = H ∧ ∃ c, x.cps[i]? = some c ∧ v = .str ⟨#[c]⟩, fun i _ => x.length ≤ i⟩
theorem turn_str {P : Program} {w : World} {K : PySem.W.Frag} {tg : Expr} {it : Addr} {cls : String} {x : Str} {t : Tok} (hn : ["enumerate", "zip", "dict_itemiterator", "dict_reverseitemiterator", "odict_iterator", "itertools.zip_longest", "itertools.pairwise"].contains cls = false)
    (W : ∀ A : Around, A.handled = none → Walks P w A it [it] [it] x.cps.size (SignAt x) (fun i h => h.IsStrIter it cls x t i))
    (hself : ∀ (A : Around) (i : Nat) (s : Shared) (Q : Value → Shared → Prop) (E : Value → Shared → Prop), s.heap.IsStrIter it cls x t i → Q (.ref it) s → wpAny (model P w) A (pyIter (.ref it)) Q E s) : Turn P w K tg (Its x) [it] it (fun i h => h.IsStrIter it cls x t i ∧ i ≤ x.length) where
  mem := by simp
  obj := fun i h st b hb => by
    have e : b = it := by simpa using hb
    subst e
    obtain ⟨⟨o, e, c, d⟩, _⟩ := st
    exact ⟨o, e, fun v z => by rw [d] at z; cases z⟩
  keep := fun i h h' st k => by
    obtain ⟨⟨o, e, c, d⟩, z⟩ := st
    exact ⟨⟨o, k it (by simp) o e, c, d⟩, z⟩
  item := by
    intro X hP hw hK hc i pins s σ H E I hf st hg
    subst hP hw hK
    obtain ⟨f0, f1, f2, f3, f4, f5⟩ := hf it (by simp)
    have hg' : i < x.length := hg
    refine (W X.A (I.ok.hd hc)).item i s _ _ hg st.1 fun v h' tk hv st' kk => ?_
    obtain ⟨c, u, hcc, rfl⟩ := hv
    have I1 : Inv X pins σ H { s with heap := h', toks := tk } := I.turned (fun b o hb e => kk b o (by simpa using hb) e) f0 f1 f3 f4 f5
    obtain ⟨o, e, c', d⟩ := id st'
    exact ⟨_, rfl, go_of (s := { s with heap := h', toks := tk }) e c' d hn ⟨.str ⟨#[c]⟩, H, I1, ⟨u, rfl⟩, ⟨rfl, c, hcc, rfl⟩, ⟨st', hg'⟩, fun b hb => (hf b hb).1⟩⟩
  done := by
    intro X hP hw hK hc i pins s σ H E I hf st hg
    subst hP hw hK
    obtain ⟨f0, f1, f2, f3, f4, f5⟩ := hf it (by simp)
    have hg' : x.length ≤ i := hg
    have e : i = x.cps.size := Nat.le_antisymm st.2 hg'
    subst e
    exact (W X.A (I.ok.hd hc)).done s _ _ st.1 fun h' tk kk => ⟨rfl, I.turned (fun b o hb e => kk b o (by simpa using hb) e) f0 f1 f3 f4 f5⟩
  self := fun A i s Q E st h => hself A i s Q E st.1 h
def iStr (te : TE) : TI := fun σ H R => te σ H fun x H1 => ∃ y, x = .str y ∧ R (Its y) H1
theorem pi_str {tg e : Expr} {te : TE} (he : PE X e te) : PI X tg e (iStr te) := by
  intro pins s σ H R I h
  refine thn (he pins s σ H _ I h) fun v s1 ⟨x, H1, I1, r1, q1⟩ => ?_
  obtain ⟨y, e, q⟩ := q1
  subst e
  obtain ⟨t, rfl⟩ := r1
  have fin : ∀ (cls : String), PIE X pins σ tg R (.ref s1.heap.objs.size) { s1 with heap := s1.heap.push { cls := .type cls, data := .fields #[.str y t, .int 0 0] } } ∨ True := fun _ => .inr trivial
  cases ha : y.cps.all (· < 128)
  · refine wpAny_pyIter_wide ha ?_
    refine ⟨s1.heap.objs.size, [s1.heap.objs.size], _, Its y, H1, rfl, I1.kept (t' := s1.toks) fun b o e => Heap.get?_push_of_some _ e, turn_str (cls := "str_iterator") (by decide) (fun A hA => Walks.strWide hA _ y t) (fun A i s Q E st h => wpAny_pyIter_striter_wide st h), ⟨⟨_, Heap.get?_push_size _ rfl, rfl, rfl⟩, Nat.zero_le _⟩, fun b hb => ?_, q⟩
    have e : b = s1.heap.objs.size := by simpa using hb
    subst e
    exact I1.fpOk (Nat.le_refl _) (I1.hok.fresh (Nat.le_refl _))
  · refine wpAny_pyIter_ascii ha ?_
    refine ⟨s1.heap.objs.size, [s1.heap.objs.size], _, Its y, H1, rfl, I1.kept (t' := s1.toks) fun b o e => Heap.get?_push_of_some _ e, turn_str (cls := "str_ascii_iterator") (by decide) (fun A hA => Walks.strAscii hA _ y t) (fun A i s Q E st h => wpAny_pyIter_striter_ascii st h), ⟨⟨_, Heap.get?_push_size _ rfl, rfl, rfl⟩, Nat.zero_le _⟩, fun b hb => ?_, q⟩
    have e : b = s1.heap.objs.size := by simpa using hb
    subst e
    exact I1.fpOk (Nat.le_refl _) (I1.hok.fresh (Nat.le_refl _))
end

/-! ### the turns of a comprehension, of a loop, over what is walked -/
/-- a for's turns -/
def forW (J : It) (g : TG) (tb : TS) (D : Ends) (σ : St) (H : Hp) : Prop := ∃ W : Nat → Nat → St → Hp → Prop, (∃ m, W 0 m σ H) ∧ ∀ i m σ H, W i m σ H →
  (J.stop i H ∧ D.nx σ H) ∨ (J.go i H ∧ ∃ N : St → Hp → Prop, (∀ σ' H', N σ' H' → ∃ m', m' < m ∧ W (i + 1) m' σ' H') ∧ ∀ x H', J.yld i H x H' → g x σ H' fun σ2 H2 => tb { D with nx := N, ct := N, bk := D.nx } σ2 H2)
theorem tFor_at (wi : TI) (g : TG) (tb : TS) (D : Ends) (σ : St) (H : Hp) : tFor wi g tb D σ H = wi σ H fun J H1 => forW J g tb D σ H1 := rfl
/-- n turns; what is yielded at the i-th by this heap -/
theorem forW_by {J : It} {g : TG} {tb : TS} {D : Ends} {σ : St} {H : Hp} (n : Nat) (Pv : Nat → St → Hp → Prop) (h0 : Pv 0 σ H) (hgo : ∀ i σ H, i < n → Pv i σ H → J.go i H) (hst : ∀ σ H, Pv n σ H → J.stop n H)
    (hs : ∀ i σ H x H', i < n → Pv i σ H → J.yld i H x H' → g x σ H' fun σ2 H2 => tb { D with nx := Pv (i + 1), ct := Pv (i + 1), bk := D.nx } σ2 H2) (hd : ∀ σ H, Pv n σ H → D.nx σ H) : forW J g tb D σ H := by
  refine ⟨fun i m σ H => m = n - i ∧ i ≤ n ∧ Pv i σ H, ⟨n, by simp, Nat.zero_le _, h0⟩, ?_⟩
  rintro i m σ H ⟨rfl, hi, p⟩
  by_cases hlt : i < n
  · exact .inr ⟨hgo i σ H hlt p, Pv (i + 1), fun σ' H' p' => ⟨n - (i + 1), by omega, rfl, hlt, p'⟩, fun x H' y => hs i σ H x H' hlt p y⟩
  · have e : i = n := by omega
    subst e
    exact .inl ⟨hst σ H p, hd σ H p⟩
theorem forW_list {K : PySem.W.Frag} {a : Addr} {xs : List V} {g : TG} {tb : TS} {D : Ends} {σ : St} {H : Hp} (Pv : Nat → St → Hp → Prop) (h0 : Pv 0 σ H) (hl : ∀ i σ H, i ≤ xs.length → Pv i σ H → SqL K H a xs)
    (hs : ∀ i x σ H, xs[i]? = some x → Pv i σ H → g x σ H fun σ2 H2 => tb { D with nx := Pv (i + 1), ct := Pv (i + 1), bk := D.nx } σ2 H2) (hd : ∀ σ H, Pv xs.length σ H → D.nx σ H) : forW (Itl K a) g tb D σ H :=
  for_list Pv h0 hl hs hd
/-- behind the i-th item y of n: it goes onto the list at D -/
def CStep (n i : Nat) (Pv : Nat → List V → Hp → Prop) (D : Addr) (ys : List V) (y : V) (H : Hp) : Prop :=
  H D = some (.lst ys) ∧ ys.length < sizeLine ∧ ∃ m', m' < n - i ∧ (m' = n - (i + 1) ∧ i + 1 ≤ n ∧ Pv (i + 1) (ys ++ [y]) (upd H D (.lst (ys ++ [y]))))
theorem cstep {n i : Nat} {Pv : Nat → List V → Hp → Prop} {D : Addr} {ys : List V} {y : V} {H : Hp} (hi : i < n) (hlen : ys.length = i) (hz : n ≤ sizeLine) (h1 : H D = some (.lst ys)) (h2 : Pv (i + 1) (ys ++ [y]) (upd H D (.lst (ys ++ [y])))) : CStep n i Pv D ys y H :=
  ⟨h1, by omega, n - (i + 1), by omega, rfl, hi, h2⟩
def compK (n i : Nat) (Pv : Nat → List V → Hp → Prop) (D : Addr) (ys : List V) (te : TE) (σ : St) (H : Hp) : Prop :=
  if true = true then te σ H (CStep n i Pv D ys) else ∃ m', m' < n - i ∧ (m' = n - (i + 1) ∧ i + 1 ≤ n ∧ Pv (i + 1) ys H)
theorem compK_at {n i : Nat} {Pv : Nat → List V → Hp → Prop} {D : Addr} {ys : List V} {te : TE} {σ : St} {H : Hp} : compK n i Pv D ys te σ H = te σ H (CStep n i Pv D ys) := by
  unfold compK; rw [if_pos rfl]
/-- a comprehension without a test: n turns -/
theorem compW_by {J : It} {g : TG} {te : TE} {nT : Nat} {σ : St} {D : Addr} {Q : VK} {H : Hp} (n : Nat) (Pv : Nat → List V → Hp → Prop) (h0 : Pv 0 [] H) (hgo : ∀ i ys H, i < n → Pv i ys H → J.go i H) (hst : ∀ ys H, Pv n ys H → J.stop n H)
    (hs : ∀ i ys H x H', i < n → Pv i ys H → J.yld i H x H' → g x (σ ++ List.replicate nT none) H' (compK n i Pv D ys te))
    (hd : ∀ ys H, Pv n ys H → Q (.ref D) H) : compW J g tYes te nT σ D Q H := by
  refine ⟨fun i m ys H => m = n - i ∧ i ≤ n ∧ Pv i ys H, ⟨n, by simp, Nat.zero_le _, h0⟩, ?_⟩
  rintro i m ys H ⟨rfl, hi, p⟩
  by_cases hlt : i < n
  · exact .inr ⟨hgo i ys H hlt p, fun x H' y => hs i ys H x H' hlt p y⟩
  · have e : i = n := by omega
    subst e
    exact .inl ⟨hst ys H p, hd ys H p⟩
theorem compW_list {K : PySem.W.Frag} {a : Addr} {xs : List V} {g : TG} {te : TE} {nT : Nat} {σ : St} {D : Addr} {Q : VK} {H : Hp} (Pv : Nat → List V → Hp → Prop) (h0 : Pv 0 [] H) (hl : ∀ i ys H, i ≤ xs.length → Pv i ys H → SqL K H a xs)
    (hs : ∀ i ys H x, xs[i]? = some x → i < xs.length → Pv i ys H → g x (σ ++ List.replicate nT none) H (compK xs.length i Pv D ys te))
    (hd : ∀ ys H, Pv xs.length ys H → Q (.ref D) H) : compW (Itl K a) g tYes te nT σ D Q H := by
  refine compW_by xs.length Pv h0 (fun i ys H hi p => ⟨xs, xs[i], hl i ys H (Nat.le_of_lt hi) p, by simp [hi]⟩) (fun ys H p => ⟨xs, hl _ ys H (Nat.le_refl _) p, Nat.le_refl _⟩) (fun i ys H x H' hi p yl => ?_) hd
  obtain ⟨rfl, y⟩ := yl
  exact hs i ys _ x (y xs (hl i ys _ (Nat.le_of_lt hi) p)) hi p
theorem compW_range {lo : Int} {n : Nat} {g : TG} {te : TE} {nT : Nat} {σ : St} {D : Addr} {Q : VK} {H : Hp} (Pv : Nat → List V → Hp → Prop) (h0 : Pv 0 [] H)
    (hs : ∀ i ys H, i < n → Pv i ys H → g (.int (lo + i)) (σ ++ List.replicate nT none) H (compK n i Pv D ys te))
    (hd : ∀ ys H, Pv n ys H → Q (.ref D) H) : compW (Itr lo n) g tYes te nT σ D Q H := by
  refine compW_by n Pv h0 (fun i ys H hi p => hi) (fun ys H p => Nat.le_refl _) (fun i ys H x H' hi p yl => ?_) hd
  obtain ⟨rfl, rfl⟩ := yl
  exact hs i ys _ hi p
theorem compW_str {y : Str} {g : TG} {te : TE} {nT : Nat} {σ : St} {D : Addr} {Q : VK} {H : Hp} (Pv : Nat → List V → Hp → Prop) (h0 : Pv 0 [] H)
    (hs : ∀ i ys H c, y.cps[i]? = some c → i < y.length → Pv i ys H → g (.str ⟨#[c]⟩) (σ ++ List.replicate nT none) H (compK y.length i Pv D ys te))
    (hd : ∀ ys H, Pv y.length ys H → Q (.ref D) H) : compW (Its y) g tYes te nT σ D Q H := by
  refine compW_by y.length Pv h0 (fun i ys H hi p => hi) (fun ys H p => Nat.le_refl _) (fun i ys H x H' hi p yl => ?_) hd
  obtain ⟨rfl, c, hc, rfl⟩ := yl
  exact hs i ys _ c hc hi p
end L2

set_option Elab.async false
set_option linter.all false
set_option maxRecDepth 100000
namespace L2
open PySem PySem.Spec PyProof.Rows

/-! ### readings, applied -/
/-- the rest of a block, not yet read -/
def Rest (u : TS) (D : Ends) (σ : St) (H : Hp) : Prop := u D σ H
section
variable {D : Ends} {σ : St} {H : Hp} {Q : VK} {B : Bool → Hp → Prop} {L : List V → Hp → Prop} {R : It → Hp → Prop} {G : St → Hp → Prop}
theorem tSeq_at (t u : TS) : tSeq t u D σ H = t { D with nx := Rest u D } σ H := rfl
theorem rest_at (u : TS) : Rest u D σ H = u D σ H := rfl
theorem tNext_at : tNext D σ H = D.nx σ H := rfl
theorem tIfS_at (c : TT) (t u : TS) : tIfS c t u D σ H = c σ H fun b H1 => if b = true then t D σ H1 else u D σ H1 := rfl
theorem tRet_at (t : TE) : tRet t D σ H = t σ H D.rt := rfl
theorem tDrop_at (t : TE) : tDrop t D σ H = t σ H fun _ H1 => D.nx σ H1 := rfl
theorem tAsg_at (t : TE) (g : TG) : tAsg t g D σ H = t σ H fun x H1 => g x σ H1 D.nx := rfl
theorem gName_at (i : Nat) (v : V) : gName i v σ H G = G (σ.set i (some v)) H := rfl
theorem gNil_at (vs : List V) : gNil vs σ H G = (vs = [] ∧ G σ H) := rfl
theorem gCons_at (t : TG) (u : TGs) (vs : List V) : gCons t u vs σ H G = ∃ v r, vs = v :: r ∧ t v σ H fun σ' H' => u r σ' H' G := rfl
theorem gTup_at (K : PySem.W.Frag) (n : Nat) (t : TGs) (v : V) : gTup K n t v σ H G = ∃ a xs, v = .ref a ∧ SqT K H a xs ∧ xs.length = n ∧ t xs σ H G := rfl
theorem gSub_at (to ti : TE) (t : TSet) (v : V) : gSub to ti t v σ H G = to σ H fun o H1 => ti σ H1 fun i H2 => t o i v H2 fun H3 => G σ H3 := rfl
theorem tVar_at (i : Nat) : tVar i σ H Q = ∃ v, σ[i]? = some (some v) ∧ Q v H := rfl
theorem tC_at (v : V) : tC v σ H Q = Q v H := rfl
theorem tOp_at (r : R2) (ta tb : TE) : tOp r ta tb σ H Q = ta σ H fun x H1 => tb σ H1 fun y H2 => r x y H2 Q := rfl
theorem tTest_at (t : TE) : tTest t σ H B = t σ H fun x H' => ∃ k, x = .bl k ∧ B k H' := rfl
theorem tB_at (t : TE) : tB t σ H B = t σ H fun x H' => ∃ k, x = .bl k ∧ B k H' := rfl
theorem tAnd_at (t u : TT) : tAnd t u σ H B = t σ H fun c H1 => if c = true then u σ H1 B else B false H1 := rfl
theorem tOr_at (t u : TT) : tOr t u σ H B = t σ H fun c H1 => if c = true then B true H1 else u σ H1 B := rfl
theorem tNot_at (t : TT) : tNot t σ H B = t σ H fun c H1 => B (!c) H1 := rfl
theorem tAndV_at (ta tb : TE) : tAndV ta tb σ H Q = ta σ H fun x H1 => ∃ c, x = .bl c ∧ if c = true then tb σ H1 Q else Q (.bl false) H1 := rfl
theorem tNotV_at (ta : TE) : tNotV ta σ H Q = ta σ H fun x H1 => ∃ c, x = .bl c ∧ Q (.bl (!c)) H1 := rfl
theorem tCB_at (r : List V → Hp → VK → Prop) (t : TA) : tCB r t σ H Q = t σ H fun vs H1 => r vs H1 Q := rfl
theorem tCons_at (ta : TE) (tr : TA) : tCons ta tr σ H L = ta σ H fun x H1 => tr σ H1 fun xs H2 => L (x :: xs) H2 := rfl
theorem tNil_at : tNil σ H L = L [] H := rfl
theorem tTup_at (t : TA) : tTup t σ H Q = t σ H fun xs H1 => xs.length ≤ sizeLine ∧ ∀ p, H1 p = none → Q (.ref p) (upd H1 p (.tup xs)) := rfl
theorem tLst_at (t : TA) : tLst t σ H Q = t σ H fun xs H1 => xs.length ≤ sizeLine ∧ ∀ p, H1 p = none → Q (.ref p) (upd H1 p (.lst xs)) := rfl
theorem tCall_at (sp : Sp) (dvs : List V) (E : XK) (t : TA) : tCall sp dvs E t σ H Q = t σ H fun vs H1 => sp (vs ++ dvs) H1 Q E := rfl
theorem tBM_at (K : PySem.W.Frag) (T : String) (r : V → List V → Hp → VK → Prop) (to : TE) (t : TA) : tBM K T r to t σ H Q = to σ H fun x H1 => tyV K T x H1 ∧ t σ H1 fun xs H2 => r x xs H2 Q := rfl
theorem tBM0_at (K : PySem.W.Frag) (T : String) (r : V → List V → Hp → VK → Prop) (to : TE) : tBM0 K T r to σ H Q = to σ H fun x H1 => tyV K T x H1 ∧ r x [] H1 Q := rfl
theorem tChain_at (r r' : R2) (ta tb tc : TE) : tChain r r' ta tb tc σ H Q = ta σ H fun x H1 => tb σ H1 fun y H2 => r x y H2 fun z H3 => ∃ k, z = .bl k ∧ (if k = true then tc σ H3 fun w' H4 => r' y w' H4 Q else Q (.bl false) H3) := rfl
theorem tSl_at (r : V → Option Int → Option Int → Hp → VK → Prop) (te : TE) (tl th : TO) : tSl r te tl th σ H Q = te σ H fun x H1 => tl σ H1 fun l H2 => th σ H2 fun u H3 => r x l u H3 Q := rfl
theorem tPart_at (t : TE) (O : Option Int → Hp → Prop) : tPart t σ H O = t σ H fun x H1 => ∃ i, x = .int i ∧ O (some i) H1 := rfl
theorem tNoPart_at (O : Option Int → Hp → Prop) : tNoPart σ H O = O none H := rfl
theorem tComp_at (wi : TI) (g : TG) (tc : TT) (te : TE) (nT : Nat) : tComp wi g tc te nT σ H Q = wi σ H fun J H1 => ∀ D, H1 D = none → compW J g tc te nT σ D Q (upd H1 D (.lst [])) := rfl
theorem tYes_at : tYes σ H B = B true H := rfl
theorem iList_at (K : PySem.W.Frag) (tl : TE) : iList K tl σ H R = tl σ H fun x H1 => ∃ a, x = .ref a ∧ (∃ xs, SqL K H1 a xs) ∧ R (Itl K a) H1 := rfl
theorem iStr_at (te : TE) : iStr te σ H R = te σ H fun x H1 => ∃ y, x = .str y ∧ R (Its y) H1 := rfl
theorem iRng1_at (ta : TA) : iRng1 ta σ H R = ta σ H fun vs H1 => ∃ j : Int, vs = [.int j] ∧ -(2 ^ 62) ≤ j ∧ j < 2 ^ 62 ∧ R (Itr 0 j.toNat) H1 := rfl
theorem rI0_at (g : Int → Int → V) (i j : Int) : rI0 g (.int i) (.int j) H Q = Q (g i j) H := propext ⟨fun ⟨_, _, e1, e2, q⟩ => by cases e1; cases e2; exact q, fun q => ⟨i, j, rfl, rfl, q⟩⟩
theorem rI_at (C : Int → Int → Prop) (g : Int → Int → V) (i j : Int) : rI C g (.int i) (.int j) H Q = (C i j ∧ Q (g i j) H) := propext ⟨fun ⟨_, _, e1, e2, q⟩ => by cases e1; cases e2; exact q, fun q => ⟨i, j, rfl, rfl, q⟩⟩
end

/-! ### a def of the text that may be called; a name that the module binds -/
structure DefAt (K : PySem.W.Frag) (mg : Str → Option Value) (x : Str) (st : Stmt) : Prop where
  ex : ∃ f fd, Fun K x x st f fd ∧ mg x = some (.ref f)
structure Cal (P : Program) (w : World) (K : PySem.W.Frag) (mg : Str → Option Value) (base : Heap) (k : Nat) (x : Str) (ps : List Str) (sp : Sp) : Prop where
  ex : ∃ f fd, FnOk P w K mg base CX0 k f fd ps sp ∧ Binds K fd ps [] ∧ PySem.W.keepIn K (.ref f) = true ∧ mg x = some (.ref f)
section
variable {P : Program} {w : World} {K : PySem.W.Frag} {mg : Str → Option Value} {base : Heap}
theorem DefAt.cal {x : Str} {st : Stmt} {N ps : List Str} {k : Nat} {sp : Sp} (D : DefAt K mg x st) (S : FnScope N ps (defScope st))
    (hb : ∀ (kV doc pm : Value) (an : Option Addr) (cdv ct : Value) (us : List Value), us.length = ps.length → bindArgs (PySem.W.fnOf x x (defArgs st) (defBody st) (defScope st) .none kV doc pm an cdv ct) ⟨us, []⟩ = pure (ps.zip us))
    (len : ∀ vs H Q E, sp vs H Q E → vs.length = ps.length)
    (hbody : ∀ (f : Addr) (cdv : Value) (A : Around) (outer : List Env) (s : Shared) (H : Hp) (vs : List V) (Q : VK) (E : XK), Room k (A.deeper (envOfC x (defScope st) s.heap.objs.size f cdv)) → sp vs H Q E →
      ∃ t, PSs (cxOf CX0 P w K mg base N x (defScope st) f cdv A outer s H E).nox (defBody st) t ∧ t { nx := fun _ H' => Q .non H', rt := Q } (start N vs) H) : Cal P w K mg base (k + 1) x ps sp := by
  obtain ⟨f, fd, F, m⟩ := D.ex
  exact ⟨f, fd, F.ok S len fun cdv A outer s H vs Q E hr h => hbody f cdv A outer s H vs Q E hr h, F.binds hb, F.kp, m⟩
end
section
variable {X : Cx}
theorem pe_cal {j k : Nat} {x : Str} {ps : List Str} {sp : Sp} {p pos : Pos} {e : Expr} {es : List Expr} {t : TA} (c : Cal X.prog X.w X.K X.mg X.base j x ps sp) (hr : Room k X.A) (ha : PA X (e :: es) t) (hle : j ≤ k := by decide) (hg : Gl X x := by rfl)
    (hdb : (x == ("__debug__" : Str)) = false := by decide) (he : starEach (e :: es) X.env = (false, eval e X.env) :: starEach es X.env := by rfl) (hpl : (backTo pos (starEach es X.env)).any (·.1) = false := by rfl) :
    PE X (.Call (.Name x p) (e :: es) [] pos) (tCall sp [] E0 t) := by
  obtain ⟨f, fd, F, b, kp, m⟩ := c.ex
  exact pe_call F (hr.mono hle) hg m kp b .nil pass0 ha hdb he hpl
theorem pe_gstr {x : Str} {y : Str} {pos : Pos} (h : ∃ t, X.mg x = some (.str y t)) (hg : Gl X x := by rfl) (hd : (x == ("__debug__" : Str)) = false := by decide) : PE X (.Name x pos) (tC (.str y)) := by
  obtain ⟨t, h⟩ := h
  exact pe_glob hg h ⟨t, rfl⟩ hd
theorem pe_gint {x : Str} {i : Int} {pos : Pos} (h : ∃ t, X.mg x = some (.int i t)) (hg : Gl X x := by rfl) (hd : (x == ("__debug__" : Str)) = false := by decide) : PE X (.Name x pos) (tC (.int i)) := by
  obtain ⟨t, h⟩ := h
  exact pe_glob hg h ⟨t, rfl⟩ hd
/-- a built-in type's name as a value -/
theorem pe_gty {x : Str} {T : String} {pos : Pos} (hm : X.mg x = none) (hv : bootBuiltins x = some (.type T)) (hg : Gl X x := by rfl) (hn : x ≠ "__name__" := by decide) (hd : (x == ("__debug__" : Str)) = false := by decide) : PE X (.Name x pos) (tC (.ty T)) :=
  pe_bltn hg hm hv rfl hn hd
/-- a call of a built-in -/
theorem pe_blt {x : Str} {p pos : Pos} {e : Expr} {es : List Expr} {t : TA} {id : String} {r : List V → Hp → VK → Prop} (hc : CallR X (.builtin id) r) (hm : X.mg x = none) (hv : bootBuiltins x = some (.builtin id)) (ha : PA X (e :: es) t) (hg : Gl X x := by rfl)
    (hn : x ≠ "__name__" := by decide) (hdb : (x == ("__debug__" : Str)) = false := by decide) (he : starEach (e :: es) X.env = (false, eval e X.env) :: starEach es X.env := by rfl) (hpl : (backTo pos (starEach es X.env)).any (·.1) = false := by rfl) :
    PE X (.Call (.Name x p) (e :: es) [] pos) (tCB r t) := pe_callB hc hg hm hv ha hn hdb he hpl
theorem pe_bty {x : Str} {p pos : Pos} {e : Expr} {es : List Expr} {t : TA} {T : String} {r : List V → Hp → VK → Prop} (hc : CallR X (.type T) r) (hm : X.mg x = none) (hv : bootBuiltins x = some (.type T)) (ha : PA X (e :: es) t) (hg : Gl X x := by rfl)
    (hn : x ≠ "__name__" := by decide) (hdb : (x == ("__debug__" : Str)) = false := by decide) (he : starEach (e :: es) X.env = (false, eval e X.env) :: starEach es X.env := by rfl) (hpl : (backTo pos (starEach es X.env)).any (·.1) = false := by rfl) :
    PE X (.Call (.Name x p) (e :: es) [] pos) (tCB r t) := pe_callTy hc hg hm hv ha hn hdb he hpl
end

/-! ### operations by the values' kinds -/
section
variable {X : Cx}
def rAddA : R2 := fun x y H Q => match x, y with
  | .int i, .int j => Q (.int (i + j)) H
  | .str a, .str b => a.length + b.length ≤ sizeLine ∧ Q (.str (a ++ b)) H
  | .ref l, .ref b => ∃ xs zs, H l = some (.lst xs) ∧ H b = some (.lst zs) ∧ xs.length + zs.length ≤ sizeLine ∧ ∀ p, H p = none → Q (.ref p) (upd H p (.lst (xs ++ zs)))
  | _, _ => False
theorem op_addA : OpR X (binaryOp .Add) rAddA := by
  intro pins s σ H x y v u Q I rx ry h
  cases x <;> cases y <;> first
    | exact (show False from h).elim
    | exact op_add pins s σ H _ _ v u Q I rx ry ⟨_, _, rfl, rfl, h⟩
    | exact op_add_str pins s σ H _ _ v u Q I rx ry ⟨_, _, rfl, rfl, h⟩
    | (obtain ⟨xs, zs, h1, h2, h3, h4⟩ := h; exact op_cat pins s σ H _ _ v u Q I rx ry ⟨_, _, xs, zs, rfl, rfl, h1, h2, h3, h4⟩)
def rLtA : R2 := fun x y H Q => match x, y with
  | .int i, .int j => Q (.bl (decide (i < j))) H
  | .str i, .str j => Q (.bl (decide (i.cps.toList < j.cps.toList))) H
  | _, _ => False
theorem op_ltA : OpR X (compareOp .Lt) rLtA := by
  intro pins s σ H x y v u Q I rx ry h
  cases x <;> cases y <;> first
    | exact (show False from h).elim
    | exact op_lt pins s σ H _ _ v u Q I rx ry ⟨_, _, rfl, rfl, h⟩
    | exact op_lt_str pins s σ H _ _ v u Q I rx ry ⟨_, _, rfl, rfl, h⟩
def rInA (K : PySem.W.Frag) : R2 := fun x y H Q => match x, y with
  | .str i, .str j => Q (.bl (!(Builtin.Str.occurrences j i 0 j.length 1).isEmpty)) H
  | x, .ref p => ∃ xs, (SqL K H p xs ∨ SqT K H p xs) ∧ flatV x = true ∧ xs.all flatV = true ∧ Q (.bl (inV x xs)) H
  | _, _ => False
theorem op_inA : OpR X (compareOp .In) (rInA X.K) := by
  intro pins s σ H x y v u Q I rx ry h
  cases y with
  | str j =>
    cases x with
    | str i => exact op_in_str pins s σ H _ _ v u Q I rx ry ⟨i, j, rfl, rfl, h⟩
    | _ => exact (show False from h).elim
  | ref p =>
    have h' : ∃ xs, (SqL X.K H p xs ∨ SqT X.K H p xs) ∧ flatV x = true ∧ xs.all flatV = true ∧ Q (.bl (inV x xs)) H := by cases x <;> exact h
    obtain ⟨xs, h1, h2, h3, h4⟩ := h'
    exact op_in_seq pins s σ H _ _ v u Q I rx ry ⟨p, xs, rfl, h1, h2, h3, h4⟩
  | _ => cases x <;> exact (show False from h).elim
def rLenA (K : PySem.W.Frag) : List V → Hp → VK → Prop := fun xs H Q => match xs with
  | [.str z] => z.length ≤ sizeLine ∧ Q (.int z.length) H
  | [.ref p] => ∃ ys, (SqL K H p ys ∨ SqT K H p ys) ∧ Q (.int ys.length) H
  | _ => False
theorem call_lenA : CallR X (.builtin "len") (rLenA X.K) := by
  intro pins s σ H xs us Q I r h
  match xs, h with
  | [.str z], h => exact call_len_str pins s σ H _ us Q I r ⟨z, rfl, h⟩
  | [.ref p], h => obtain ⟨ys, h1, h2⟩ := h; exact call_len_seq pins s σ H _ us Q I r ⟨p, ys, rfl, h1, h2⟩
/-- a[b], a a list, a tuple or a text -/
def rIxA (K : PySem.W.Frag) : R2 := fun x y H Q => match x, y with
  | .ref p, .int i => ∃ xs v, (SqL K H p xs ∨ SqT K H p xs) ∧ atI xs i = some v ∧ Q v H
  | .str z, .int i => ∃ c, z.length ≤ sizeLine ∧ atI z.cps.toList i = some c ∧ Q (.str ⟨#[c]⟩) H
  | _, _ => False
theorem ix_A : IxR X (rIxA X.K) := by
  intro value slice pins s σ H x y v u Q I rx ry h hs
  refine ix_seq value slice pins s σ H x y v u Q I rx ry ?_ hs
  match x, y, h with
  | .ref p, .int i, h =>
    obtain ⟨xs, v', h1, h2, h3⟩ := h
    rcases h1 with h1 | h1
    · exact .inl ⟨p, xs, i, v', rfl, rfl, h1, h2, h3⟩
    · exact .inr (.inl ⟨p, xs, i, v', rfl, rfl, h1, h2, h3⟩)
  | .str z, .int i, h =>
    obtain ⟨c, h1, h2, h3⟩ := h
    exact .inr (.inr ⟨z, i, c, rfl, rfl, h1, h2, h3⟩)
end
section
variable {K : PySem.W.Frag} {H : Hp} {Q : VK}
theorem rAddA_int (i j : Int) : rAddA (.int i) (.int j) H Q = Q (.int (i + j)) H := rfl
theorem rAddA_str (a b : Str) : rAddA (.str a) (.str b) H Q = (a.length + b.length ≤ sizeLine ∧ Q (.str (a ++ b)) H) := rfl
theorem rAddA_ref (l b : Addr) : rAddA (.ref l) (.ref b) H Q = ∃ xs zs, H l = some (.lst xs) ∧ H b = some (.lst zs) ∧ xs.length + zs.length ≤ sizeLine ∧ ∀ p, H p = none → Q (.ref p) (upd H p (.lst (xs ++ zs))) := rfl
theorem rLtA_int (i j : Int) : rLtA (.int i) (.int j) H Q = Q (.bl (decide (i < j))) H := rfl
theorem rLtA_str (i j : Str) : rLtA (.str i) (.str j) H Q = Q (.bl (decide (i.cps.toList < j.cps.toList))) H := rfl
theorem rInA_str (i j : Str) : rInA K (.str i) (.str j) H Q = Q (.bl (!(Builtin.Str.occurrences j i 0 j.length 1).isEmpty)) H := rfl
theorem rInA_ref (x : V) (p : Addr) : rInA K x (.ref p) H Q = ∃ xs, (SqL K H p xs ∨ SqT K H p xs) ∧ flatV x = true ∧ xs.all flatV = true ∧ Q (.bl (inV x xs)) H := by cases x <;> rfl
theorem rLenA_str (z : Str) : rLenA K [.str z] H Q = (z.length ≤ sizeLine ∧ Q (.int z.length) H) := rfl
theorem rLenA_ref (p : Addr) : rLenA K [.ref p] H Q = ∃ ys, (SqL K H p ys ∨ SqT K H p ys) ∧ Q (.int ys.length) H := rfl
theorem rIxA_ref (p : Addr) (i : Int) : rIxA K (.ref p) (.int i) H Q = ∃ xs v, (SqL K H p xs ∨ SqT K H p xs) ∧ atI xs i = some v ∧ Q v H := rfl
theorem rIxA_str (z : Str) (i : Int) : rIxA K (.str z) (.int i) H Q = ∃ c, z.length ≤ sizeLine ∧ atI z.cps.toList i = some c ∧ Q (.str ⟨#[c]⟩) H := rfl
theorem rAppend_at (p : Addr) (y : V) : rAppend (.ref p) [y] H Q = ∃ xs, H p = some (.lst xs) ∧ xs.length < sizeLine ∧ Q .non (upd H p (.lst (xs ++ [y]))) :=
  propext ⟨fun ⟨_, xs, _, e1, e2, q⟩ => by cases e1; cases e2; exact ⟨xs, q⟩, fun ⟨xs, q⟩ => ⟨p, xs, y, rfl, rfl, q⟩⟩
theorem rJoin_at (sep : Str) (p : Addr) : rJoin K (.str sep) [.ref p] H Q = ∃ ss, SqL K H p (ss.map V.str) ∧ (ss.map (·.length)).sum + ss.length * sep.length ≤ 16777216 ∧ Q (.str (Txt.join sep ss)) H :=
  propext ⟨fun ⟨_, _, ss, e1, e2, q⟩ => by cases e1; cases e2; exact ⟨ss, q⟩, fun ⟨ss, q⟩ => ⟨sep, p, ss, rfl, rfl, q⟩⟩
theorem tyV_str (y : Str) : tyV K "str" (.str y) H = True := eq_true rfl
theorem tyV_lst (p : Addr) : (tyV K "list" (.ref p) H) = ∃ xs, SqL K H p xs := by
  refine propext ⟨fun h => ?_, fun h => .inl ⟨rfl, h⟩⟩
  rcases h with ⟨_, h⟩ | ⟨h, _⟩ | ⟨h, _⟩ | ⟨h, _⟩
  · exact h
  · exact absurd h (by decide)
  · exact absurd h (by decide)
  · exact absurd h (by decide)
end
theorem bt_len : bootBuiltins "len" = some (.builtin "len") := by decide +kernel
theorem bt_isinstance : bootBuiltins "isinstance" = some (.builtin "isinstance") := by decide +kernel
theorem bt_all : bootBuiltins "all" = some (.builtin "all") := by decide +kernel
theorem bt_str : bootBuiltins "str" = some (.type "str") := by decide +kernel
theorem bt_int : bootBuiltins "int" = some (.type "int") := by decide +kernel
theorem bt_bool : bootBuiltins "bool" = some (.type "bool") := by decide +kernel
theorem bt_list : bootBuiltins "list" = some (.type "list") := by decide +kernel
theorem bt_tuple : bootBuiltins "tuple" = some (.type "tuple") := by decide +kernel
/-- name = value -/
theorem ps_let {X : Cx} (i : Nat) {x : Str} {e : Expr} {te : TE} {pos pos' : Pos} (hN : X.N.Nodup) (he : PE X e te) (hi : X.N[i]? = some x := by rfl) (hx : Loc X.env.scope x := by first | exact Or.inl rfl | exact Or.inr rfl) (hs : swapsWith e (some (.Name x pos')) pos.line X.env = pure false := by rfl)
    (hf : X.fn x = true ∨ X.env.scope.names.lookup x = some .local := by first | exact .inl rfl | exact .inr rfl | assumption) : PS X (.Assign [.Name x pos'] e pos) (tAsg te (gName i)) := ps_set hN hi hx he hs hf
theorem pg_let {X : Cx} (i : Nat) {x : Str} {pos : Pos} (hN : X.N.Nodup) (hi : X.N[i]? = some x := by rfl) (hx : Loc X.env.scope x := by first | exact Or.inl rfl | exact Or.inr rfl)
    (hf : X.fn x = true ∨ X.env.scope.names.lookup x = some .local := by first | exact .inl rfl | exact .inr rfl | assumption) : PG X (.Name x pos) (gName i) := pg_name hN hi hx hf
/-- what the scope of a block must be, by closed parts -/
structure CompSc (fsc : Scope) (N N0 T : List Str) (scope : Scope) : Prop where
  kind : scope.kind = .function
  nocell : ∀ y ∈ scope.names, y.2 ≠ .cell
  names : ∀ y ∈ scope.names, y.2 = .local → scope.names.lookup y.1 = some .local
  free : ∀ y ∈ scope.names, y.2 = .free → fsc.names.lookup y.1 = some .cell ∨ fsc.names.lookup y.1 = some .free
  apart : ∀ y ∈ scope.names, y.2 = .local → y.1 ∉ N0
  len0 : N0.length = N.length
  same : ((N0.zip N).all fun p => p.1 == p.2 || !(scope.names.any fun y => y.1 == p.1)) = true
theorem CompSc.to {X : Cx} {fsc : Scope} {N N0 T : List Str} {scope : Scope} (S : CompSc fsc N N0 T scope) (h1 : X.env.scope = fsc) (h2 : X.N = N) : CompScope X N0 T scope := by
  subst h1 h2
  refine ⟨S.kind, S.nocell, S.names, S.free, S.apart, S.len0, fun i x k e m => ?_⟩
  have hl := S.len0
  have hi : i < N0.length := (List.getElem?_eq_some_iff.mp e).1
  have hN : X.N[i]? = some X.N[i] := List.getElem?_eq_getElem (by omega)
  have hz : (x, X.N[i]) ∈ N0.zip X.N := List.mem_of_getElem? (i := i) (by rw [List.getElem?_zip_eq_some]; exact ⟨e, hN⟩)
  have q := List.all_eq_true.mp S.same _ hz
  simp only [Bool.or_eq_true, beq_iff_eq, Bool.not_eq_true'] at q
  rcases q with q | q
  · rw [hN, ← q]
  · have : (scope.names.any fun y => y.1 == x) = true := List.any_eq_true.mpr ⟨_, m, by simp⟩
    rw [this] at q; cases q
/-! ### == of scalars (deep: elsewhere) -/
def rEqA : R2 := rEq
def rNeA : R2 := rNe
theorem op_eqA {X : Cx} : OpR X (compareOp .Eq) rEqA := op_eq
theorem op_neA {X : Cx} : OpR X (compareOp .NotEq) rNeA := op_ne
section
variable {K : PySem.W.Frag} {H : Hp} {Q : VK}
theorem rEqA_int (i j : Int) : rEqA (.int i) (.int j) H Q = Q (.bl (decide (i = j))) H := by
  have e : decide (V.int i = V.int j) = decide (i = j) := by by_cases h : i = j <;> simp [h]
  show (scal (.int i) (.int j) = true ∧ Q (.bl (decide (V.int i = V.int j))) H) = _
  rw [e]; exact propext ⟨fun h => h.2, fun h => ⟨rfl, h⟩⟩
theorem rEqA_bl (i j : Bool) : rEqA (.bl i) (.bl j) H Q = Q (.bl (i == j)) H := by
  show (scal (.bl i) (.bl j) = true ∧ Q (.bl (decide (V.bl i = V.bl j))) H) = _
  rw [dec_bl]; exact propext ⟨fun h => h.2, fun h => ⟨rfl, h⟩⟩
theorem rEqA_str (i j : Str) : rEqA (.str i) (.str j) H Q = Q (.bl (decide (i = j))) H := by
  have e : decide (V.str i = V.str j) = decide (i = j) := by by_cases h : i = j <;> simp [h]
  show (scal (.str i) (.str j) = true ∧ Q (.bl (decide (V.str i = V.str j))) H) = _
  rw [e]; exact propext ⟨fun h => h.2, fun h => ⟨rfl, h⟩⟩
theorem rNeA_int (i j : Int) : rNeA (.int i) (.int j) H Q = Q (.bl (!decide (i = j))) H := by
  have e : decide (V.int i = V.int j) = decide (i = j) := by by_cases h : i = j <;> simp [h]
  show (scal (.int i) (.int j) = true ∧ Q (.bl (!decide (V.int i = V.int j))) H) = _
  rw [e]; exact propext ⟨fun h => h.2, fun h => ⟨rfl, h⟩⟩
theorem rNeA_str (i j : Str) : rNeA (.str i) (.str j) H Q = Q (.bl (!decide (i = j))) H := by
  have e : decide (V.str i = V.str j) = decide (i = j) := by by_cases h : i = j <;> simp [h]
  show (scal (.str i) (.str j) = true ∧ Q (.bl (!decide (V.str i = V.str j))) H) = _
  rw [e]; exact propext ⟨fun h => h.2, fun h => ⟨rfl, h⟩⟩
end
/-! ### the same rules with the text's part K named (inside a comprehension the context is a letter) -/
section
variable {X : Cx} (K : PySem.W.Frag)
theorem op_inK (hK : X.K = K := by rfl) : OpR X (compareOp .In) (rInA K) := hK ▸ op_inA
theorem call_lenK (hK : X.K = K := by rfl) : CallR X (.builtin "len") (rLenA K) := hK ▸ call_lenA
theorem ix_K (hK : X.K = K := by rfl) : IxR X (rIxA K) := hK ▸ ix_A
theorem call_allK (hK : X.K = K := by rfl) (hc : X.calm = true := by rfl) : CallR X (.builtin "all") (rAll K) := hK ▸ call_allL hc
theorem mt_joinK (hK : X.K = K := by rfl) : MtR X "str.join" (rJoin K) := hK ▸ mt_join
theorem sl_listK (hK : X.K = K := by rfl) : SlR X (rSlL K) := hK ▸ sl_list
theorem pi_listK {tg l : Expr} {tl : TE} (hl : PE X l tl) (hK : X.K = K := by rfl) : PI X tg l (iList K tl) := hK ▸ pi_list hl
theorem pg_tupK {es : List Expr} {k n : Nat} {t : TGs} {pos : Pos} (h : PGs X es t) (hn : (assignEach es X.env).length = n := by rfl) (hst : (assignEach es X.env).findIdx? (·.1) = none := by rfl) (hK : X.K = K := by rfl) (hc : X.calm = true := by rfl) : PG X (.Tuple es k pos) (gTup K n t) := hK ▸ pg_tup hc h hn hst
theorem pe_bmK {o e : Expr} {es : List Expr} {to : TE} {t : TA} {name : Str} {apos cpos : Pos} {T id : String} {r : V → List V → Hp → VK → Prop} (pa : PlainAttrs T) (slot : Slot T name id) (hty : typeOf (.builtin id) = pure (.type "method_descriptor")) (hm : MtR X id r) (ho : PE X o to) (ha : PA X (e :: es) t)
    (hbase : attributeBase o name X.env (eval o X.env) = eval o X.env := by rfl)
    (hfew : ((backTo cpos (starEach (e :: es) X.env)).all (fun x => !x.1) && (backToKw cpos (keywordEach [] X.env)).all (fun x => x.1.isSome) && decide ((e :: es).length + ([] : List Keyword).length + (if ([] : List Keyword).isEmpty then 0 else 1) < 30)) = true := by rfl)
    (hline : (apos.endLine == cpos.line) = true := by rfl) (hs : starEach (e :: es) X.env = (false, eval e X.env) :: starEach es X.env := by rfl) (hplain : (backTo cpos (starEach es X.env)).any (·.1) = false := by rfl) (hK : X.K = K := by rfl) :
    PE X (.Call (.Attribute o name apos) (e :: es) [] cpos) (tBM K T r to t) := hK ▸ pe_bm pa slot hty hm ho ha hbase hfew hline hs hplain
theorem call_tupleK (hK : X.K = K := by rfl) : CallR X (.type "tuple") (fun xs H Q => ∃ p ys, xs = [.ref p] ∧ ((SqL K H p ys ∧ ∀ l, H l = none → Q (.ref l) (upd H l (.tup ys))) ∨ (SqT K H p ys ∧ Q (.ref p) H))) := hK ▸ call_tuple_of
end
theorem ex_one (n : Int) (P : Int → Prop) : (∃ j, [V.int n] = [V.int j] ∧ P j) = P n := propext ⟨fun ⟨_, e, h⟩ => by cases e; exact h, fun h => ⟨n, rfl, h⟩⟩
theorem ex_two (n m : Int) (P : Int → Int → Prop) : (∃ i j, [V.int n, V.int m] = [V.int i, V.int j] ∧ P i j) = P n m := propext ⟨fun ⟨_, _, e, h⟩ => by cases e; exact h, fun h => ⟨n, m, rfl, h⟩⟩
theorem ex_cons (x : V) (xs : List V) (P : V → List V → Prop) : (∃ v r, x :: xs = v :: r ∧ P v r) = P x xs := propext ⟨fun ⟨_, _, e, h⟩ => by cases e; exact h, fun h => ⟨x, xs, rfl, h⟩⟩
theorem ex_nil (P : Prop) : (([] : List V) = [] ∧ P) = P := propext ⟨fun h => h.2, fun h => ⟨rfl, h⟩⟩
/-! ### names of a block, by closed parts -/
def relabelS (scope fsc : Scope) : Scope := { scope with names := scope.names.map fun (n, k) => if (k == .free && fsc.kind == .function && fsc.names.lookup n == some .cell) then (n, .cell) else (n, k) }
section
variable {X : Cx} {N0 T : List Str} {scope : Scope} {C : Addr} {fp : List Addr} {s : Shared} {H : Hp} {x : Str}
theorem glC (fsc : Scope) (h : (relabelS scope fsc).names.lookup x = some .globalImplicit) (e : X.env.scope = fsc := by rfl) : Gl (cxComp X N0 T scope C fp s H) x := by subst e; exact h
theorem visC (fsc : Scope) (h : ((relabelS scope fsc).names.lookup x = some .local || (relabelS scope fsc).names.lookup x = some .cell || (relabelS scope fsc).names.lookup x = some .free) = true) (e : X.env.scope = fsc := by rfl) : Vis (cxComp X N0 T scope C fp s H).env.scope x := by
  subst e
  simp only [Bool.or_eq_true, decide_eq_true_eq] at h
  rcases h with (h | h) | h
  · exact .inl h
  · exact .inr (.inl h)
  · exact .inr (.inr h)
theorem locC (fsc : Scope) (h : (relabelS scope fsc).names.lookup x = some .local) (e : X.env.scope = fsc := by rfl) : Loc (cxComp X N0 T scope C fp s H).env.scope x := by subst e; exact .inl h
theorem fnC (fsc : Scope) (h : (relabelS scope fsc).names.lookup x = some .local) (e : X.env.scope = fsc := by rfl) : (cxComp X N0 T scope C fp s H).fn x = true ∨ (cxComp X N0 T scope C fp s H).env.scope.names.lookup x = some .local := by subst e; exact .inr h
end
theorem mt_appendA {X : Cx} : MtR X "list.append" rAppend := mt_append
theorem PW.pt' {X : Cx} {e : Expr} {t : TT} (h : PW X e t) : PT X e t := h.pt
/-- a block by what holds between two of its statements -/
theorem seq_by {t u : TS} {D : Ends} {σ : St} {H : Hp} (I : St → Hp → Prop) (h : ∀ k : St → Hp → Prop, (∀ σ' H', I σ' H' → k σ' H') → t { D with nx := k } σ H) (hu : ∀ σ' H', I σ' H' → Rest u D σ' H') : Rest (tSeq t u) D σ H := h _ hu
theorem tPairs_nil {σ : St} {H : Hp} {Q : List (V × V) → Hp → Prop} : tPairs [] σ H Q = Q [] H := rfl
theorem tPairs_cons {σ : St} {H : Hp} {Q : List (V × V) → Hp → Prop} (tk tv : TE) (r : List (TE × TE)) : tPairs ((tk, tv) :: r) σ H Q = tk σ H fun x H1 => tv σ H1 fun y H2 => tPairs r σ H2 fun ps H3 => Q ((x, y) :: ps) H3 := rfl
theorem Same.upd {H H' : Hp} {p : Addr} (sm : Same H H') (h : H p = none) (o : HO) : Same H (upd H' p o) := fun b u q => by rw [upd_ne (ne_of_none q h)]; exact sm b u q
theorem same_new {H : Hp} {p : Addr} (h : H p = none) (o : HO) : Same H (upd H p o) := fun b u q => by rw [upd_ne (ne_of_none q h)]; exact q
end L2

set_option Elab.async false
set_option linter.all false
set_option maxRecDepth 100000
namespace L2
open PySem PySem.Spec PyProof.Rows PySem.SeqAt

/-! ### == of lists and tuples, as deep as n -/
def EqN (K : PySem.W.Frag) (H : Hp) : Nat → V → V → Bool → Prop
  | 0, x, y, b => flatV x = true ∧ flatV y = true ∧ b = eqV x y
  | n + 1, x, y, b => (flatV x = true ∧ flatV y = true ∧ b = eqV x y) ∨ ∃ a c xs ys, x = .ref a ∧ y = .ref c ∧ ((SqL K H a xs ∧ SqL K H c ys) ∨ (SqT K H a xs ∧ SqT K H c ys)) ∧
      ((∃ e : Nat → Bool, xs.length = ys.length ∧ (∀ (i : Nat) x y, xs[i]? = some x → ys[i]? = some y → EqN K H n x y (e i)) ∧ b = (List.range xs.length).all e) ∨
        (SqL K H a xs ∧ SqL K H c ys ∧ xs.length ≠ ys.length ∧ b = false))
theorem eqV_self : ∀ {x : V}, flatV x = true → eqV x x = true
  | .non, _ => rfl
  | .bl b, _ => by simp [eqV]
  | .int i, _ => by simp [eqV]
  | .str y, _ => by simp [eqV]
section
variable {X : Cx} {pins : List (Addr × Obj)} {σ : St} {H : Hp} {s : Shared}
theorem EqN.self (I : Inv X pins σ H s) : ∀ {n : Nat} {x : V} {b : Bool}, EqN X.K H n x x b → b = true
  | 0, x, b, h => by obtain ⟨h1, _, rfl⟩ := h; exact eqV_self h1
  | n + 1, x, b, h => by
    rcases h with ⟨h1, _, rfl⟩ | ⟨a, c, xs, ys, rfl, e, hq, h⟩
    · exact eqV_self h1
    · cases e
      have exy : xs = ys := by
        rcases hq with ⟨q1, q2⟩ | ⟨q1, q2⟩
        · exact I.list_inj q1 q2
        · exact I.tuple_inj q1 q2
      subst exy
      rcases h with ⟨e, _, he, rfl⟩ | ⟨_, _, z, _⟩
      · rw [List.all_eq_true]
        intro i hi
        have hi' := List.mem_range.mp hi
        have q := he i xs[i] xs[i] (List.getElem?_eq_getElem hi') (List.getElem?_eq_getElem hi')
        exact EqN.self I q
      · exact absurd rfl z
theorem EqN.rc (I : Inv X pins σ H s) {n : Nat} (ih : ∀ {A : Around} {x y : V} {b : Bool} {u v : Value}, A.units + n < cLine → EqN X.K H n x y b → RelV x u → RelV y v → EqAt A s u v b)
    {A : Around} {a c : Addr} {xs ys : List V} {b : Bool} (hu : A.units + (n + 1) < cLine) (hq : (SqL X.K H a xs ∧ SqL X.K H c ys) ∨ (SqT X.K H a xs ∧ SqT X.K H c ys))
    (h : (∃ e : Nat → Bool, xs.length = ys.length ∧ (∀ (i : Nat) x y, xs[i]? = some x → ys[i]? = some y → EqN X.K H n x y (e i)) ∧ b = (List.range xs.length).all e) ∨ (SqL X.K H a xs ∧ SqL X.K H c ys ∧ xs.length ≠ ys.length ∧ b = false)) :
    RcAt A s (.ref a) (.ref c) b ∧ RcNeAt A s (.ref a) (.ref c) (!b) := by
  have hin : A.in1.units + n < cLine := by
    have : A.in1.units = A.units + 1 := rfl
    omega
  rcases h with ⟨e, hl, he, rfl⟩ | ⟨q1, q2, hl, rfl⟩
  · rcases hq with ⟨q1, q2⟩ | ⟨q1, q2⟩
    · obtain ⟨i1, r1, p1, z1⟩ := I.list q1
      obtain ⟨i2, r2, p2, z2⟩ := I.list q2
      have l1 := r1.length
      have l2 := r2.length
      have hit : ∀ j (h1 : j < i1.toArray.size) (h2 : j < i2.toArray.size), EqAt A.in1 s i1.toArray[j] i2.toArray[j] (e j) := fun j h1 h2 => by
        obtain ⟨x, hx, rx⟩ := r1.of (i := j) (u := i1.toArray[j]) (by simp at h1 ⊢)
        obtain ⟨y, hy, ry⟩ := r2.of (i := j) (u := i2.toArray[j]) (by simp at h2 ⊢)
        exact ih hin (he j x y hx hy) rx ry
      have ez : xs.length = i1.toArray.size := by simp; omega
      rw [ez]
      exact ⟨RcAt.lists p1.isList p2.isList (by simp; omega) (by omega) hit, RcNeAt.lists p1.isList p2.isList (by simp; omega) (by omega) hit⟩
    · obtain ⟨i1, r1, p1, z1⟩ := I.tuple q1
      obtain ⟨i2, r2, p2, z2⟩ := I.tuple q2
      have l1 := r1.length
      have l2 := r2.length
      have hit : ∀ j (h1 : j < i1.toArray.size) (h2 : j < i2.toArray.size), EqAt A.in1 s i1.toArray[j] i2.toArray[j] (e j) := fun j h1 h2 => by
        obtain ⟨x, hx, rx⟩ := r1.of (i := j) (u := i1.toArray[j]) (by simp at h1 ⊢)
        obtain ⟨y, hy, ry⟩ := r2.of (i := j) (u := i2.toArray[j]) (by simp at h2 ⊢)
        exact ih hin (he j x y hx hy) rx ry
      have ez : (List.range xs.length).all e = ((List.range (min i1.toArray.size i2.toArray.size)).all e && i1.toArray.size == i2.toArray.size) := by
        have e1 : i1.toArray.size = xs.length := by simp; omega
        have e2 : i2.toArray.size = xs.length := by simp; omega
        rw [e1, e2, Nat.min_self]; simp
      rw [ez]
      exact ⟨RcAt.tuples (show s.heap.IsTuple a i1.toArray from p1) (show s.heap.IsTuple c i2.toArray from p2) (by omega) hit, RcNeAt.tuples (show s.heap.IsTuple a i1.toArray from p1) (show s.heap.IsTuple c i2.toArray from p2) (by omega) hit⟩
  · obtain ⟨i1, r1, p1, z1⟩ := I.list q1
    obtain ⟨i2, r2, p2, z2⟩ := I.list q2
    have l1 := r1.length
    have l2 := r2.length
    have hne : (i1.toArray.size != i2.toArray.size) = true := by
      rw [bne_iff_ne]; simp; omega
    exact ⟨RcAt.lists_lengths p1.isList p2.isList hne (by omega), RcNeAt.lists_lengths p1.isList p2.isList hne (by omega)⟩
theorem EqN.at (I : Inv X pins σ H s) : ∀ {n : Nat} {A : Around} {x y : V} {b : Bool} {u v : Value}, A.units + n < cLine → EqN X.K H n x y b → RelV x u → RelV y v → EqAt A s u v b
  | 0, A, x, y, b, u, v, _, h, rx, ry => by obtain ⟨h1, h2, rfl⟩ := h; exact eqAt_V rx ry h1 h2
  | n + 1, A, x, y, b, u, v, hu, h, rx, ry => by
    have h0 := h
    rcases h with ⟨h1, h2, rfl⟩ | ⟨a, c, xs, ys, rfl, rfl, hq, h⟩
    · exact eqAt_V rx ry h1 h2
    · cases rx
      cases ry
      by_cases hac : a = c
      · subst hac
        rw [EqN.self I h0]
        exact EqAt.same _
      · exact EqAt.of_refs hac (EqN.rc I (fun hu' q rx ry => EqN.at I hu' q rx ry) hu hq h).1
end
section
variable {X : Cx}
def rNeD (K : PySem.W.Frag) : R2 := fun x y H Q => ∃ (a c : Addr) (n : Nat) (b : Bool), x = .ref a ∧ y = .ref c ∧ n ≤ 100 ∧ EqN K H (n + 1) x y b ∧ Q (.bl (!b)) H
theorem op_neD (hu : X.A.units + 101 < cLine) : OpR X (compareOp .NotEq) (rNeD X.K) := by
  intro pins s σ H x y v u Q I rx ry h
  obtain ⟨a, c, n, b, rfl, rfl, hn, he, q⟩ := h
  cases rx
  cases ry
  rcases he with ⟨h1, _⟩ | ⟨a', c', xs, ys, e1, e2, hq, h⟩
  · cases h1
  · cases e1
    cases e2
    exact (EqN.rc I (fun hu' q rx ry => EqN.at I hu' q rx ry) (by omega) hq h).2 _ _ _ _ ⟨.bl (!b), H, I, rfl, q⟩
theorem op_neKD (K : PySem.W.Frag) {k : Nat} (hr : Room k X.A) (hK : X.K = K := by rfl) : OpR X (compareOp .NotEq) (rNeD K) := by subst hK; exact op_neD (by have := hr.un; omega)
end
section
variable {K : PySem.W.Frag} {H : Hp} {Q : VK}
theorem rNeD_at (a c : Addr) : rNeD K (.ref a) (.ref c) H Q = ∃ (n : Nat) (b : Bool), n ≤ 100 ∧ EqN K H (n + 1) (.ref a) (.ref c) b ∧ Q (.bl (!b)) H :=
  propext ⟨fun ⟨_, _, n, b, e1, e2, q⟩ => ⟨n, b, q⟩, fun ⟨n, b, q⟩ => ⟨a, c, n, b, rfl, rfl, q⟩⟩
theorem EqN.flat {n : Nat} {x y : V} (hx : flatV x = true) (hy : flatV y = true) : EqN K H n x y (eqV x y) := by
  cases n with
  | zero => exact ⟨hx, hy, rfl⟩
  | succ n => exact .inl ⟨hx, hy, rfl⟩
theorem EqN.refl {n : Nat} {x : V} (hx : flatV x = true) : EqN K H n x x true := by
  have q : EqN K H n x x (eqV x x) := EqN.flat hx hx
  rwa [eqV_self hx] at q
/-- two lists (tuples) whose items are equal -/
theorem EqN.seq {n : Nat} {a c : Addr} {xs ys : List V} (hq : (SqL K H a xs ∧ SqL K H c ys) ∨ (SqT K H a xs ∧ SqT K H c ys)) (hl : xs.length = ys.length) (he : ∀ (i : Nat) x y, xs[i]? = some x → ys[i]? = some y → EqN K H n x y true) : EqN K H (n + 1) (.ref a) (.ref c) true :=
  .inr ⟨a, c, xs, ys, rfl, rfl, hq, .inl ⟨fun _ => true, hl, he, by simp⟩⟩
theorem EqN.seqFlat {n : Nat} {a c : Addr} {xs : List V} (hq : (SqL K H a xs ∧ SqL K H c xs) ∨ (SqT K H a xs ∧ SqT K H c xs)) (hf : ∀ x ∈ xs, flatV x = true) : EqN K H (n + 1) (.ref a) (.ref c) true :=
  EqN.seq hq rfl fun i x y e1 e2 => by
    rw [e1] at e2; cases e2
    exact EqN.refl (hf x (List.mem_of_getElem? e1))
theorem EqN.strs {n : Nat} {a c : Addr} {ss ts : List Str} (h1 : SqL K H a (ss.map V.str)) (h2 : SqL K H c (ts.map V.str)) : EqN K H (n + 1) (.ref a) (.ref c) (decide (ss = ts)) := by
  refine .inr ⟨a, c, _, _, rfl, rfl, .inl ⟨h1, h2⟩, ?_⟩
  by_cases hl : ss.length = ts.length
  · refine .inl ⟨fun i => ss.getD i default == ts.getD i default, by simp [hl], fun i x y e1 e2 => ?_, ?_⟩
    · rw [List.getElem?_map] at e1 e2
      cases q1 : ss[i]? with
      | none => rw [q1] at e1; cases e1
      | some u =>
        cases q2 : ts[i]? with
        | none => rw [q2] at e2; cases e2
        | some v =>
          rw [q1] at e1; rw [q2] at e2
          cases e1; cases e2
          dsimp only
          rw [List.getD_eq_getElem?_getD, List.getD_eq_getElem?_getD, q1, q2]
          exact EqN.flat rfl rfl
    · rw [List.length_map]
      by_cases e : ss = ts
      · subst e
        rw [decide_eq_true rfl]
        symm
        rw [List.all_eq_true]
        intro i _
        simp
      · rw [decide_eq_false e]
        symm
        rw [List.all_eq_false]
        have : ∃ i : Nat, ss[i]? ≠ ts[i]? := by
          refine Classical.byContradiction fun hn => e (List.ext_getElem? fun i => ?_)
          exact Classical.byContradiction fun h => hn ⟨i, h⟩
        obtain ⟨i, hi⟩ := this
        have hlt : i < ss.length := by
          refine Classical.byContradiction fun hn => hi ?_
          rw [List.getElem?_eq_none (by omega), List.getElem?_eq_none (by omega)]
        refine ⟨i, List.mem_range.mpr hlt, ?_⟩
        rw [List.getD_eq_getElem?_getD, List.getD_eq_getElem?_getD, List.getElem?_eq_getElem hlt, List.getElem?_eq_getElem (by omega)]
        rw [List.getElem?_eq_getElem hlt, List.getElem?_eq_getElem (by omega)] at hi
        simpa using hi
  · have e : ss ≠ ts := fun e => hl (by rw [e])
    rw [decide_eq_false e]
    exact .inr ⟨h1, h2, by simpa using hl, rfl⟩
end

/-! ### sorted texts -/
section
variable {X : Cx}
/-! ### words.index(text) -/
end

/-! ### more readings by name -/
section
variable {X : Cx}
def rInt1 : List V → Hp → VK → Prop := fun xs H Q => (∃ i, xs = [.int i] ∧ Q (.int i) H) ∨ ∃ k, xs = [.bl k] ∧ Q (.int (if k then 1 else 0)) H
theorem call_intA : CallR X (.type "int") rInt1 := call_int1
def rTupOf (K : PySem.W.Frag) : List V → Hp → VK → Prop := fun xs H Q => ∃ p ys, xs = [.ref p] ∧ ((SqL K H p ys ∧ ∀ l, H l = none → Q (.ref l) (upd H l (.tup ys))) ∨ (SqT K H p ys ∧ Q (.ref p) H))
theorem call_tupA (K : PySem.W.Frag) (hK : X.K = K := by rfl) : CallR X (.type "tuple") (rTupOf K) := call_tupleK K hK
/-- an int times an int, a text times an int -/
def rMulB : R2 := fun x y H Q => match x, y with
  | .int i, .int j => CMul i j ∧ Q (.int (i * j)) H
  | .str z, .int n => 0 ≤ n ∧ n ≤ 4096 ∧ z.length ≤ 4096 ∧ Q (.str (Txt.mul z n)) H
  | _, _ => False
theorem op_mulB : OpR X (binaryOp .Mult) rMulB := by
  intro pins s σ H x y v u Q I rx ry h
  match x, y, h with
  | .int i, .int j, h => exact op_mul pins s σ H _ _ v u Q I rx ry ⟨_, _, rfl, rfl, h⟩
  | .str z, .int n, h =>
    obtain ⟨t, rfl⟩ := rx
    obtain ⟨t', rfl⟩ := ry
    obtain ⟨h0, h1, h2, q⟩ := h
    exact SB.mul (mulOk_of 4096 4096 h2 (by omega) (by omega) (by decide) (by decide)) fun t' k => ⟨.str (Txt.mul z n), H, I.tok k, ⟨t', rfl⟩, q⟩
end
section
variable {K : PySem.W.Frag} {H : Hp} {Q : VK}
theorem rInt1_int (i : Int) : rInt1 [.int i] H Q = Q (.int i) H := propext ⟨fun h => by rcases h with ⟨_, e, q⟩ | ⟨_, e, q⟩ <;> cases e; exact q, fun q => .inl ⟨i, rfl, q⟩⟩
theorem rInt1_bl (k : Bool) : rInt1 [.bl k] H Q = Q (.int (if k then 1 else 0)) H := propext ⟨fun h => by rcases h with ⟨_, e, q⟩ | ⟨_, e, q⟩ <;> cases e; exact q, fun q => .inr ⟨k, rfl, q⟩⟩
theorem rTupOf_at (p : Addr) : rTupOf K [.ref p] H Q = ∃ ys, ((SqL K H p ys ∧ ∀ l, H l = none → Q (.ref l) (upd H l (.tup ys))) ∨ (SqT K H p ys ∧ Q (.ref p) H)) := propext ⟨fun ⟨_, ys, e, q⟩ => by cases e; exact ⟨ys, q⟩, fun ⟨ys, q⟩ => ⟨p, ys, rfl, q⟩⟩
theorem rMulB_int (i j : Int) : rMulB (.int i) (.int j) H Q = (CMul i j ∧ Q (.int (i * j)) H) := rfl
theorem rMulB_str (z : Str) (n : Int) : rMulB (.str z) (.int n) H Q = (0 ≤ n ∧ n ≤ 4096 ∧ z.length ≤ 4096 ∧ Q (.str (Txt.mul z n)) H) := rfl
theorem rSlL_at (a : Addr) (lo hi : Option Int) : rSlL K (.ref a) lo hi H Q = ∃ xs, SqL K H a xs ∧ ∀ p, H p = none → Q (.ref p) (upd H p (.lst (cutV xs lo hi))) := propext ⟨fun ⟨_, xs, e, q⟩ => by cases e; exact ⟨xs, q⟩, fun ⟨xs, q⟩ => ⟨a, xs, rfl, q⟩⟩
end
/-! ### small facts of use everywhere -/
theorem small' {n : Nat} (h : n ≤ 1000000) : n < sizeLine := by
  have : sizeLine = 16777216 := sizeLine_eq
  omega
theorem smallL {n : Nat} (h : n ≤ 1000000) : n ≤ sizeLine := Nat.le_of_lt (small' h)
/-- an item of a list of ints -/
theorem at_map {α : Type} {f : α → V} {xs : List α} {i : Int} {x : α} (h0 : 0 ≤ i) (h : xs[i.toNat]? = some x) : atI (xs.map f) i = some (f x) := by
  have q : (xs.map f)[i.toNat]? = some (f x) := by rw [List.getElem?_map, h]; rfl
  have q' := atI_nat q
  rwa [show ((i.toNat : Nat) : Int) = i by omega] at q'
theorem al_same {H H' : Hp} {p : Addr} {o : HO} (h : upd H p o = H') (hp : H p = none) : Same H H' := h ▸ same_new hp o
theorem al_at {H H' : Hp} {p : Addr} {o : HO} (h : upd H p o = H') : H' p = some o := h ▸ upd_same
end L2

set_option Elab.async false
set_option linter.all false
set_option maxRecDepth 100000
namespace L2
open PySem PySem.Spec PyProof.Rows

/-! ### several untracked records of ours have turned -/
theorem Inv.turnedL {X : Cx} {pins : List (Addr × Obj)} {σ : St} {H : Hp} {s : Shared} {h' : Heap} {t' : Nat} {ch : List Addr} (I : Inv X pins σ H s) (k : ∀ b o, b ∉ ch → s.heap.get? b = some o → h'.get? b = some o)
    (hf : ∀ b ∈ ch, FpOk X pins H b) : Inv X pins σ H { s with heap := h', toks := t' } := by
  have nit : ∀ b u, H b = some u → b ∉ ch := fun b u e z => by rw [(hf b z).1] at e; cases e
  refine I.step (g' := s.gens) (d' := s.drawn) (ch := ch) (fun b hb => ?_) (fun b o _ _ hc e _ => k b o hc e) (fun b o _ _ hc e _ => ⟨o.slots, k b o hc e⟩) (fun _ _ _ _ n => n)
    (fun b o hc e => ⟨o, k b o hc e⟩) (fun _ _ e => e) (fun _ _ _ e => e) (fun b ps e => ⟨#[], by rw [e]; simp⟩) (fun m hm => ?_) (fun b u e => ?_) I.bare
  · obtain ⟨_, f1, _, f3, f4, f5⟩ := hf b hb
    exact ⟨f3, f1, f4, f5⟩
  · obtain ⟨o, es, ep, ho, r⟩ := hm
    exact ⟨o, es, ep, k _ o (fun z => (hf _ z).2.1 rfl) ho, r⟩
  · refine (I.hok b u e).stay (fun c v hc q => k c v ?_ q) (fun _ q => q) fun _ _ q => q
    rcases hc with z | z
    · rw [z]; exact nit b u e
    · exact nit c _ z

/-- the same, and a new object is laid and tracked -/
theorem Inv.turnedLaid {X : Cx} {pins : List (Addr × Obj)} {σ : St} {H : Hp} {s : Shared} {h' : Heap} {t' : Nat} {ch : List Addr} {a : Addr} {o : HO} (I : Inv X pins σ H s) (k : ∀ b o, b ∉ ch → s.heap.get? b = some o → h'.get? b = some o)
    (hf : ∀ b ∈ ch, FpOk X pins H b) (hp : s.heap.objs.size ≤ a) (new : ObjOk X.prog X.w (upd H a o) h' a o) : Inv X pins σ (upd H a o) { s with heap := h', toks := t' } := by
  have hn : H a = none := I.hok.fresh hp
  have nit : ∀ b u, H b = some u → b ∉ ch := fun b u e z => by rw [(hf b z).1] at e; cases e
  refine I.step (g' := s.gens) (d' := s.drawn) (ch := ch) (fun b hb => ?_) (fun b o _ _ hc e _ => k b o hc e) (fun b o _ _ hc e _ => ⟨o.slots, k b o hc e⟩) (fun b u _ q n => ?_)
    (fun b o hc e => ⟨o, k b o hc e⟩) (fun b xs q => ?_) (fun b u xs q => ?_) (fun b ps q => ⟨#[], ?_⟩) (fun m hm => ?_) (fun b u e => ?_) I.bare
  · obtain ⟨_, f1, _, f3, f4, f5⟩ := hf b hb
    exact ⟨f3, f1, f4, f5⟩
  · rw [upd_ne (Nat.ne_of_lt (Nat.lt_of_lt_of_le (Heap.lt_size q) hp))]; exact n
  · rw [upd_ne (ne_of_none q hn)]; exact q
  · rw [upd_ne (ne_of_none q hn)]; exact q
  · rw [upd_ne (ne_of_none q hn), q]; simp
  · obtain ⟨o, es, ep, ho, r⟩ := hm
    exact ⟨o, es, ep, k _ o (fun z => (hf _ z).2.1 rfl) ho, r⟩
  · by_cases hb : b = a
    · subst hb; rw [upd_same] at e; cases e; exact new
    · rw [upd_ne hb] at e
      refine (I.hok b u e).stay (fun c v hc q => k c v ?_ q) (fun c q => by rw [upd_ne (ne_of_none q hn)]; exact q) fun c xs q => by rw [upd_ne (ne_of_none q hn)]; exact q
      rcases hc with z | z
      · rw [z]; exact nit b u e
      · exact nit c _ z

/-! ### zip of two lists -/
structure ZApart (z TI TO i1 i2 : Addr) : Prop where
  TIz : TI ≠ z
  TOz : TO ≠ z
  i1z : i1 ≠ z
  i2z : i2 ≠ z
  TITO : TI ≠ TO
  TIi1 : TI ≠ i1
  TIi2 : TI ≠ i2
  TOi1 : TO ≠ i1
  TOi2 : TO ≠ i2
  i12 : i1 ≠ i2
theorem zap (n : Nat) : ZApart (n + 4) (n + 2) (n + 3) n (n + 1) := ⟨(show (@Ne Nat (n + 2) (n + 4) : Prop) by omega), (show (@Ne Nat (n + 3) (n + 4) : Prop) by omega), (show (@Ne Nat (n) (n + 4) : Prop) by omega), (show (@Ne Nat (n + 1) (n + 4) : Prop) by omega), (show (@Ne Nat (n + 2) (n + 3) : Prop) by omega), (show (@Ne Nat (n + 2) (n) : Prop) by omega), (show (@Ne Nat (n + 2) (n + 1) : Prop) by omega), (show (@Ne Nat (n + 3) (n) : Prop) by omega), (show (@Ne Nat (n + 3) (n + 1) : Prop) by omega), (show (@Ne Nat (n) (n + 1) : Prop) by omega)⟩
theorem boot_zip : bootBuiltins "zip" = some (.type "zip") := by decide +kernel
theorem ex_refs2 (n m : Addr) (P : Addr → Addr → Prop) : (∃ i j, [V.ref n, V.ref m] = [V.ref i, V.ref j] ∧ P i j) = P n m := propext ⟨fun ⟨_, _, e, h⟩ => by cases e; exact h, fun h => ⟨n, m, rfl, h⟩⟩
/-! ### f-strings of plain fields -/
section
variable {X : Cx}
end
section
variable {σ : St} {H : Hp} {Q : VK}
end
end L2

set_option Elab.async false
set_option linter.all false
set_option maxRecDepth 100000
namespace L2
open PySem PySem.Spec PyProof.Rows

/-! ### enumerate of a list -/
theorem ex_ref1 (n : Addr) (P : Addr → Prop) : (∃ i, [V.ref n] = [V.ref i] ∧ P i) = P n := propext ⟨fun ⟨_, e, h⟩ => by cases e; exact h, fun h => ⟨n, rfl, h⟩⟩
section
variable {K : PySem.W.Frag} {a b : Addr} {xs ys : List V} {g : TG} {te : TE} {nT : Nat} {σ : St} {D : Addr} {Q : VK} {H : Hp}
/-- a comprehension with a test: n turns; behind the i-th item: it goes onto the list where the test holds -/
def CSkip (n i : Nat) (Pv : Nat → List V → Hp → Prop) (ys : List V) (H : Hp) : Prop := ∃ m', m' < n - i ∧ (m' = n - (i + 1) ∧ i + 1 ≤ n ∧ Pv (i + 1) ys H)
theorem cskip {n i : Nat} {Pv : Nat → List V → Hp → Prop} {ys : List V} {H : Hp} (hi : i < n) (h : Pv (i + 1) ys H) : CSkip n i Pv ys H := ⟨n - (i + 1), by omega, rfl, hi, h⟩
theorem cstepT {n i : Nat} {Pv : Nat → List V → Hp → Prop} {D : Addr} {ys : List V} {y : V} {H : Hp} (hi : i < n) (hlen : ys.length ≤ i) (hz : n ≤ sizeLine) (h1 : H D = some (.lst ys)) (h2 : Pv (i + 1) (ys ++ [y]) (upd H D (.lst (ys ++ [y])))) : CStep n i Pv D ys y H :=
  ⟨h1, by omega, n - (i + 1), by omega, rfl, hi, h2⟩
def compT (n i : Nat) (Pv : Nat → List V → Hp → Prop) (D : Addr) (ys : List V) (tc : TT) (te : TE) (σ : St) (H : Hp) : Prop :=
  tc σ H fun b H4 => if b = true then te σ H4 (CStep n i Pv D ys) else CSkip n i Pv ys H4
theorem compT_at {n i : Nat} {Pv : Nat → List V → Hp → Prop} {D : Addr} {ys : List V} {tc : TT} {te : TE} {σ : St} {H : Hp} : compT n i Pv D ys tc te σ H = tc σ H fun b H4 => if b = true then te σ H4 (CStep n i Pv D ys) else CSkip n i Pv ys H4 := rfl
theorem compT_by {J : It} {tc : TT} (n : Nat) (Pv : Nat → List V → Hp → Prop) (h0 : Pv 0 [] H) (hgo : ∀ i ys H, i < n → Pv i ys H → J.go i H) (hst : ∀ ys H, Pv n ys H → J.stop n H)
    (hs : ∀ i ys H x H', i < n → Pv i ys H → J.yld i H x H' → g x (σ ++ List.replicate nT none) H' (compT n i Pv D ys tc te))
    (hd : ∀ ys H, Pv n ys H → Q (.ref D) H) : compW J g tc te nT σ D Q H := by
  refine ⟨fun i m ys H => m = n - i ∧ i ≤ n ∧ Pv i ys H, ⟨n, by simp, Nat.zero_le _, h0⟩, ?_⟩
  rintro i m ys H ⟨rfl, hi, p⟩
  by_cases hlt : i < n
  · exact .inr ⟨hgo i ys H hlt p, fun x H' y => hs i ys H x H' hlt p y⟩
  · have e : i = n := by omega
    subst e
    exact .inl ⟨hst ys H p, hd ys H p⟩
theorem compT_list {tc : TT} (Pv : Nat → List V → Hp → Prop) (h0 : Pv 0 [] H) (hl : ∀ i ys H, i ≤ xs.length → Pv i ys H → SqL K H a xs)
    (hs : ∀ i ys H x, xs[i]? = some x → i < xs.length → Pv i ys H → g x (σ ++ List.replicate nT none) H (compT xs.length i Pv D ys tc te))
    (hd : ∀ ys H, Pv xs.length ys H → Q (.ref D) H) : compW (Itl K a) g tc te nT σ D Q H := by
  refine compT_by xs.length Pv h0 (fun i ys H hi p => ⟨xs, xs[i], hl i ys H (Nat.le_of_lt hi) p, by simp [hi]⟩) (fun ys H p => ⟨xs, hl _ ys H (Nat.le_refl _) p, Nat.le_refl _⟩) (fun i ys H x H' hi p yl => ?_) hd
  obtain ⟨rfl, y⟩ := yl
  exact hs i ys _ x (y xs (hl i ys _ (Nat.le_of_lt hi) p)) hi p
end
end L2

set_option Elab.async false
set_option linter.all false
set_option maxRecDepth 100000
namespace L2
open PySem PySem.Spec PyProof.Rows

/-! ### a text's slice -/
theorem str_ixs (lo hi : Option Int) (n : Nat) : Builtin.Str.strSliceIndices lo hi 1 n = (List.range (HT.sIx n n hi - HT.sIx n 0 lo)).map (HT.sIx n 0 lo + ·) := by
  obtain ⟨h1, h2, h3⟩ := slice_bounds lo hi n
  rw [← sliceRange_one, ← h1, ← h2]
  cases lo <;> cases hi <;> rfl
theorem slice_cps (x : Str) (lo hi : Option Int) : (Txt.slice x lo hi).cps.toList = (x.cps.toList.drop (HT.sIx x.length 0 lo)).take (HT.sIx x.length x.length hi - HT.sIx x.length 0 lo) := by
  have hn : x.cps.toList.length = x.length := by simp [Str.length]
  have hb := HT.sIx_le x.length x.length (Nat.le_refl _) hi
  unfold Txt.slice
  rw [str_ixs]
  by_cases h : ((1 : Int) == 1 && ((List.range (HT.sIx x.length x.length hi - HT.sIx x.length 0 lo)).map (HT.sIx x.length 0 lo + ·)).length == x.length) = true
  · rw [if_pos h]
    simp only [List.length_map, List.length_range, Bool.and_eq_true, beq_iff_eq] at h
    have h2 := h.2
    rcases Nat.eq_zero_or_pos x.length with z | z
    · have e : x.cps.toList = [] := List.eq_nil_of_length_eq_zero (by omega)
      rw [e]; simp
    · have a0 : HT.sIx x.length 0 lo = 0 := by omega
      rw [a0, List.drop_zero, List.take_of_length_le (by omega)]
  · rw [if_neg h]
    show ((List.filterMap _ _).toArray).toList = _
    rw [pick_run]
def rSlS : V → Option Int → Option Int → Hp → VK → Prop := fun x lo hi H Q => ∃ y, x = .str y ∧ y.length ≤ sizeLine ∧ Q (.str (Txt.slice y lo hi)) H
theorem sl_str {X : Cx} : SlR X rSlS := by
  intro pins s σ H x v vl vu lo hi sl Q I rx hs pl pu h
  obtain ⟨y, rfl, hz, q⟩ := h
  obtain ⟨t, rfl⟩ := rx
  obtain ⟨l, hl, el⟩ : ∃ l : Option (Int × Tok), vl = partValue l ∧ l.map (·.1) = lo := by
    cases pl with
    | none => exact ⟨none, rfl, rfl⟩
    | int i t => exact ⟨some (i, t), rfl, rfl⟩
  obtain ⟨u, hu, eu⟩ : ∃ l : Option (Int × Tok), vu = partValue l ∧ l.map (·.1) = hi := by
    cases pu with
    | none => exact ⟨none, rfl, rfl⟩
    | int i t => exact ⟨some (i, t), rfl, rfl⟩
  subst hl hu el eu
  refine ⟨"str", _, PySem.F.slot_str_getitem.lookup, typeIs_str _ _ _, wpAny_getItem_str_slice (l := l) (u := u) (st := none) hs rfl (post_val_or_str ⟨Nat.le_trans (Txt.slice_le y _ _) hz, fun t' k => ⟨.str _, H, I.tok k, ⟨t', rfl⟩, q⟩⟩)⟩
theorem rSlS_at {H : Hp} {Q : VK} (y : Str) (lo hi : Option Int) : rSlS (.str y) lo hi H Q = (y.length ≤ sizeLine ∧ Q (.str (Txt.slice y lo hi)) H) := propext ⟨fun ⟨_, e, h⟩ => by cases e; exact h, fun h => ⟨y, rfl, h⟩⟩
end L2

set_option Elab.async false
set_option linter.all false
set_option maxRecDepth 100000
namespace L2
open PySem PySem.Spec PyProof.Rows

/-! ### what may stand in a tuple that is a dict's key, tuples too -/
structure IK (prog : Program) (w : World) (κ : Type) [DecidableEq κ] where
  is : Heap → κ → Value → Prop
  hash : κ → Int
  draws : κ → Nat
  deep : Nat
  inj : ∀ {h : Heap} {v : Value} {x y : κ}, is h x v → is h y v → x = y
  keeps : ∀ {h h' : Heap} {k : κ} {v : Value} {d : Addr} {o : Obj} {es ep}, is h k v → h.get? d = some o → o.data = .dict es ep → Heap.SameBut d h h' → is h' k v
  pyHash : ∀ {A : Around} {E : Value → Shared → Prop} {s : Shared} {k : κ} {v : Value} {Q : Int → Shared → Prop}, A.units + deep < cLine → is s.heap k v → Q (hash k) { s with toks := s.toks + draws k } →
    wpAny (model prog w) A (PySem.pyHash v) Q E s
  eqBool : ∀ {A : Around} {E : Value → Shared → Prop} {s : Shared} {x y : κ} {u v : Value} {Q : Bool → Shared → Prop}, A.units + deep < cLine → is s.heap x u → is s.heap y v → Q (decide (x = y)) s →
    wpAny (model prog w) A (PySem.eqBool u v) Q E s
  quiet : ∀ {A : Around} {E : Value → Shared → Prop} {s : Shared} {k : κ} {v : Value} {n : Nat} {Q : Bool → Shared → Prop}, is s.heap k v → Q true s → wpAny (model prog w) A (eqIsQuiet (n + deep) v) Q E s
section
variable {prog : Program} {w : World} {κ : Type} [DecidableEq κ] (K : IK prog w κ)
inductive IsItems (h : Heap) : List κ → List Value → Prop
  | nil : IsItems h [] []
  | cons {k : κ} {v : Value} {ks : List κ} {vs : List Value} : K.is h k v → IsItems h ks vs → IsItems h (k :: ks) (v :: vs)
def IsTupK (h : Heap) (ks : List κ) (v : Value) : Prop := ∃ a o items n, v = .ref a ∧ h.get? a = some o ∧ o.cls = .type "tuple" ∧ o.data = .seq items n ∧ IsItems K h ks items.toList
variable {K}
theorem IsItems.inj {h : Heap} : ∀ {x y : List κ} {vs : List Value}, IsItems K h x vs → IsItems K h y vs → x = y
  | _, _, _, .nil, .nil => rfl
  | _, _, _, .cons a b, .cons c d => by rw [K.inj a c, IsItems.inj b d]
theorem IsItems.keeps {h h' : Heap} {d : Addr} {o : Obj} {es ep} (ho : h.get? d = some o) (hd : o.data = .dict es ep) (hs : Heap.SameBut d h h') : ∀ {x : List κ} {vs : List Value}, IsItems K h x vs → IsItems K h' x vs
  | _, _, .nil => .nil
  | _, _, .cons a b => .cons (K.keeps a ho hd hs) (b.keeps ho hd hs)
theorem IsItems.len {h : Heap} : ∀ {x : List κ} {vs : List Value}, IsItems K h x vs → x.length = vs.length
  | _, _, .nil => rfl
  | _, _, .cons _ b => by rw [List.length_cons, List.length_cons, b.len]
def sumD (K : IK prog w κ) (ks : List κ) : Nat := (ks.map K.draws).sum
def tupH (K : IK prog w κ) (ks : List κ) : Int := reduceHash (Builtin.Tuple.tupleHashOf (ks.map K.hash))
theorem hash_tupK {A : Around} {E : Value → Shared → Prop} {s : Shared} {ks : List κ} {v : Value} {Q : Int → Shared → Prop} (hu : A.units + (K.deep + 1) < cLine) (hk : IsTupK K s.heap ks v) (h : Q (tupH K ks) { s with toks := s.toks + (sumD K ks + 1) }) :
    wpAny (model prog w) A (PySem.pyHash v) Q E s := by
  obtain ⟨a, o, items, n, rfl, ho, hc, hd, hi⟩ := hk
  have hT : s.TypeIs (.ref a) "tuple" := ⟨o, ho, hc⟩
  unfold PySem.pyHash
  first | unfold pyHashByItsType | skip
  first | refine wpAny_bind (wpAny_cRoomFor_or (.inr (by omega)) ?_) | skip
  refine wpAny_bind (wpAny_specialOf hT PySem.F.slot_tuple_hash.lookup ?_)
  rw [if_neg (by rw [beq_builtin_none]; exact Bool.false_ne_true)]
  refine wpAny_bind (wpAny_specialOf hT PySem.F.slot_tuple_hash.lookup ?_)
  show wpAny _ _ (callSpecialIfBoundUnlessNone? (.ref a) "__hash__" _ >>= _) Q E s
  refine wpAny_bind (wpAny_callSpecialIfBoundUnlessNone?_slot hT PySem.F.slot_tuple_hash (wpAny_call_entry PySem.F.slot_tuple_hash hT
    PySem.F.entry_tuple_hash ?_ (PySem.F.args_tuple_hash_1 _)))
  show wpAny _ _ (Builtin.Tuple.tupleItemsOf (.ref a) >>= _) _ _ s
  refine wpAny_bind (wpAny_tupleItemsOf ho hd (wpAny_bind ?_))
  rw [← Array.forIn_toList]
  refine wpAny_forIn_list _ (fun rest (b : Array Int) s' => ∃ done left, ks = done ++ left ∧ IsItems K s.heap left rest ∧ b.toList = done.map K.hash ∧ s' = { s with toks := s.toks + sumD K done }) _ ?_ ?_ _ _ ⟨[], ks, rfl, hi, rfl, rfl⟩
  · rintro x rest b s' ⟨done, left, rfl, hl, hb, rfl⟩
    cases hl with
    | @cons k _ ks' _ h1 hl' =>
      have e : sumD K (done ++ [k]) = sumD K done + K.draws k := by simp [sumD]
      refine wpAny_bind (K.pyHash (show A.in1.units + K.deep < cLine from by show A.units + 1 + K.deep < cLine; omega) h1 ?_)
      have fin : ∃ done' left', done ++ k :: ks' = done' ++ left' ∧ IsItems K s.heap left' rest ∧ (b.push (K.hash k)).toList = done'.map K.hash ∧ ({ s with toks := s.toks + sumD K done + K.draws k } : Shared) = { s with toks := s.toks + sumD K done' } :=
        ⟨done ++ [k], ks', by simp, hl', by simp [hb], by rw [e, Nat.add_assoc]⟩
      first
        | exact wpAny_pure fin
        | exact wpAny_bind (wpAny_pure (wpAny_pure fin))
  · rintro b s' ⟨done, left, rfl, hl, hb, rfl⟩
    cases hl
    rw [List.append_nil] at h
    show wpAny _ _ (retInt (Builtin.Tuple.tupleHashOf b.toList)) _ _ _
    rw [hb]
    refine wpAny_ret_mkInt ?_
    unfold tupH reduceHash at h
    show wpAny _ _ (if (decide (-(2 : Int) ^ 63 ≤ Builtin.Tuple.tupleHashOf (done.map K.hash)) && decide (Builtin.Tuple.tupleHashOf (done.map K.hash) < 2 ^ 63)) = true then _ else _) Q E _
    by_cases hr : (decide (-(2 : Int) ^ 63 ≤ Builtin.Tuple.tupleHashOf (done.map K.hash)) && decide (Builtin.Tuple.tupleHashOf (done.map K.hash) < 2 ^ 63)) = true
    · rw [if_pos hr] at h ⊢
      exact wpAny_pure (by simpa [Nat.add_assoc] using h)
    · rw [if_neg hr] at h ⊢
      exact wpAny_bind (wpAny_rule (wpAny_pure (by simpa [Nat.add_assoc] using h)))
theorem eq_tupTree {A : Around} {E : Value → Shared → Prop} {s : Shared} {x y : List κ} {a b : Addr} {P : Fin → Shared → Prop} (hu : A.units + K.deep < cLine) (hx : IsTupK K s.heap x (.ref a)) (hy : IsTupK K s.heap y (.ref b)) (h : P (.done (.ret (.bool (decide (x = y))))) s) :
    wpAny (model prog w) A (Builtin.«tuple.__eq__» ⟨[.ref a, .ref b], []⟩) P E s := by
  obtain ⟨_, oa, xs, na, e1, hoa, ca, hda, hia⟩ := hx
  obtain ⟨_, ob, ys, nb, e2, hob, cb, hdb, hib⟩ := hy
  cases e1
  cases e2
  show wpAny _ _ (isInstance (.ref b) (.type "tuple") >>= _) _ _ s
  refine wpAny_bind (wpAny_isInstance ⟨ob, hob, cb⟩ isSubtype_tuple_tuple ?_)
  simp only [Bool.not_true, Bool.false_eq_true, if_false]
  refine wpAny_bind (wpAny_tupleItemsOf hoa hda (wpAny_bind (wpAny_tupleItemsOf hob hdb (wpAny_bind ?_))))
  refine wpAny_forIn_list _ (fun rest r s' => r.1 = none ∧ s' = s ∧ ∃ x' y' xs' ys', rest = List.zip xs' ys' ∧ IsItems K s.heap x' xs' ∧ IsItems K s.heap y' ys' ∧ decide (x' = y') = decide (x = y) ∧ (xs'.length == ys'.length) = (xs.size == ys.size)) _ ?_ ?_ _ _
    ⟨rfl, rfl, x, y, xs.toList, ys.toList, rfl, hia, hib, rfl, by simp⟩
  · rintro ⟨u, v⟩ rest r s' ⟨hr, rfl, x', y', xs', ys', hz, hx', hy', hdec, hlen⟩
    cases hx' with
    | nil => simp at hz
    | @cons k1 u' x'' xs'' h1 hx'' =>
      cases hy' with
      | nil => simp at hz
      | @cons k2 v' y'' ys'' h2 hy'' =>
        simp only [List.zip_cons_cons, List.cons.injEq, Prod.mk.injEq] at hz
        obtain ⟨⟨rfl, rfl⟩, rfl⟩ := hz
        refine wpAny_bind (K.eqBool (x := k1) (y := k2) hu h1 h2 ?_)
        by_cases hk : k1 = k2
        · subst hk
          rw [decide_eq_true rfl]
          simp only [Bool.not_true, Bool.false_eq_true, if_false]
          refine wpAny_pure ⟨rfl, rfl, x'', y'', xs'', ys'', rfl, hx'', hy'', ?_, by simpa using hlen⟩
          rw [← hdec]
          by_cases hxy : x'' = y'' <;> simp [hxy]
        · rw [decide_eq_false hk]
          simp only [Bool.not_false, if_true]
          have hf : decide (x = y) = false := by rw [← hdec]; simp [hk]
          rw [hf] at h
          exact wpAny_bind (wpAny_pure (wpAny_pure (wpAny_pure h)))
  · rintro ⟨r1, r2⟩ s' ⟨hr, rfl, x', y', xs', ys', hz, hx', hy', hdec, hlen⟩
    simp only at hr
    subst hr
    refine wpAny_pure ?_
    have hfin : (xs.size == ys.size) = decide (x = y) := by
      rw [← hdec, ← hlen]
      cases hx' with
      | nil => cases hy' <;> simp
      | cons _ _ =>
        cases hy' with
        | nil => simp
        | cons _ _ => simp at hz
    show P (.done (.ret (.bool (xs.size == ys.size)))) s'
    rw [hfin]; exact h
theorem eq_tupK {A : Around} {E : Value → Shared → Prop} {s : Shared} {x y : List κ} {u v : Value} {Q : Bool → Shared → Prop} (hu : A.units + (K.deep + 1) < cLine) (hx : IsTupK K s.heap x u) (hy : IsTupK K s.heap y v) (h : Q (decide (x = y)) s) :
    wpAny (model prog w) A (PySem.eqBool u v) Q E s := by
  have hx0 := hx
  have hy0 := hy
  obtain ⟨a, oa, xs, na, rfl, hoa, ca, hda, hia⟩ := hx
  obtain ⟨b, ob, ys, nb, rfl, hob, cb, hdb, hib⟩ := hy
  unfold PySem.eqBool
  try with_reducible refine wpAny_holding ?_
  show wpAny _ _ (if (Value.ref a == Value.ref b) = true then _ else _) Q E s
  by_cases hab : (Value.ref a == Value.ref b) = true
  · rw [if_pos hab]
    have e : a = b := by have := eq_of_beq hab; injection this
    subst e
    rw [hoa] at hob
    cases hob
    rw [hda] at hdb
    injection hdb with e1 _
    subst e1
    rw [decide_eq_true (hia.inj hib)] at h
    exact wpAny_bind (wpAny_rule (wpAny_pure h))
  · rw [if_neg hab]
    have ta : s.TypeIs (.ref a) "tuple" := ⟨oa, hoa, ca⟩
    have tb : s.TypeIs (.ref b) "tuple" := ⟨ob, hob, cb⟩
    refine wpAny_bind (wpAny_richCompare_same_room (op := .Eq) ta tb PySem.F.slot_tuple_eq (wpAny_call_entry PySem.F.slot_tuple_eq ta PySem.F.entry_tuple_eq ?_ (PySem.F.args_tuple_eq_2 _ _)) (by omega))
    refine eq_tupTree (K := K) ?_ hx0 hy0 ⟨_, rfl, (fun e => nomatch e), wpAny_truthy_bool h⟩
    show A.units + 1 + K.deep < cLine
    omega
theorem quiet_tupK {A : Around} {E : Value → Shared → Prop} {s : Shared} {ks : List κ} {v : Value} {n : Nat} {Q : Bool → Shared → Prop} (hk : IsTupK K s.heap ks v) (h : Q true s) : wpAny (model prog w) A (eqIsQuiet (n + (K.deep + 1)) v) Q E s := by
  obtain ⟨a, o, items, m, rfl, ho, hc, hd, hi⟩ := hk
  have hT : s.TypeIs (.ref a) "tuple" := ⟨o, ho, hc⟩
  rw [show n + (K.deep + 1) = (n + K.deep) + 1 from rfl]
  unfold eqIsQuiet
  refine wpAny_bind (wpAny_specialOf hT PySem.F.slot_tuple_eq.lookup ?_)
  show wpAny _ _ (isInstance (.ref a) (.type "tuple") >>= _) _ _ s
  refine wpAny_bind (wpAny_isInstance hT isSubtype_tuple_tuple ?_)
  simp only [Bool.not_true, Bool.false_eq_true, if_false]
  refine wpAny_bind (wpAny_seqItems ho hd (wpAny_bind ?_))
  show wpAny _ _ (forIn items _ _) _ _ s
  rw [← Array.forIn_toList]
  refine wpAny_forIn_list _ (fun rest r s' => r.1 = none ∧ s' = s ∧ ∃ ks', IsItems K s.heap ks' rest) _ ?_ ?_ _ _ ⟨rfl, rfl, ks, hi⟩
  · rintro v rest r s' ⟨hr, rfl, ks', hall⟩
    cases hall with
    | cons h1 h2 =>
      refine wpAny_bind (K.quiet h1 ?_)
      simp only [Bool.not_true, Bool.false_eq_true, if_false]
      exact wpAny_pure ⟨rfl, rfl, _, h2⟩
  · rintro ⟨r1, r2⟩ s' ⟨hr, rfl, _⟩
    simp only at hr
    subst hr
    exact wpAny_pure h
/-- tuples of such -/
def tupK (K : IK prog w κ) : IK prog w (List κ) where
  is := IsTupK K
  hash := tupH K
  draws := fun ks => sumD K ks + 1
  deep := K.deep + 1
  inj := by
    rintro h v x y ⟨a, oa, xs, na, rfl, hoa, ca, hda, hia⟩ ⟨b, ob, ys, nb, e, hob, cb, hdb, hib⟩
    cases e
    rw [hoa] at hob
    cases hob
    rw [hda] at hdb
    injection hdb with e1 _
    subst e1
    exact hia.inj hib
  keeps := by
    rintro h h' k v d o es ep ⟨a, oa, xs, na, rfl, hoa, ca, hda, hia⟩ ho hd hs
    have hne : a ≠ d := by
      rintro rfl
      rw [hoa] at ho
      cases ho
      rw [hd] at hda; cases hda
    exact ⟨a, oa, xs, na, rfl, (hs.2 a hne).trans hoa, ca, hda, hia.keeps ho hd hs⟩
  pyHash := fun hu hk h => hash_tupK hu hk h
  eqBool := fun hu hx hy h => eq_tupK hu hx hy h
  quiet := fun hk h => quiet_tupK hk h
/-- a dict's keys -/
def heapK (K : IK prog w κ) (hd : K.deep ≤ 7) : HeapKind prog w (List κ) where
  is := fun h k a => IsTupK K h k (.ref a)
  hash := tupH K
  draws := fun ks => sumD K ks + 1
  room := fun A => A.units + (K.deep + 1) < cLine
  inj := (tupK K).inj
  keeps := (tupK K).keeps
  pyHash := fun hu hk h => hash_tupK hu hk h
  eqBool := fun hu hx hy h => eq_tupK hu hx hy h
  quiet := fun {A E s k a Q} hk h => by
    have q := quiet_tupK (n := 7 - K.deep) (A := A) (E := E) hk h
    rwa [show 7 - K.deep + (K.deep + 1) = 8 by omega] at q
end
end L2

set_option Elab.async false
set_option linter.all false
set_option maxRecDepth 100000
namespace L2
open PySem PySem.Spec PyProof.Rows

/-! ### None or an int; an int or a tuple of these -/
def optV : Option Int → V
  | none => .non
  | some i => .int i
theorem optV_inj {x y : Option Int} {v : Value} (a : RelV (optV x) v) (b : RelV (optV y) v) : x = y := by
  have e := a.inj b
  cases x <;> cases y <;> simp_all [optV]
theorem optV_flat (x : Option Int) : flatV (optV x) = true := by cases x <;> rfl
theorem optV_eq (x y : Option Int) : eqV (optV x) (optV y) = decide (x = y) := by
  cases x with
  | none => cases y <;> rfl
  | some i =>
    cases y with
    | none => rfl
    | some j =>
      show (i == j) = _
      by_cases h : i = j <;> simp [h]
theorem hash_none {prog : Program} {w : World} {A : Around} {E : Value → Shared → Prop} {s : Shared} {Q : Int → Shared → Prop} (h : Q 0xFCA86420 { s with toks := s.toks + 1 }) : wpAny (model prog w) A (PySem.pyHash .none) Q E s := by
  have hT : s.TypeIs .none "NoneType" := rfl
  unfold PySem.pyHash
  first | unfold pyHashByItsType | skip
  refine wpAny_bind ?_
  rw [cRoomFor, if_neg (by decide)]
  refine wpAny_pure (wpAny_bind (wpAny_specialOf hT PySem.F.slot_NoneType_hash.lookup ?_))
  rw [if_neg (by rw [beq_builtin_none]; exact Bool.false_ne_true)]
  refine wpAny_bind (wpAny_specialOf hT PySem.F.slot_NoneType_hash.lookup ?_)
  show wpAny _ _ (callSpecialIfBoundUnlessNone? .none "__hash__" _ >>= _) Q E s
  refine wpAny_bind (wpAny_callSpecialIfBoundUnlessNone?_slot hT PySem.F.slot_NoneType_hash (wpAny_call_entry PySem.F.slot_NoneType_hash hT
    PySem.F.entry_NoneType_hash ?_ (PySem.F.args_NoneType_hash_1 _)))
  show wpAny _ _ (retInt 0xFCA86420) _ _ s
  refine wpAny_ret_mkInt ?_
  exact wpAny_pure h
def optK (prog : Program) (w : World) : IK prog w (Option Int) where
  is := fun _ k v => RelV (optV k) v
  hash := fun k => match k with
    | none => 0xFCA86420
    | some i => hashInt i
  draws := fun _ => 1
  deep := 0
  inj := fun a b => optV_inj a b
  keeps := fun a _ _ _ => a
  pyHash := fun {A E s k v Q} _ hk h => by
    cases k with
    | none =>
      obtain rfl : v = Value.none := hk
      exact hash_none h
    | some i =>
      obtain ⟨t, rfl⟩ := (show ∃ t, v = Value.int i t from hk)
      exact wpAny_pyHash_int h
  eqBool := fun {A E s x y u v Q} _ hx hy h => by
    have q := eqAt_V (A := A) (s := s) hx hy (optV_flat x) (optV_flat y)
    rw [optV_eq] at q
    exact q prog w E Q h
  quiet := fun {A E s k v n Q} hk h => by
    have e : carriedByValue v = true := by
      cases k with
      | none => obtain rfl : v = Value.none := hk; rfl
      | some i => obtain ⟨t, rfl⟩ := (show ∃ t, v = Value.int i t from hk); rfl
    rw [eqIsQuiet_byValue _ e]
    exact wpAny_pure h
abbrev NI := Sum Int (List (Option Int))
def IsNI (prog : Program) (w : World) (h : Heap) : NI → Value → Prop
  | .inl i, v => ∃ t, v = Value.int i t
  | .inr l, v => IsTupK (optK prog w) h l v
theorem IsTupK.tup {prog : Program} {w : World} {κ : Type} [DecidableEq κ] {K : IK prog w κ} {h : Heap} {l : List κ} {v : Value} (x : IsTupK K h l v) : ∃ a its, v = .ref a ∧ h.IsTuple a its := by
  obtain ⟨a, o, items, n, rfl, ho, hc, hd, hi⟩ := x
  exact ⟨a, items, rfl, o, ho, hc, n, hd⟩
theorem ni_room {A : Around} {prog : Program} {w : World} (hu : A.units + 1 < cLine) : A.units + ((optK prog w).deep + 1) < cLine := hu
theorem ni_ll (i j : Int) : (i == j) = decide ((Sum.inl i : NI) = Sum.inl j) := by
  by_cases z : i = j
  · subst z; simp
  · have z' : ¬ ((Sum.inl i : NI) = Sum.inl j) := fun q => z (Sum.inl.inj q)
    rw [decide_eq_false z']; simpa using z
theorem ni_rr (l l' : List (Option Int)) : decide (l = l') = decide ((Sum.inr l : NI) = Sum.inr l') := by
  by_cases z : l = l'
  · subst z; simp
  · have z' : ¬ ((Sum.inr l : NI) = Sum.inr l') := fun q => z (Sum.inr.inj q)
    rw [decide_eq_false z', decide_eq_false z]
theorem ni_lr (i : Int) (l : List (Option Int)) : decide ((Sum.inl i : NI) = Sum.inr l) = false := decide_eq_false (fun q => nomatch q)
theorem ni_rl (i : Int) (l : List (Option Int)) : decide ((Sum.inr l : NI) = Sum.inl i) = false := decide_eq_false (fun q => nomatch q)
theorem ni_eq {prog : Program} {w : World} {A : Around} {E : Value → Shared → Prop} {s : Shared} {u v : Value} {Q : Bool → Shared → Prop} (hu : A.units + 1 < cLine) : ∀ (x y : NI), IsNI prog w s.heap x u → IsNI prog w s.heap y v → Q (decide (x = y)) s →
    wpAny (model prog w) A (PySem.eqBool u v) Q E s
  | .inl i, .inl j, ⟨t, e1⟩, ⟨t', e2⟩, h => by
    subst e1 e2
    rw [← ni_ll] at h
    exact wpAny_eqBool_int h
  | .inl i, .inr l, ⟨t, e1⟩, hy, h => by
    subst e1
    obtain ⟨b, its, rfl, ht⟩ := IsTupK.tup (K := optK prog w) hy
    rw [ni_lr] at h
    exact SeqAt.EqAt.int_tuple i t ht (Nat.lt_of_succ_lt hu) prog w E Q h
  | .inr l, .inl j, hx, ⟨t, e1⟩, h => by
    subst e1
    obtain ⟨b, its, rfl, ht⟩ := IsTupK.tup (K := optK prog w) hx
    rw [ni_rl] at h
    exact SeqAt.EqAt.tuple_int j t ht (Nat.lt_of_succ_lt hu) prog w E Q h
  | .inr l, .inr l', hx, hy, h => by
    rw [← ni_rr] at h
    exact eq_tupK (K := optK prog w) (ni_room hu) hx hy h
def niK (prog : Program) (w : World) : IK prog w NI where
  is := IsNI prog w
  hash := fun k => match k with
    | .inl i => hashInt i
    | .inr l => tupH (optK prog w) l
  draws := fun k => match k with
    | .inl _ => 1
    | .inr l => sumD (optK prog w) l + 1
  deep := 1
  inj := fun {h v x y} a b => by
    cases x with
    | inl i =>
      obtain ⟨t, rfl⟩ := (show ∃ t, v = Value.int i t from a)
      cases y with
      | inl j => obtain ⟨t', e⟩ := (show ∃ t', Value.int i t = Value.int j t' from b); injection e with e1 _; rw [e1]
      | inr l => obtain ⟨a, _, e, _⟩ := IsTupK.tup (show IsTupK (optK prog w) h l _ from b); cases e
    | inr l =>
      cases y with
      | inl j =>
        obtain ⟨t, rfl⟩ := (show ∃ t, v = Value.int j t from b)
        obtain ⟨a, _, e, _⟩ := IsTupK.tup (show IsTupK (optK prog w) h l _ from a); cases e
      | inr l' => rw [(tupK (optK prog w)).inj (show IsTupK (optK prog w) h l v from a) (show IsTupK (optK prog w) h l' v from b)]
  keeps := fun {h h' k v d o es ep} a ho hd hs => by
    cases k with
    | inl i => exact a
    | inr l => exact (tupK (optK prog w)).keeps (show IsTupK (optK prog w) h l v from a) ho hd hs
  pyHash := fun {A E s k v Q} hu hk h => by
    cases k with
    | inl i =>
      obtain ⟨t, rfl⟩ := (show ∃ t, v = Value.int i t from hk)
      exact wpAny_pyHash_int h
    | inr l => exact hash_tupK (K := optK prog w) (ni_room hu) hk h
  eqBool := fun {A E s x y u v Q} hu hx hy h => ni_eq hu x y hx hy h
  quiet := fun {A E s k v n Q} hk h => by
    cases k with
    | inl i =>
      obtain ⟨t, rfl⟩ := (show ∃ t, v = Value.int i t from hk)
      rw [eqIsQuiet_byValue _ rfl]
      exact wpAny_pure h
    | inr l => exact quiet_tupK (K := optK prog w) hk h
end L2

set_option Elab.async false
set_option linter.all false
set_option maxRecDepth 100000
namespace L2
open PySem PySem.Spec PyProof.Rows

/-! ### dicts whose keys are pairs of an int and a tuple -/
abbrev NKey := Int × List (Option Int)
def nk (k : NKey) : List NI := [.inl k.1, .inr k.2]
theorem nk_inj {k k' : NKey} (h : nk k = nk k') : k = k' := by
  obtain ⟨a, b⟩ := k
  obtain ⟨c, d⟩ := k'
  unfold nk at h
  simp at h
  rw [h.1, h.2]
def MK (P : Program) (w : World) : HeapKind P w (List NI) := heapK (niK P w) (show 1 ≤ 7 by decide)
def NDict (P : Program) (w : World) (a : Addr) (xs : List (List NI × Addr × Value)) : HO :=
  .ext fun h => ∃ o es ep, h.get? a = some o ∧ o.ExactDict ∧ o.data = .dict es ep ∧ es.toList = xs.map (entryOfKey (MK P w)) ∧ (xs.map (·.1)).Nodup
def KeyAt (H : Hp) (k : NKey) (b : Addr) : Prop := ∃ t, H b = some (.tup [.int k.1, .ref t]) ∧ H t = some (.tup (k.2.map optV))
def NRow (H : Hp) (p : NKey × V) (q : List NI × Addr × Value) : Prop := q.1 = nk p.1 ∧ KeyAt H p.1 q.2.1 ∧ RelV p.2 q.2.2
def DN (P : Program) (w : World) (H : Hp) (a : Addr) (kvs : List (NKey × V)) : Prop :=
  ∃ xs, H a = some (NDict P w a xs) ∧ (a == sysModules) = false ∧ xs.length ≤ sizeLine ∧ Paired (NRow H) kvs xs
theorem KeyAt.mono {H H' : Hp} {k : NKey} {b : Addr} (h : KeyAt H k b) (sm : ∀ c xs, H c = some (.tup xs) → H' c = some (.tup xs)) : KeyAt H' k b := by
  obtain ⟨t, h1, h2⟩ := h
  exact ⟨t, sm _ _ h1, sm _ _ h2⟩
theorem DN.mono {P : Program} {w : World} {H H' : Hp} {a : Addr} {kvs : List (NKey × V)} (h : DN P w H a kvs) (sm : Same H H') : DN P w H' a kvs := by
  obtain ⟨xs, h1, h2, h3, h4⟩ := h
  exact ⟨xs, sm _ _ h1, h2, h3, Paired.imp' (fun p q z => ⟨z.1, z.2.1.mono fun c ys e => sm _ _ e, z.2.2⟩) h4⟩
theorem DN.len {P : Program} {w : World} {H : Hp} {a : Addr} {kvs : List (NKey × V)} (h : DN P w H a kvs) : kvs.length ≤ sizeLine := by
  obtain ⟨xs, h1, h2, h3, h4⟩ := h
  rw [Paired.length h4]; exact h3
section
variable {P : Program} {w : World} {H : Hp}
theorem NRow.val : ∀ {kvs : List (NKey × V)} {xs : List (List NI × Addr × Value)} (k : NKey), Paired (NRow H) kvs xs → RelO (valV kvs k) ((atKey xs (nk k)).map (·.2))
  | _, _, k, .nil => True.intro
  | _, _, k, @Paired.cons _ _ _ p q kvs xs r t => by
    have ih := NRow.val k t
    obtain ⟨e1, e2, e3⟩ := r
    by_cases h : p.1 = k
    · have h1 : valV (p :: kvs) k = some p.2 := by simp [valV, h]
      have h2 : atKey (q :: xs) (nk k) = some q.2 := by simp [atKey, e1, h]
      rw [h1, h2]; exact e3
    · have hn : ¬ q.1 = nk k := fun z => h (nk_inj (e1.symm.trans z))
      have h1 : valV (p :: kvs) k = valV kvs k := by simp [valV, h]
      have h2 : atKey (q :: xs) (nk k) = atKey xs (nk k) := by simp [atKey, hn]
      rw [h1, h2]; exact ih
theorem items_of_vals {h : Heap} : ∀ {l : List (Option Int)} {us : List Value}, Vals (l.map optV) us → IsItems (optK P w) h l us
  | [], _, .nil => .nil
  | x :: l, _, .cons r t => .cons r (items_of_vals t)
end
section
variable {X : Cx} {pins : List (Addr × Obj)} {σ : St} {H : Hp} {s : Shared} {a b : Addr} {k : NKey} {kvs : List (NKey × V)}
theorem Inv.key (I : Inv X pins σ H s) (h : KeyAt H k b) : (MK X.prog X.w).is s.heap (nk k) b := by
  obtain ⟨t, h1, h2⟩ := h
  obtain ⟨_, its, r, o, e, c, n, d⟩ : ([V.int k.1, V.ref t] : List V).length ≤ sizeLine ∧ ∃ its : List Value, Vals [V.int k.1, V.ref t] its ∧ IsTup s.heap b its.toArray := I.hok b _ h1
  obtain ⟨_, its2, r2, o2, e2, c2, n2, d2⟩ : (k.2.map optV).length ≤ sizeLine ∧ ∃ its : List Value, Vals (k.2.map optV) its ∧ IsTup s.heap t its.toArray := I.hok t _ h2
  obtain ⟨u, v, rfl, ru, rv⟩ := vals2 r
  cases rv
  refine ⟨b, o, _, n, rfl, e, c, d, ?_⟩
  show IsItems (niK X.prog X.w) s.heap [.inl k.1, .inr k.2] [u, .ref t]
  exact .cons ru (.cons ⟨t, o2, _, n2, rfl, e2, c2, d2, by simpa using items_of_vals r2⟩ .nil)
/-! the rules -/
theorem Paired.snoc {α β : Type} {F : α → β → Prop} {x : α} {y : β} (h : F x y) : ∀ {l : List α} {m : List β}, Paired F l m → Paired F (l ++ [x]) (m ++ [y])
  | _, _, .nil => .cons h .nil
  | _, _, .cons r t => .cons r (Paired.snoc h t)
end
end L2

set_option Elab.async false
set_option linter.all false
set_option maxRecDepth 100000
namespace L2
open PySem PySem.Spec PyProof.Rows PySem.SeqAt

/-! ### a[b], a a list, a tuple, a text or a dict of int and text keys -/
section
variable {X : Cx}
/-! ### in, not in a dict; a dict's store -/
def rSetD : TSet := fun o i v H Q => ∃ a kvs k, o = .ref a ∧ i = kV k ∧ H a = some (.dK kvs) ∧ kvs.length < sizeLine ∧ Q (upd H a (.dK (putK kvs k v)))
theorem set_D {n : Nat} (hr : Room n X.A) : PSet X rSetD := by
  intro pins s σ H o i v ov iv u Q I ro ri rv h
  obtain ⟨a, kvs, k, rfl, rfl, e, hl, q⟩ := h
  cases ro
  exact d_setItem (by have := hr.un; omega) I (DPut.k e hl) ri rv fun s' I' => ⟨_, I', q⟩
end
section
variable {K : PySem.W.Frag} {H : Hp} {Q : VK}
end
/-! ### an int, or None, unlike an int -/
section
variable {X : Cx}
end
end L2

set_option Elab.async false
set_option linter.all false
set_option maxRecDepth 100000
namespace L2
open PySem PySem.Spec PyProof.Rows PySem.SeqAt
/-! ### pop, and bools unlike -/
theorem mt_popA {X : Cx} : MtR X "list.pop" rPop := mt_pop
section
variable {K : PySem.W.Frag} {H : Hp} {Q : VK}
theorem rPop_at (p : Addr) : rPop (.ref p) [] H Q = ∃ xs y, H p = some (.lst xs) ∧ xs[xs.length - 1]? = some y ∧ Q y (upd H p (.lst xs.dropLast)) :=
  propext ⟨fun ⟨_, xs, y, e1, _, q⟩ => by cases e1; exact ⟨xs, y, q⟩, fun ⟨xs, y, q⟩ => ⟨p, xs, y, rfl, rfl, q⟩⟩
theorem rNeA_bl (i j : Bool) : rNeA (.bl i) (.bl j) H Q = Q (.bl (!(i == j))) H := by
  show (scal (.bl i) (.bl j) = true ∧ Q (.bl (!decide (V.bl i = V.bl j))) H) = _
  rw [dec_bl]; exact propext ⟨fun h => h.2, fun h => ⟨rfl, h⟩⟩
end
theorem pe_bm0K {X : Cx} (K : PySem.W.Frag) {o : Expr} {to : TE} {name : Str} {apos cpos : Pos} {T id : String} {r : V → List V → Hp → VK → Prop} (pa : PlainAttrs T) (slot : Slot T name id) (hty : typeOf (.builtin id) = pure (.type "method_descriptor")) (hm : MtR X id r) (ho : PE X o to)
    (hbase : attributeBase o name X.env (eval o X.env) = eval o X.env := by rfl) (hline : (apos.endLine == cpos.line) = true := by rfl) (hK : X.K = K := by rfl) : PE X (.Call (.Attribute o name apos) [] [] cpos) (tBM0 K T r to) := hK ▸ pe_bm0 pa slot hty hm ho hbase hline
/-! ### is True, of an int -/
end L2

set_option Elab.async false
set_option linter.all false
set_option maxRecDepth 100000
namespace L2
open PySem PySem.Spec PyProof.Rows PySem.SeqAt
theorem vals_mk : ∀ (xs : List V) (us : List Value), xs.length = us.length → (∀ (j : Nat) x u, xs[j]? = some x → us[j]? = some u → RelV x u) → Vals xs us
  | [], [], _, _ => .nil
  | [], u :: us, hl, _ => by simp at hl
  | x :: xs, [], hl, _ => by simp at hl
  | x :: xs, u :: us, hl, h => .cons (h 0 x u rfl rfl) (vals_mk xs us (by simpa using hl) fun j a b e1 e2 => h (j + 1) a b e1 e2)
/-! ### list(range(n)) -/
section
variable {X : Cx}
end
/-! ### d.values(), list(d.values()) -/
section
variable {X : Cx}
end
section
variable {prog : Program} {w : World} {K : Type} [DecidableEq K] {knd : KeyKind prog w K} {A : Around} {E : Value → Shared → Prop} {s : Shared}
end
section
variable {X : Cx}
theorem paired_get {α β : Type} {F : α → β → Prop} : ∀ {l : List α} {m : List β} {j : Nat} {a : α} {b : β}, Paired F l m → l[j]? = some a → m[j]? = some b → F a b
  | _, _, 0, _, _, .cons h _, e1, e2 => by
    cases e1; cases e2; exact h
  | _, _, j + 1, _, _, .cons _ t, e1, e2 => paired_get (j := j) t e1 e2
  | _, _, 0, _, _, .nil, e1, _ => by cases e1
  | _, _, _ + 1, _, _, .nil, e1, _ => by cases e1
end
end L2

set_option Elab.async false
set_option linter.all false
set_option maxRecDepth 100000
namespace L2
open PySem PySem.Spec PyProof.Rows PySem.SeqAt
/-! ### the places of a set's elements rise -/
def Rises (xs : Array Nat) : Prop := ∀ (a b : Nat) (ha : a < xs.size) (hb : b < xs.size), a < b → xs[a] < xs[b]
structure Good (L : Bool) (t : SetTable) : Prop where
  led : t.led = L
  rise : Rises t.place
end L2

set_option Elab.async false
set_option linter.all false
set_option maxRecDepth 100000
namespace L2
open PySem PySem.Spec PyProof.Rows PySem.SeqAt
/-! ### a set whose table is known to be G and whose elements are all different -/
section
variable {prog : Program} {w : World} {K : Type} [DecidableEq K] {knd : KeyKind prog w K} {A : Around} {E : Value → Shared → Prop} {s : Shared} {G : SetTable → Prop}
def Apart (knd : KeyKind prog w K) (l : List (Int × Value)) : Prop := l.Pairwise fun e e' => ∀ k, knd.is k e.2 = true → knd.is k e'.2 = false
theorem Apart.push {l : List (Int × Value)} {k : K} {x : Value} {hh : Int} (h : Apart knd l) (hn : ∀ e ∈ l, knd.is k e.2 = false) (hk : knd.is k x = true) : Apart knd (l ++ [(hh, x)]) := by
  refine List.pairwise_append.mpr ⟨h, List.pairwise_singleton _ _, fun e he b hb k' hk' => ?_⟩
  rw [List.mem_singleton.mp hb]
  show knd.is k' x = false
  rw [KeyKind.is_eq_decide hk k']
  refine decide_eq_false fun e' => ?_
  subst e'
  rw [hn e he] at hk'; cases hk'
structure Tab (knd : KeyKind prog w K) (G : SetTable → Prop) (o : Obj) (es : Array (Int × Value)) (ep : Nat) (t : SetTable) (S : K → Bool) (n : Nat) : Prop where
  ex : o.ExactSet
  dat : o.data = .set es ep t
  el : ElemsOf knd es.toList
  mem : ∀ k, S k = true ↔ ∃ e ∈ es.toList, knd.is k e.2 = true
  few : es.size < scanBound
  fit : t.fits es.size = true
  num : es.size = n
  good : G t
  apart : Apart knd es.toList
def SetG (knd : KeyKind prog w K) (G : SetTable → Prop) (h : Heap) (a : Addr) (S : K → Bool) (n : Nat) : Prop := ∃ o es ep t, h.get? a = some o ∧ Tab knd G o es ep t S n
/-- what is written is what stands there -/
theorem stored {h : Heap} {a : Addr} {o : Obj} {es : Array (Int × Value)} {ep : Nat} {t : SetTable} {S : K → Bool} {n : Nat} {es' : Array (Int × Value)} {t' : SetTable} {S' : K → Bool} {n' : Nat} (ho : h.get? a = some o) (T : Tab knd G o es ep t S n)
    (T' : ∀ o', o'.ExactSet → o'.data = .set es' (ep + 1) t' → Tab knd G o' es' (ep + 1) t' S' n') : ∃ o', (h.update a (Obj.putSet es' t')).get? a = some o' ∧ Tab knd G o' es' (ep + 1) t' S' n' := by
  have hp := putSet_of es' t' T.dat
  have hg := Heap.get?_update_self (Obj.putSet es' t') ho (by rw [hp]; rfl)
  rw [hp] at hg
  exact ⟨_, hg, T' _ T.ex rfl⟩
end
end L2

set_option Elab.async false
set_option linter.all false
set_option maxRecDepth 100000
set_option maxHeartbeats 4000000
namespace L2
open PySem PySem.Spec PyProof.Rows PySem.SeqAt
section
variable {prog : Program} {w : World} {A : Around} {R : Result → Shared → Prop} {I : Addr} {fp wr : List Addr} {Gm : Array GenState → Array GenState → Prop} {n : Nat} {P : Nat → Value → Prop} {St : Nat → Shared → Prop} {L : Bool}
theorem SetG.at' {K : Type} [DecidableEq K] {knd : KeyKind prog w K} {G : SetTable → Prop} {h h' : Heap} {a : Addr} {S S' : K → Bool} {m m' : Nat} (x : SetG knd G h a S m) (e : ∀ o, h.get? a = some o → h'.get? a = some o) (eS : ∀ k, S k = S' k) (em : m = m') : SetG knd G h' a S' m' := by
  obtain ⟨o, es, ep, t, ho, T⟩ := x
  have : S = S' := funext eS
  subst this; subst em
  exact ⟨o, es, ep, t, e o ho, T⟩
end
section
variable {prog : Program} {w : World} {A : Around} {E : Value → Shared → Prop} {s : Shared}
end
end L2

set_option Elab.async false
set_option linter.all false
set_option maxRecDepth 100000
set_option maxHeartbeats 4000000
namespace L2
open PySem PySem.Spec PyProof.Rows PySem.SeqAt
/-! ### set(a list of ints) -/
section
variable {X : Cx}
end
end L2

set_option Elab.async false
set_option linter.all false
set_option maxRecDepth 100000
set_option maxHeartbeats 4000000
namespace L2
open PySem PySem.Spec PyProof.Rows PySem.SeqAt
/-! ### the orders in which a set may be gone over -/
section
variable {M : Model} {A : Around} {E : Value → Shared → Prop}
end
end L2

set_option Elab.async false
set_option linter.all false
set_option maxRecDepth 100000
set_option maxHeartbeats 4000000
namespace L2
open PySem PySem.Spec PyProof.Rows PySem.SeqAt
/-! ### one step over a set that is not drawn -/
section
variable {prog : Program} {w : World} {A : Around} {E : Value → Shared → Prop} {s : Shared}
end
end L2

set_option Elab.async false
set_option linter.all false
set_option maxRecDepth 100000
set_option maxHeartbeats 4000000
namespace L2
open PySem PySem.Spec PyProof.Rows PySem.SeqAt
section
variable {prog : Program} {w : World} {A : Around} {E : Value → Shared → Prop} {s : Shared}
def IsSI (h : Heap) (it : Addr) (first : Value) (i : Nat) (a : Addr) (n ep : Nat) : Prop := ∃ o, h.get? it = some o ∧ o.cls = .type "set_iterator" ∧ o.data = .fields #[first, .int i 0, .ref a, .int n 0, .int ep 0]
theorem IsSI.typeIs {it a : Addr} {first : Value} {i n ep : Nat} (x : IsSI s.heap it first i a n ep) : s.TypeIs (.ref it) "set_iterator" := let ⟨o, ho, hc, _⟩ := x; ⟨o, ho, hc⟩
end
end L2

set_option Elab.async false
set_option linter.all false
set_option maxRecDepth 100000
set_option maxHeartbeats 4000000
namespace L2
open PySem PySem.Spec PyProof.Rows PySem.SeqAt
section
variable {prog : Program} {w : World} {A : Around} {E : Value → Shared → Prop} {s : Shared}
end
end L2

set_option Elab.async false
set_option linter.all false
set_option maxRecDepth 100000
set_option maxHeartbeats 4000000
namespace L2
open PySem PySem.Spec PyProof.Rows PySem.SeqAt
section
variable {prog : Program} {w : World} {A : Around} {E : Value → Shared → Prop} {s : Shared}
end
end L2

set_option Elab.async false
set_option linter.all false
set_option maxRecDepth 100000
set_option maxHeartbeats 4000000
namespace L2
open PySem PySem.Spec PyProof.Rows PySem.SeqAt
section
variable {prog : Program} {w : World} {A : Around} {E : Value → Shared → Prop} {s : Shared}
theorem IsSI.at' {h h' : Heap} {it a : Addr} {first : Value} {i n ep : Nat} (x : IsSI h it first i a n ep) (e : ∀ o, h.get? it = some o → h'.get? it = some o) : IsSI h' it first i a n ep := let ⟨o, ho, r⟩ := x; ⟨o, e _ ho, r⟩
end
end L2

set_option Elab.async false
set_option linter.all false
set_option maxRecDepth 100000
set_option maxHeartbeats 4000000
namespace L2
open PySem PySem.Spec PyProof.Rows PySem.SeqAt
section
variable {prog : Program} {w : World} {A : Around} {E : Value → Shared → Prop} {s : Shared}
end
section
variable {X : Cx}
end
end L2

set_option Elab.async false
set_option linter.all false
set_option maxRecDepth 100000
set_option maxHeartbeats 4000000
/-! the greatest of a list of ints -/
namespace L2
open PySem PySem.Spec PyProof PyProof.Rows
section
variable {X : Cx}
end
end L2

set_option Elab.async false
set_option linter.all false
set_option maxRecDepth 100000
set_option maxHeartbeats 4000000
/-! dicts of the module, by texts -/
namespace L2
open PySem PySem.Spec PyProof PyProof.Rows
inductive Ents (w : World) : List DictEntry → List (Str × V) → Prop
  | nil : Ents w [] []
  | cons {x : Str} {t : Tok} {y : V} {v : Value} {es : List DictEntry} {kvs : List (Str × V)} : RelV y v → Ents w es kvs → Ents w (⟨PyData.keyHash w.params x, .str x t, v⟩ :: es) ((x, y) :: kvs)
theorem Ents.vs {P : Program} {w : World} {es : List DictEntry} {kvs : List (Str × V)} (h : Ents w es kvs) : ∃ vs : List (Str × Value), KV kvs vs ∧ PySem.Pairs (PySem.strKind P w) es vs ∧ vs.map (·.1) = kvs.map (·.1) ∧ ∀ e ∈ es, ∃ k, (PySem.strKind P w).is k e.key = true ∧ e.hash = (PySem.strKind P w).hash k := by
  induction h with
  | nil => exact ⟨[], .nil, .nil, rfl, fun _ h => nomatch h⟩
  | @cons x t y v es kvs r _ ih =>
    obtain ⟨vs, h1, h2, h3, h4⟩ := ih
    have hx : (PySem.strKind P w).is x (.str x t) = true := by show Value.isStrOf x (.str x t) = true; simp [Value.isStrOf]
    refine ⟨(x, v) :: vs, .cons ⟨rfl, r⟩ h1, .cons hx rfl h2, by rw [List.map_cons, List.map_cons, h3], fun e he => ?_⟩
    rcases List.mem_cons.mp he with rfl | he
    · exact ⟨x, hx, rfl⟩
    · exact h4 e he
structure ModD (w : World) (K : PySem.W.Frag) (d : Addr) (kvs : List (Str × V)) : Prop where
  low : (d == sysModules) = false
  nd : (kvs.map (·.1)).Nodup
  at' : ∃ (o : Obj) (es : List DictEntry) (ep : Nat), K.lookup d = some o ∧ o.ExactDict ∧ o.data = .dict es.toArray ep ∧ Ents w es kvs
section
variable {X : Cx} {pins : List (Addr × Obj)} {σ : St} {H : Hp} {s : Shared} {d : Addr} {kvs : List (Str × V)}
theorem ModD.dict (h : ModD X.w X.K d kvs) (I : Inv X pins σ H s) : ∃ vs : List (Str × Value), KV kvs vs ∧ s.heap.DictOf (PySem.strKind X.prog X.w) d vs ∧ ∃ ob, s.heap.get? d = some ob ∧ ob.dict = none := by
  obtain ⟨o, es, ep, h1, h2, h3, h4⟩ := h.at'
  obtain ⟨vs, r1, r2, r3, r4⟩ := h4.vs (P := X.prog)
  have e := I.kIn d o h1
  exact ⟨vs, r1, ⟨o, es.toArray, ep, e, h2, h3, fun x hx => r4 x (by simpa using hx), by simpa using r2, by rw [r3]; exact h.nd⟩, o, e, h2.2.1⟩
theorem str_is {P : Program} {w : World} {k : Str} {u : Value} (r : RelV (.str k) u) : (PySem.strKind P w).is k u = true := by
  obtain ⟨t, rfl⟩ := r
  show Value.isStrOf k (.str k t) = true
  simp [Value.isStrOf]
end
section
variable {X : Cx}
def rIxM (w : World) (K : PySem.W.Frag) : R2 := fun x y H Q => ∃ d kvs k z, x = .ref d ∧ y = .str k ∧ ModD w K d kvs ∧ valV kvs k = some z ∧ Q z H
theorem ix_M (w : World) (K : PySem.W.Frag) (hw : X.w = w := by rfl) (hK : X.K = K := by rfl) : IxR X (rIxM w K) := by
  subst hw hK
  intro value slice pins s σ H x y v u Q I rx ry h hs
  obtain ⟨d, kvs, k, z, rfl, rfl, m, l, q⟩ := h
  cases rx
  obtain ⟨vs, rel, dd, _⟩ := m.dict I
  obtain ⟨w', hw, rw'⟩ := RelO.some_of (v := z) (o := valueAt vs k) (by rw [← l]; exact rel.val k)
  have hl : typeLookup (.type "dict") "__getitem__" = pure (some (.builtin "dict.__getitem__")) := PySem.F.slot_dict_getitem.lookup
  exact subscriptTail_builtinR (x := w') dd.typeIs hl (wpAny_getItem_of (str_is ry) dd.mapOf hw ⟨rfl, z, H, I.tok _, rw', q⟩) hs
theorem RelO.isSome {o : Option V} {p : Option Value} (h : RelO o p) : p.isSome = o.isSome := by
  cases o <;> cases p <;> first | rfl | exact h.elim
def rNotInM (w : World) (K : PySem.W.Frag) : R2 := fun x y H Q => ∃ d kvs k, y = .ref d ∧ x = .str k ∧ ModD w K d kvs ∧ Q (.bl (!(valV kvs k).isSome)) H
theorem op_notInM (w : World) (K : PySem.W.Frag) (hw : X.w = w := by rfl) (hK : X.K = K := by rfl) : OpR X (compareOp .NotIn) (rNotInM w K) := by
  subst hw hK
  intro pins s σ H x y v u Q I rx ry h
  obtain ⟨d, kvs, k, rfl, rfl, m, q⟩ := h
  cases ry
  obtain ⟨vs, rel, dd, _⟩ := m.dict I
  refine wpAny_notIn_of (str_is rx) m.low dd.mapOf ⟨.bl _, H, I.tok _, ?_, q⟩
  exact congrArg (fun b => Value.bool !b) (rel.val k).isSome
def rGetM (w : World) (K : PySem.W.Frag) : V → List V → Hp → VK → Prop := fun x xs H Q => ∃ d kvs k z, x = .ref d ∧ xs = [.str k, z] ∧ ModD w K d kvs ∧ Q ((valV kvs k).getD z) H
theorem mt_getM (w : World) (K : PySem.W.Frag) (hw : X.w = w := by rfl) (hK : X.K = K := by rfl) : MtR X "dict.get" (rGetM w K) := by
  subst hw hK
  intro pins s σ H x vs v us Q I rx rv h
  obtain ⟨d, kvs, k, z, rfl, rfl, m, q⟩ := h
  cases rx
  obtain ⟨u, r, rfl, ru, rr⟩ := vals2 rv
  obtain ⟨vs, rel, dd, _⟩ := m.dict I
  refine call_meetsIn PySem.F.slot_dict_get dd.typeIs PySem.F.entry_dict_get (PySem.F.args_dict_get_3 _ _ _) (meets_dict_get_default (PySem.strKind X.prog X.w) d (str_is ru) m.low r) ⟨_, dd.mapOf, _, H, I.tok _, ?_, q⟩
  exact (rel.val k).getD rr
/-- a dict of the module as an object -/
def tBMM (w : World) (K : PySem.W.Frag) (r : V → List V → Hp → VK → Prop) (to : TE) (t : TA) : TE := fun σ H Q => to σ H fun x H1 => (∃ d kvs, x = .ref d ∧ ModD w K d kvs) ∧ t σ H1 fun xs H2 => r x xs H2 Q
theorem pe_bmM {o e : Expr} {es : List Expr} {to : TE} {t : TA} {name : Str} {apos cpos : Pos} {id : String} {r : V → List V → Hp → VK → Prop} (w : World) (K : PySem.W.Frag) (pa : PlainAttrs "dict") (slot : Slot "dict" name id) (hty : typeOf (.builtin id) = pure (.type "method_descriptor")) (hm : MtR X id r) (ho : PE X o to) (ha : PA X (e :: es) t)
    (hbase : attributeBase o name X.env (eval o X.env) = eval o X.env := by rfl)
    (hfew : ((backTo cpos (starEach (e :: es) X.env)).all (fun x => !x.1) && (backToKw cpos (keywordEach [] X.env)).all (fun x => x.1.isSome) && decide ((e :: es).length + ([] : List Keyword).length + (if ([] : List Keyword).isEmpty then 0 else 1) < 30)) = true := by rfl)
    (hline : (apos.endLine == cpos.line) = true := by rfl) (hs : starEach (e :: es) X.env = (false, eval e X.env) :: starEach es X.env := by rfl) (hplain : (backTo cpos (starEach es X.env)).any (·.1) = false := by rfl) (hw : X.w = w := by rfl) (hK : X.K = K := by rfl) :
    PE X (.Call (.Attribute o name apos) (e :: es) [] cpos) (tBMM w K r to t) := by
  subst hw hK
  intro pins s σ H Q I h
  refine wpAny_Call_method_late hbase hfew hline rfl (thn (ho pins s σ H _ I h) fun v s1 ⟨x, H1, I1, r1, ty, q1⟩ => ?_)
  obtain ⟨d, kvs, rfl, m⟩ := ty
  have e1 : v = .ref d := r1
  subst e1
  obtain ⟨vs, rel, dd, ob, eo, en⟩ := m.dict I1
  refine ⟨"dict", id, pa, slot, hty, dd.typeIs, fun a ea => ⟨ob, by cases ea; exact eo, en⟩, ?_⟩
  have hA := ha cpos pins s1 σ H1 _ I1 q1
  rw [hs] at hA ⊢
  refine Calls.callWith_builtin (by show (false || (backTo cpos (starEach es X.env)).any (·.1)) = false; rw [hplain] <;> rfl) (Calls.evalArgs_plain ?_)
  exact thn hA fun us s2 ⟨vs, H2, I2, r2, q2⟩ => hm pins s2 σ H2 _ vs _ us Q I2 r1 r2 q2
end
theorem tBMM_at {w : World} {K : PySem.W.Frag} {r : V → List V → Hp → VK → Prop} {to : TE} {t : TA} {σ : St} {H : Hp} {Q : VK} : tBMM w K r to t σ H Q = to σ H fun x H1 => (∃ d kvs, x = .ref d ∧ ModD w K d kvs) ∧ t σ H1 fun xs H2 => r x xs H2 Q := rfl
end L2

set_option Elab.async false
set_option linter.all false
set_option maxRecDepth 100000
set_option maxHeartbeats 4000000
/-! zip of two tuples -/
namespace L2
open PySem PySem.Spec PyProof PyProof.Rows
section
variable {prog : Program} {w : World} {A : Around} {E : Value → Shared → Prop} {s : Shared}
/-- a tuple's iterator stands at k -/
def TSt (i t : Addr) (zs : Array Value) (k : Nat) (h : Heap) : Prop := h.IsTupleIter i t k ∧ h.IsTuple t zs
theorem TSt.ext {i t b : Addr} {zs : Array Value} {k : Nat} {h h' : Heap} (x : TSt i t zs k h) (hs : Heap.ExtBut b h h') (n1 : i ≠ b) (n2 : t ≠ b) : TSt i t zs k h' := ⟨x.1.extBut hs n1, x.2.extBut hs n2⟩
theorem next_tup {i t : Addr} {k : Nat} {zs : Array Value} {v : Value} {Q : Value → Shared → Prop} (st : TSt i t zs k s.heap) (nit : t ≠ i) (hv : zs[k]? = some v)
    (q : ∀ h', TSt i t zs (k + 1) h' → Heap.SameBut i s.heap h' → Q v { s with heap := h' }) : wpAny (model prog w) A (Builtin.SmallTypes.nextOf (.ref i)) Q E s := by
  obtain ⟨hi, ht⟩ := id st
  obtain ⟨ob, e1, e2, e3⟩ := id hi
  obtain ⟨ot, f1, _, m, f2⟩ := id ht
  unfold Builtin.SmallTypes.nextOf
  refine wpAny_bind (wpAny_callSpecial?_slot (name := Str.ofString "__next__") hi.typeIs PySem.F.slot_tuple_iterator_next (wpAny_call_entry PySem.F.slot_tuple_iterator_next hi.typeIs PySem.F.entry_tuple_iterator_next ?_ (PySem.F.args_tuple_iterator_next_1 _)))
  show wpAny _ _ (field (.ref i) 0 >>= _) _ _ s
  refine wpAny_bind (wpAny_field e1 e3 (x := .ref t) rfl ?_)
  show wpAny _ _ (if (Value.ref t == Value.none) = true then _ else _) _ _ s
  have hno : ¬ ((Value.ref t == Value.none) = true) := Bool.false_ne_true
  rw [if_neg hno]
  show wpAny _ _ (field (.ref i) 1 >>= _) _ _ s
  refine wpAny_bind (wpAny_field e1 e3 (x := .int k 0) rfl ?_)
  show wpAny _ _ (seqItems? (.ref t) >>= _) _ _ s
  refine wpAny_bind (wpAny_seqItems f1 f2 ?_)
  simp only [Int.toNat_natCast, hv]
  refine wpAny_bind (wpAny_setField e1 e3 (by simp) (wpAny_pure ⟨v, rfl, wpAny_pure (q _ ⟨?_, ?_⟩ (Heap.SameBut.update ..))⟩))
  · exact ⟨_, Heap.get?_update_self _ e1 (Obj.isFreed_of_fields (Obj.data_mapFields e3 _)), (Obj.cls_mapFields ..).trans e2, by rw [Obj.data_mapFields e3]; simp [rawInt]⟩
  · exact ht.extBut (Heap.SameBut.update ..).extBut nit
theorem end_tup {i t : Addr} {k : Nat} {zs : Array Value} {Q : Value → Shared → Prop} (hh : A.handled = none) (st : TSt i t zs k s.heap) (hv : zs[k]? = none)
    (q : ∀ h' e, Heap.ExtBut i s.heap h' → (∃ o, h'.get? e = some o ∧ o.cls = .type "StopIteration") → E (.ref e) { s with heap := h' }) : wpAny (model prog w) A (Builtin.SmallTypes.nextOf (.ref i)) Q E s := by
  obtain ⟨hi, ht⟩ := id st
  obtain ⟨ob, e1, e2, e3⟩ := id hi
  obtain ⟨ot, f1, _, m, f2⟩ := id ht
  unfold Builtin.SmallTypes.nextOf
  refine wpAny_bind (wpAny_callSpecial?_slot (name := Str.ofString "__next__") hi.typeIs PySem.F.slot_tuple_iterator_next (wpAny_call_entry PySem.F.slot_tuple_iterator_next hi.typeIs PySem.F.entry_tuple_iterator_next ?_ (PySem.F.args_tuple_iterator_next_1 _)))
  show wpAny _ _ (field (.ref i) 0 >>= _) _ _ s
  refine wpAny_bind (wpAny_field e1 e3 (x := .ref t) rfl ?_)
  show wpAny _ _ (if (Value.ref t == Value.none) = true then _ else _) _ _ s
  have hno : ¬ ((Value.ref t == Value.none) = true) := Bool.false_ne_true
  rw [if_neg hno]
  show wpAny _ _ (field (.ref i) 1 >>= _) _ _ s
  refine wpAny_bind (wpAny_field e1 e3 (x := .int k 0) rfl ?_)
  show wpAny _ _ (seqItems? (.ref t) >>= _) _ _ s
  refine wpAny_bind (wpAny_seqItems f1 f2 ?_)
  simp only [Int.toNat_natCast, hv]
  refine wpAny_bind (wpAny_rule (wpAny_bind (wpAny_setField e1 e3 (by simp) ?_)))
  show wpAny _ _ (newExc (.type "StopIteration") [] >>= fun z => _) _ _ _
  refine wpAny_bind ?_
  simp only [newTuple, newExc]
  refine wpAny_bind (wpAny_newObj_type (hd := by size_fits) ?_)
  refine wpAny_bind (m := firstArgMember _ _) (wpAny_of_eq (a := Value.none) (by first | (simp only [firstArgMember]; rfl) | rfl) ?_)
  refine wpAny_newObj_type (hd := by size_fits) ?_
  simp only [raiseNew]
  refine wpAny_bind (wpAny_handled ?_)
  have hn : A.in1.handled = none := hh
  first | rw [hn] | rw [hh]
  refine wpAny_bind (wpAny_pure (wpAny_throw (q _ _ (((Heap.SameBut.update ..).extBut.push _).push _) ⟨_, Heap.get?_push_size _ rfl, rfl⟩)))

variable {z TI TO i1 i2 t1 t2 : Addr} {xs ys : Array Value} {k1 k2 : Nat} {a b : Value}
theorem zipT_item {x y : Value} {Q : Value → Shared → Prop} (D : ZipApart z TI TO i1 i2 t1 t2) (gz : IsZip s.heap z TI TO .none) (gI : IsPair s.heap TI (.ref i1) (.ref i2)) (gO : IsPair s.heap TO a b)
    (g1 : TSt i1 t1 xs k1 s.heap) (g2 : TSt i2 t2 ys k2 s.heap) (hx : xs[k1]? = some x) (hy : ys[k2]? = some y)
    (q : ∀ h', IsZip h' z TI TO (rawInt s.heap.objs.size) → IsPair h' TO x y → TSt i1 t1 xs (k1 + 1) h' → TSt i2 t2 ys (k2 + 1) h' → IsPair h' s.heap.objs.size x y → h'.objs.size = s.heap.objs.size + 1 →
      (∀ c o, c ≠ z → c ≠ TO → c ≠ i1 → c ≠ i2 → s.heap.get? c = some o → h'.get? c = some o) → Q (.ref s.heap.objs.size) { s with heap := h' }) :
    wpAny (model prog w) A (Builtin.«zip.__next__» ⟨[.ref z], []⟩) (fun fin s' => ∃ v, fin = .done (.ret v) ∧ Q v s') E s := by
  show wpAny _ _ (field (.ref z) 2 >>= fun _ => _) _ _ _
  refine wpAny_bind (wpAny_field gz rfl (x := .bool false) rfl ?_)
  show wpAny _ _ (field (.ref z) 3 >>= fun _ => _) _ _ _
  refine wpAny_bind (wpAny_field gz rfl (x := .ref TI) rfl (wpAny_bind (wpAny_seqItems gI rfl ?_)))
  show wpAny _ _ (Builtin.SmallTypes.ownedTupleIsFree (.ref z) >>= fun _ => _) _ _ _
  refine wpAny_bind ?_
  unfold Builtin.SmallTypes.ownedTupleIsFree
  refine wpAny_bind (wpAny_field gz rfl (x := .none) rfl (wpAny_pure ?_))
  simp only [if_true]
  refine wpAny_bind (wpAny_rule (wpAny_bind (wpAny_field gz rfl (x := .ref TO) rfl (wpAny_bind (wpAny_setField_rec gz (by simp) fun ha z1 m1 => ?_)))))
  replace z1 : IsZip ha z TI TO .ellipsis := z1
  refine wpAny_bind ?_
  simp only [List.zipIdx_nil, List.zipIdx_cons, List.forIn_nil, List.forIn_cons]
  refine wpAny_bind (wpAny_bind (wpAny_onRaise ?_))
  show wpAny _ _ (Builtin.SmallTypes.nextOf (.ref i1) >>= fun _ => _) _ _ _
  refine wpAny_bind (next_tup (g1.ext m1.extBut D.i1z D.l1z) D.l1i1 hx fun hb r1 m2 => wpAny_pure ?_)
  have o2 : IsPair hb TO a b := m2.extBut _ _ D.TOi1 (m1.extBut _ _ D.TOz gO)
  refine wpAny_bind (wpAny_seqItems o2 rfl (wpAny_bind (wpAny_updateSeq_pair o2 fun hc o3 m3 => wpAny_bind (wpAny_letGo (wpAny_pure ?_)))))
  replace o3 : IsPair hc TO x b := o3
  refine wpAny_bind (wpAny_bind (wpAny_onRaise ?_))
  show wpAny _ _ (Builtin.SmallTypes.nextOf (.ref i2) >>= fun _ => _) _ _ _
  refine wpAny_bind (next_tup (((g2.ext m1.extBut D.i2z D.l2z).ext m2.extBut D.i12.symm D.l2i1).ext m3.extBut D.TOi2.symm D.l2TO) D.l2i2 hy fun hd r2 m4 => wpAny_pure ?_)
  have o4 : IsPair hd TO x b := m4.extBut _ _ D.TOi2 o3
  refine wpAny_bind (wpAny_seqItems o4 rfl (wpAny_bind (wpAny_updateSeq_pair o4 fun he o5 m5 => wpAny_bind (wpAny_letGo (wpAny_pure (wpAny_pure ?_))))))
  replace o5 : IsPair he TO x y := o5
  refine wpAny_bind (wpAny_seqItems o5 rfl (wpAny_bind (wpAny_newTuple ?_)))
  have hsz : he.objs.size = s.heap.objs.size := by rw [m5.1, m4.1, m3.1, m2.1, m1.1]
  have z5 : IsZip he z TI TO .ellipsis := m5.extBut _ _ D.TOz.symm (m4.extBut _ _ D.i2z.symm (m3.extBut _ _ D.TOz.symm (m2.extBut _ _ D.i1z.symm z1)))
  have kp : ∀ c o, c ≠ z → c ≠ TO → c ≠ i1 → c ≠ i2 → s.heap.get? c = some o → he.get? c = some o := fun c o c1 c2 c3 c4 e => m5.extBut _ _ c2 (m4.extBut _ _ c4 (m3.extBut _ _ c2 (m2.extBut _ _ c3 (m1.extBut _ _ c1 e))))
  have r1' : TSt i1 t1 xs (k1 + 1) he := ((r1.ext m3.extBut D.TOi1.symm D.l1TO).ext m4.extBut D.i12 D.l1i2).ext m5.extBut D.TOi1.symm D.l1TO
  have r2' : TSt i2 t2 ys (k2 + 1) he := r2.ext m5.extBut D.TOi2.symm D.l2TO
  have zlt : z < he.objs.size := Heap.lt_size z5
  show wpAny _ _ (Builtin.SmallTypes.ownedTupleHandOut (.ref z) (.ref he.objs.size) >>= fun _ => _) _ _ _
  refine wpAny_bind ?_
  unfold Builtin.SmallTypes.ownedTupleHandOut
  have z6 : IsZip (he.push { cls := .type "tuple", data := .seq #[x, y] }) z TI TO .ellipsis := Heap.get?_push_of_some _ z5
  refine wpAny_bind (wpAny_setField_rec z6 (by simp) fun hf z7 m7 => ?_)
  replace z7 : IsZip hf z TI TO (rawInt he.objs.size) := z7
  refine wpAny_setField_rec z7 (by simp) fun hg z8 m8 => ?_
  replace z8 : IsZip hg z TI TO (rawInt he.objs.size) := z8
  have up : ∀ c o, c ≠ z → he.get? c = some o → hg.get? c = some o := fun c o c1 e => m8.extBut _ _ c1 (m7.extBut _ _ c1 (Heap.get?_push_of_some _ e))
  have t8 : IsPair hg he.objs.size x y := m8.extBut _ _ (Nat.ne_of_gt zlt) (m7.extBut _ _ (Nat.ne_of_gt zlt) (Heap.get?_push_size _ rfl))
  have s8 : hg.objs.size = he.objs.size + 1 := by rw [m8.1, m7.1, Heap.size_push]
  rw [hsz] at z8 t8 s8
  refine wpAny_pure ⟨_, rfl, ?_⟩
  show Q (.ref he.objs.size) _
  rw [hsz]
  have ex : Heap.ExtBut z he hg := fun c o c1 e => up c o c1 e
  exact q hg z8 (up _ _ D.TOz o5) (r1'.ext ex D.i1z D.l1z) (r2'.ext ex D.i2z D.l2z) t8 s8 fun c o c1 c2 c3 c4 e => up c o c1 (kp c o c1 c2 c3 c4 e)
theorem zipT_end {Q : Fin → Shared → Prop} (hh : A.handled = none) (D : ZipApart z TI TO i1 i2 t1 t2) (gz : IsZip s.heap z TI TO .none) (gI : IsPair s.heap TI (.ref i1) (.ref i2)) (gO : IsPair s.heap TO a b)
    (g1 : TSt i1 t1 xs k1 s.heap) (g2 : TSt i2 t2 ys k2 s.heap) (hend : xs[k1]? = none ∨ ys[k2]? = none)
    (q : ∀ h' e, (∀ c o, c ≠ z → c ≠ TO → c ≠ i1 → c ≠ i2 → s.heap.get? c = some o → h'.get? c = some o) → (∃ o, h'.get? e = some o ∧ o.cls = .type "StopIteration") → E (.ref e) { s with heap := h' }) :
    wpAny (model prog w) A (Builtin.«zip.__next__» ⟨[.ref z], []⟩) Q E s := by
  show wpAny _ _ (field (.ref z) 2 >>= fun _ => _) _ _ _
  refine wpAny_bind (wpAny_field gz rfl (x := .bool false) rfl ?_)
  show wpAny _ _ (field (.ref z) 3 >>= fun _ => _) _ _ _
  refine wpAny_bind (wpAny_field gz rfl (x := .ref TI) rfl (wpAny_bind (wpAny_seqItems gI rfl ?_)))
  show wpAny _ _ (Builtin.SmallTypes.ownedTupleIsFree (.ref z) >>= fun _ => _) _ _ _
  refine wpAny_bind ?_
  unfold Builtin.SmallTypes.ownedTupleIsFree
  refine wpAny_bind (wpAny_field gz rfl (x := .none) rfl (wpAny_pure ?_))
  simp only [if_true]
  refine wpAny_bind (wpAny_rule (wpAny_bind (wpAny_field gz rfl (x := .ref TO) rfl (wpAny_bind (wpAny_setField_rec gz (by simp) fun ha z1 m1 => ?_)))))
  replace z1 : IsZip ha z TI TO .ellipsis := z1
  refine wpAny_bind ?_
  simp only [List.zipIdx_nil, List.zipIdx_cons, List.forIn_nil, List.forIn_cons]
  refine wpAny_bind (wpAny_bind (wpAny_onRaise ?_))
  show wpAny _ _ (Builtin.SmallTypes.nextOf (.ref i1) >>= fun _ => _) _ _ _
  have stop : ∀ {h' : Heap} {e : Addr}, IsZip h' z TI TO .ellipsis → (∃ o, h'.get? e = some o ∧ o.cls = .type "StopIteration") → e ≠ z := fun {h' e} hz ⟨o, ho, hc⟩ n => by
    subst n; rw [hz] at ho; cases ho; simp at hc
  rcases hx : xs[k1]? with _ | x
  · refine wpAny_bind (end_tup hh (g1.ext m1.extBut D.i1z D.l1z) hx fun hb e m2 he => ?_)
    have z2 : IsZip hb z TI TO .ellipsis := m2 _ _ D.i1z.symm z1
    have nz := stop z2 he
    obtain ⟨oe, p1, p2⟩ := he
    exact wpAny_setField_rec z2 (by simp) fun hc _ m3 => q hc e (fun c o c1 _ c3 _ x => m3.extBut _ _ c1 (m2 _ _ c3 (m1.extBut _ _ c1 x))) ⟨oe, m3.extBut _ _ nz p1, p2⟩
  · have hy : ys[k2]? = none := by
      rcases hend with h | h
      · rw [hx] at h; cases h
      · exact h
    refine wpAny_bind (next_tup (g1.ext m1.extBut D.i1z D.l1z) D.l1i1 hx fun hb r1 m2 => wpAny_pure ?_)
    have o2 : IsPair hb TO a b := m2.extBut _ _ D.TOi1 (m1.extBut _ _ D.TOz gO)
    refine wpAny_bind (wpAny_seqItems o2 rfl (wpAny_bind (wpAny_updateSeq_pair o2 fun hc o3 m3 => wpAny_bind (wpAny_letGo (wpAny_pure ?_)))))
    refine wpAny_bind (wpAny_bind (wpAny_onRaise ?_))
    show wpAny _ _ (Builtin.SmallTypes.nextOf (.ref i2) >>= fun _ => _) _ _ _
    refine wpAny_bind (end_tup hh (((g2.ext m1.extBut D.i2z D.l2z).ext m2.extBut D.i12.symm D.l2i1).ext m3.extBut D.TOi2.symm D.l2TO) hy fun hd e m4 he => ?_)
    have z4 : IsZip hd z TI TO .ellipsis := m4 _ _ D.i2z.symm (m3.extBut _ _ D.TOz.symm (m2.extBut _ _ D.i1z.symm z1))
    have nz := stop z4 he
    obtain ⟨oe, p1, p2⟩ := he
    exact wpAny_setField_rec z4 (by simp) fun hg _ m5 => q hg e (fun c o c1 c2 c3 c4 x => m5.extBut _ _ c1 (m4 _ _ c4 (m3.extBut _ _ c2 (m2.extBut _ _ c3 (m1.extBut _ _ c1 x))))) ⟨oe, m5.extBut _ _ nz p1, p2⟩
end
end L2

set_option Elab.async false
set_option linter.all false
set_option maxRecDepth 100000
set_option maxHeartbeats 4000000
/-! zip of two tuples, gone over -/
namespace L2
open PySem PySem.Spec PyProof PyProof.Rows
section
variable {prog : Program} {w : World} {A : Around} {E : Value → Shared → Prop} {s : Shared} {z TI TO i1 i2 t1 t2 : Addr} {xs ys : Array Value} {k1 k2 : Nat} {a b : Value}
theorem nextT_item {x y : Value} {Q : Option Value → Shared → Prop} (D : ZipApart z TI TO i1 i2 t1 t2) (gz : IsZip s.heap z TI TO .none) (gI : IsPair s.heap TI (.ref i1) (.ref i2)) (gO : IsPair s.heap TO a b)
    (g1 : TSt i1 t1 xs k1 s.heap) (g2 : TSt i2 t2 ys k2 s.heap) (hx : xs[k1]? = some x) (hy : ys[k2]? = some y)
    (q : ∀ h', IsZip h' z TI TO (rawInt s.heap.objs.size) → IsPair h' TO x y → TSt i1 t1 xs (k1 + 1) h' → TSt i2 t2 ys (k2 + 1) h' → IsPair h' s.heap.objs.size x y → h'.objs.size = s.heap.objs.size + 1 →
      (∀ c o, c ≠ z → c ≠ TO → c ≠ i1 → c ≠ i2 → s.heap.get? c = some o → h'.get? c = some o) → Q (some (.ref s.heap.objs.size)) { s with heap := h' }) : wpAny (model prog w) A (pyNext (.ref z)) Q E s := by
  have ty : s.TypeIs (.ref z) "zip" := ⟨_, gz, rfl⟩
  unfold pyNext
  exact wpAny_bind (wpAny_attempt (wpAny_callSpecial?_slot (name := Str.ofString "__next__") ty PySem.F.slot_zip_next (wpAny_call_entry PySem.F.slot_zip_next ty PySem.F.entry_zip_next
    (zipT_item D gz gI gO g1 g2 hx hy fun h' a1 a2 a3 a4 a5 a6 a7 => wpAny_pure (q h' a1 a2 a3 a4 a5 a6 a7)) (PySem.F.args_zip_next_1 _))))
theorem nextT_end {Q : Option Value → Shared → Prop} (hh : A.handled = none) (D : ZipApart z TI TO i1 i2 t1 t2) (gz : IsZip s.heap z TI TO .none) (gI : IsPair s.heap TI (.ref i1) (.ref i2)) (gO : IsPair s.heap TO a b)
    (g1 : TSt i1 t1 xs k1 s.heap) (g2 : TSt i2 t2 ys k2 s.heap) (hend : xs[k1]? = none ∨ ys[k2]? = none)
    (q : ∀ h', (∀ c o, c ≠ z → c ≠ TO → c ≠ i1 → c ≠ i2 → s.heap.get? c = some o → h'.get? c = some o) → Q none { s with heap := h' }) : wpAny (model prog w) A (pyNext (.ref z)) Q E s := by
  have ty : s.TypeIs (.ref z) "zip" := ⟨_, gz, rfl⟩
  unfold pyNext
  refine wpAny_bind (wpAny_attempt (wpAny_callSpecial?_slot (name := Str.ofString "__next__") ty PySem.F.slot_zip_next (wpAny_call_entry PySem.F.slot_zip_next ty PySem.F.entry_zip_next
    (zipT_end hh D gz gI gO g1 g2 hend fun h' e kk he => ?_) (PySem.F.args_zip_next_1 _))))
  obtain ⟨o, ho, hc⟩ := he
  exact wpAny_bind (wpAny_isInstance (T := "StopIteration") (b := true) ⟨o, ho, hc⟩ isSubtype_stop (wpAny_pure (q _ kk)))
abbrev tz1 (h : Heap) (t1 : Addr) : Heap := h.push { cls := .type "tuple_iterator", data := .fields #[.ref t1, .int 0 0] }
abbrev tz2 (h : Heap) (t1 t2 : Addr) : Heap := (tz1 h t1).push { cls := .type "tuple_iterator", data := .fields #[.ref t2, .int 0 0] }
abbrev tz3 (h : Heap) (t1 t2 : Addr) : Heap := (tz2 h t1 t2).push { cls := .type "tuple", data := .seq #[.ref h.objs.size, .ref (tz1 h t1).objs.size] }
abbrev tz4 (h : Heap) (t1 t2 : Addr) : Heap := (tz3 h t1 t2).push { cls := .type "tuple", data := .seq #[.none, .none] }
abbrev tz5 (h : Heap) (t1 t2 : Addr) : Heap := (tz4 h t1 t2).push { cls := .type "zip", data := .fields #[.none, .bool false, .bool false, .ref (tz2 h t1 t2).objs.size, .ref (tz3 h t1 t2).objs.size] }
theorem meets_zipT (t1 t2 : Addr) (xs ys : Array Value) : Meets (Builtin.«zip.__new__» ⟨[.type "zip", .ref t1, .ref t2], []⟩) (fun _ R s => s.heap.IsTuple t1 xs ∧ s.heap.IsTuple t2 ys ∧
      R (.ok (.ret (.ref (tz4 s.heap t1 t2).objs.size))) { s with heap := tz5 s.heap t1 t2 }) :=
  .of_wp fun prog w A R s q => by
    obtain ⟨hp, g, d, tk, os⟩ := s
    obtain ⟨e1, e2, q⟩ := q
    have hsub := sub_zip
    have f1 : Heap.IsTuple (Shared.heap ⟨hp, g, d, tk, os⟩) t1 xs := e1
    have f2 : Heap.IsTuple (Shared.heap ⟨hp.push { cls := .type "tuple_iterator", data := .fields #[.ref t1, .int 0 0] }, g, d, tk, os⟩) t2 ys := Heap.IsTuple.push e2 _
    wp_walk using wpAny_pyIter_tuple f1, wpAny_pyIter_tuple f2
    exact ⟨_, rfl, q⟩
theorem call_zipT {Q : Value → Shared → Prop} (e1 : s.heap.IsTuple t1 xs) (e2 : s.heap.IsTuple t2 ys)
    (q : ∀ h', IsZip h' (s.heap.objs.size + 4) (s.heap.objs.size + 2) (s.heap.objs.size + 3) .none → IsPair h' (s.heap.objs.size + 2) (.ref s.heap.objs.size) (.ref (s.heap.objs.size + 1)) →
      IsPair h' (s.heap.objs.size + 3) .none .none → TSt s.heap.objs.size t1 xs 0 h' → TSt (s.heap.objs.size + 1) t2 ys 0 h' →
      (∀ c o, s.heap.get? c = some o → h'.get? c = some o) → Q (.ref (s.heap.objs.size + 4)) { s with heap := h' }) : wpAny (model prog w) A (call (.type "zip") [.ref t1, .ref t2]) Q E s := by
  refine callType_new PySem.F.called_zip (by decide) (PySem.F.typeCall_zip_2 _ _) (PySem.F.newCall_zip_2 _ _) (fun obj => PySem.F.args_object_init_3 obj _ _) PySem.F.entry_zip_new (meets_zipT t1 t2 xs ys) ⟨e1, e2, ?_⟩
  have z1 : (tz1 s.heap t1).objs.size = s.heap.objs.size + 1 := Heap.size_push ..
  have z2 : (tz2 s.heap t1 t2).objs.size = s.heap.objs.size + 2 := by rw [Heap.size_push, z1]
  have z3 : (tz3 s.heap t1 t2).objs.size = s.heap.objs.size + 3 := by rw [Heap.size_push, z2]
  have z4 : (tz4 s.heap t1 t2).objs.size = s.heap.objs.size + 4 := by rw [Heap.size_push, z3]
  have p : ∀ {h : Heap} {o : Obj} {c : Addr} {u : Obj}, h.get? c = some u → (h.push o).get? c = some u := fun e => Heap.get?_push_of_some _ e
  have kk : ∀ c o, s.heap.get? c = some o → (tz5 s.heap t1 t2).get? c = some o := fun c o e => p (p (p (p (p e))))
  have g5 : (tz5 s.heap t1 t2).get? (tz4 s.heap t1 t2).objs.size = some _ := Heap.get?_push_size _ rfl
  have g4 : (tz5 s.heap t1 t2).get? (tz3 s.heap t1 t2).objs.size = some _ := p (Heap.get?_push_size _ rfl)
  have g3 : (tz5 s.heap t1 t2).get? (tz2 s.heap t1 t2).objs.size = some _ := p (p (Heap.get?_push_size _ rfl))
  have g2 : (tz5 s.heap t1 t2).get? (tz1 s.heap t1).objs.size = some _ := p (p (p (Heap.get?_push_size _ rfl)))
  have g1 : (tz5 s.heap t1 t2).get? s.heap.objs.size = some _ := p (p (p (p (Heap.get?_push_size _ rfl))))
  show _ ∧ _
  rw [z2, z3, z4] at g5
  rw [z1, z2] at g3
  rw [z3] at g4
  rw [z1] at g2
  rw [z4]
  have tt : ∀ {t zs}, s.heap.IsTuple t zs → (tz5 s.heap t1 t2).IsTuple t zs := fun ⟨o, e, r⟩ => ⟨o, kk _ _ e, r⟩
  exact ⟨⟨_, g5, rfl⟩, q _ g5 g3 g4 ⟨⟨_, g1, rfl, rfl⟩, tt e1⟩ ⟨⟨_, g2, rfl, rfl⟩, tt e2⟩ kk⟩
end
def Itu (K : PySem.W.Frag) (a b : Addr) : It :=
  ⟨fun i H => ∃ xs ys x y, SqT K H a xs ∧ SqT K H b ys ∧ xs[i]? = some x ∧ ys[i]? = some y,
   fun i H v H' => ∃ t x y, H t = none ∧ v = .ref t ∧ H' = upd H t (.tup [x, y]) ∧ (∀ xs, SqT K H a xs → xs[i]? = some x) ∧ ∀ ys, SqT K H b ys → ys[i]? = some y,
   fun i H => ∃ xs ys, SqT K H a xs ∧ SqT K H b ys ∧ (xs.length ≤ i ∨ ys.length ≤ i)⟩
def UZ (z TI TO i1 i2 l1 l2 : Addr) (i : Nat) (h : Heap) : Prop :=
  IsZip h z TI TO .none ∧ IsPair h TI (.ref i1) (.ref i2) ∧ (∃ a b, IsPair h TO a b) ∧ h.IsTupleIter i1 l1 i ∧ h.IsTupleIter i2 l2 i
end L2

set_option Elab.async false
set_option linter.all false
set_option maxRecDepth 100000
set_option maxHeartbeats 4000000
namespace L2
open PySem PySem.Spec PyProof PyProof.Rows
theorem SqT.apart {X : Cx} {pins : List (Addr × Obj)} {σ : St} {H : Hp} {s : Shared} {a c : Addr} {xs : List V} (I : Inv X pins σ H s) (hf : FpOk X pins H c) (h : SqT X.K H a xs) : a ≠ c := by
  rintro rfl
  rcases h with h | ⟨o, its, n, hk, _⟩
  · rcases h with e | ⟨o, e⟩ <;> (rw [hf.1] at e; cases e)
  · have e := I.ok.mod.kin a o hk
    rcases hf.2.2.2.1 with z | z
    · exact I.ok.noex a o e z
    · exact absurd (Nat.lt_of_lt_of_le (Heap.lt_size (I.ok.bs a o e).1) z) (Nat.lt_irrefl _)
theorem turn_zipT {P : Program} {w : World} {K : PySem.W.Frag} {elts : List Expr} {k : Nat} {pos : Pos} {z TI TO i1 i2 l1 l2 : Addr} (D : ZApart z TI TO i1 i2) : Turn P w K (.Tuple elts k pos) (Itu K l1 l2) [z, TI, TO, i1, i2] z (UZ z TI TO i1 i2 l1 l2) where
  mem := by simp
  obj := fun i h st b hb => by
    obtain ⟨s1, s2, ⟨_, _, s3⟩, ⟨o4, s4, c4, d4⟩, ⟨o5, s5, c5, d5⟩⟩ := st
    simp only [List.mem_cons, List.mem_nil_iff, or_false] at hb
    rcases hb with rfl | rfl | rfl | rfl | rfl
    · exact ⟨_, s1, fun v e => by cases e⟩
    · exact ⟨_, s2, fun v e => by cases e⟩
    · exact ⟨_, s3, fun v e => by cases e⟩
    · exact ⟨_, s4, fun v e => by rw [d4] at e; cases e⟩
    · exact ⟨_, s5, fun v e => by rw [d5] at e; cases e⟩
  keep := fun i h h' st kk => by
    obtain ⟨s1, s2, ⟨a, b, s3⟩, s4, s5⟩ := st
    exact ⟨kk z (by simp) _ s1, kk TI (by simp) _ s2, ⟨a, b, kk TO (by simp) _ s3⟩, s4.at fun o e => kk i1 (by simp) o e, s5.at fun o e => kk i2 (by simp) o e⟩
  item := by
    intro X hP hw hK hc i pins s σ H E I hf st hg
    subst hP hw hK
    obtain ⟨xs, ys, x, y, q1, q2, hx, hy⟩ := hg
    obtain ⟨is1, rv1, p1, _⟩ := I.tuple q1
    obtain ⟨is2, rv2, p2, _⟩ := I.tuple q2
    obtain ⟨u1, hu1, ru1⟩ := rv1.get hx
    obtain ⟨u2, hu2, ru2⟩ := rv2.get hy
    have n1 : ∀ c ∈ [z, TI, TO, i1, i2], l1 ≠ c := fun c hc' => SqT.apart I (hf c hc') q1
    have n2 : ∀ c ∈ [z, TI, TO, i1, i2], l2 ≠ c := fun c hc' => SqT.apart I (hf c hc') q2
    have D' : ZipApart z TI TO i1 i2 l1 l2 := ⟨D.TIz, D.TOz, D.i1z, D.i2z, D.TITO, D.TIi1, D.TIi2, D.TOi1, D.TOi2, D.i12, n1 _ (by simp), n1 _ (by simp), n1 _ (by simp), n1 _ (by simp), n2 _ (by simp), n2 _ (by simp), n2 _ (by simp), n2 _ (by simp)⟩
    obtain ⟨s1, s2, ⟨a, b, s3⟩, s4, s5⟩ := st
    have e1 : s.heap.IsTuple l1 is1.toArray := p1
    have e2 : s.heap.IsTuple l2 is2.toArray := p2
    refine nextT_item D' s1 s2 s3 ⟨s4, e1⟩ ⟨s5, e2⟩ (x := u1) (y := u2) (by simpa using hu1) (by simpa using hu2) fun h' a1 a2 a3 a4 a5 a6 kk => ?_
    refine ⟨_, rfl, wpAny_letOwnedTupleGo_zip a1 fun h'' hz' hs' => ?_⟩
    have lt : ∀ {c o}, s.heap.get? c = some o → s.heap.objs.size ≠ c := fun e => Nat.ne_of_gt (Heap.lt_size e)
    have zne : s.heap.objs.size ≠ z := lt s1
    have keep2 : ∀ b o, b ∉ [z, TI, TO, i1, i2] → s.heap.get? b = some o → h''.get? b = some o := fun b o hb e => by
      simp only [List.mem_cons, List.mem_nil_iff, or_false, not_or] at hb
      exact hs'.extBut _ _ hb.1 (kk b o hb.1 hb.2.2.1 hb.2.2.2.1 hb.2.2.2.2 e)
    have hsz : H s.heap.objs.size = none := I.hok.fresh (Nat.le_refl _)
    have tupN : IsPair h'' s.heap.objs.size u1 u2 := hs'.extBut _ _ zne a5
    have nlt : ∀ c ∈ [z, TI, TO, i1, i2], c ≠ s.heap.objs.size := fun c hc' => by
      obtain ⟨o4, e4, _⟩ := id s4
      obtain ⟨o5, e5, _⟩ := id s5
      simp only [List.mem_cons, List.mem_nil_iff, or_false] at hc'
      rcases hc' with rfl | rfl | rfl | rfl | rfl
      · exact (lt s1).symm
      · exact (lt s2).symm
      · exact (lt s3).symm
      · exact (lt e4).symm
      · exact (lt e5).symm
    refine ⟨.ref s.heap.objs.size, upd H s.heap.objs.size (.tup [x, y]), I.turnedLaid (t' := s.toks) keep2 hf (Nat.le_refl _) ⟨smallL (by show 2 ≤ 1000000; decide), [u1, u2], .cons ru1 (.cons ru2 .nil), ⟨_, tupN, rfl, 0, rfl⟩⟩, rfl, ⟨_, x, y, hsz, rfl, rfl, fun xs' q' => ?_, fun ys' q' => ?_⟩,
      ⟨hz', hs'.extBut _ _ D.TIz (kk _ _ D.TIz D.TITO D.TIi1 D.TIi2 s2), ⟨_, _, hs'.extBut _ _ D.TOz a2⟩, a3.1.extBut hs'.extBut D.i1z, a4.1.extBut hs'.extBut D.i2z⟩, fun c hc' => ?_⟩
    · rw [I.tuple_inj q' q1]; exact hx
    · rw [I.tuple_inj q' q2]; exact hy
    · rw [upd_ne (nlt c hc')]; exact (hf c hc').1
  done := by
    intro X hP hw hK hc i pins s σ H E I hf st hg
    subst hP hw hK
    obtain ⟨xs, ys, q1, q2, hlen⟩ := hg
    obtain ⟨is1, rv1, p1, _⟩ := I.tuple q1
    obtain ⟨is2, rv2, p2, _⟩ := I.tuple q2
    have l1 := rv1.length
    have l2 := rv2.length
    have n1 : ∀ c ∈ [z, TI, TO, i1, i2], _ ≠ c := fun c hc' => SqT.apart I (hf c hc') q1
    have n2 : ∀ c ∈ [z, TI, TO, i1, i2], _ ≠ c := fun c hc' => SqT.apart I (hf c hc') q2
    have D' : ZipApart z TI TO i1 i2 _ _ := ⟨D.TIz, D.TOz, D.i1z, D.i2z, D.TITO, D.TIi1, D.TIi2, D.TOi1, D.TOi2, D.i12, n1 _ (by simp), n1 _ (by simp), n1 _ (by simp), n1 _ (by simp), n2 _ (by simp), n2 _ (by simp), n2 _ (by simp), n2 _ (by simp)⟩
    obtain ⟨s1, s2, ⟨a, b, s3⟩, s4, s5⟩ := st
    have e1 : s.heap.IsTuple _ is1.toArray := p1
    have e2 : s.heap.IsTuple _ is2.toArray := p2
    refine nextT_end (I.ok.hd hc) D' s1 s2 s3 ⟨s4, e1⟩ ⟨s5, e2⟩ ?_ fun h' kk => ⟨rfl, I.turnedL (t' := s.toks) (fun b o hb e => ?_) hf⟩
    · rcases hlen with z | z
      · exact .inl (by simp; omega)
      · exact .inr (by simp; omega)
    · simp only [List.mem_cons, List.mem_nil_iff, or_false, not_or] at hb
      exact kk b o hb.1 hb.2.2.1 hb.2.2.2.1 hb.2.2.2.2 e
  self := fun A i s Q E st h => wpAny_pyIter_zip st.1 h
def iZipT (K : PySem.W.Frag) (ta : TA) : TI := fun σ H R => ta σ H fun vs H1 => ∃ a b : Addr, vs = [.ref a, .ref b] ∧ (∃ xs, SqT K H1 a xs) ∧ (∃ ys, SqT K H1 b ys) ∧ R (Itu K a b) H1
theorem iZipT_at (K : PySem.W.Frag) (ta : TA) {σ : St} {H : Hp} {R : It → Hp → Prop} : iZipT K ta σ H R = ta σ H fun vs H1 => ∃ a b : Addr, vs = [.ref a, .ref b] ∧ (∃ xs, SqT K H1 a xs) ∧ (∃ ys, SqT K H1 b ys) ∧ R (Itu K a b) H1 := rfl
theorem pi_zipT (K : PySem.W.Frag) {X : Cx} {elts : List Expr} {k : Nat} {tpos : Pos} {a b : Expr} {ta : TA} {p pos : Pos} (hg : Gl X "zip") (hm : X.mg "zip" = none) (ha : PA X [a, b] ta) (hs : starEach [a, b] X.env = [(false, eval a X.env), (false, eval b X.env)] := by rfl) (hs2 : starEach [b] X.env = [(false, eval b X.env)] := by rfl) (hK : X.K = K := by rfl) :
    PI X (.Tuple elts k tpos) (.Call (.Name "zip" p) [a, b] [] pos) (iZipT K ta) := by
  subst hK
  intro pins s σ H R I h
  refine Call_ (ld_blt I hg hm boot_zip (PyProof.Rows.callWith_type1 (thn (ha pos pins s σ H _ I h) fun us s1 ⟨vs, H1, I1, r1, q1⟩ => ?_) (by rw [hs, hs2]) (by rw [hs2]; rfl)))
  obtain ⟨l1, l2, e, ⟨xs, h1⟩, ⟨ys, h2⟩, q⟩ := q1
  subst e
  obtain ⟨u1, u2, rfl, r1, r2⟩ := vals2 r1
  cases r1
  cases r2
  obtain ⟨is1, _, p1, _⟩ := I1.tuple h1
  obtain ⟨is2, _, p2, _⟩ := I1.tuple h2
  refine call_zipT (show s1.heap.IsTuple l1 is1.toArray from p1) (show s1.heap.IsTuple l2 is2.toArray from p2) fun h' a1 a2 a3 a4 a5 kk => ?_
  refine wpAny_pyIter_zip a1 ⟨_, [s1.heap.objs.size + 4, s1.heap.objs.size + 2, s1.heap.objs.size + 3, s1.heap.objs.size, s1.heap.objs.size + 1], _, _, H1, rfl, I1.kept (t' := s1.toks) kk,
    turn_zipT (z := s1.heap.objs.size + 4) (TI := s1.heap.objs.size + 2) (TO := s1.heap.objs.size + 3) (i1 := s1.heap.objs.size) (i2 := s1.heap.objs.size + 1) (zap _), ⟨a1, a2, ⟨_, _, a3⟩, a4.1, a5.1⟩, fun b hb => ?_, q⟩
  have hb' : s1.heap.objs.size ≤ b := by
    simp only [List.mem_cons, List.mem_nil_iff, or_false] at hb
    rcases hb with rfl | rfl | rfl | rfl | rfl <;> first | exact Nat.le_refl _ | exact Nat.le_add_right _ _
  exact I1.fpOk hb' (I1.hok.fresh hb')
end L2

set_option Elab.async false
set_option linter.all false
set_option maxRecDepth 100000
set_option maxHeartbeats 4000000
namespace L2
open PySem PySem.Spec PyProof PyProof.Rows
/-! a tuple cut, the whole of it is itself -/
section
variable {prog : Program} {w : World} {A : Around} {E : Value → Shared → Prop} {s : Shared}
theorem getItem_whole {t sl : Addr} {items : Array Value} {vl vu : Value} {lo hi : Option Int} {Q : Value → Shared → Prop} (ht : IsTup s.heap t items) (hs : s.heap.IsSliceOf sl vl vu .none) (pl : PySem.IsPart vl lo) (pu : PySem.IsPart vu hi)
    (hw : HT.sIx items.size 0 lo = 0 ∧ HT.sIx items.size items.size hi = items.size) (q : Q (.ref t) s) : wpAny (model prog w) A (getItem (.ref t) (.ref sl)) Q E s := by
  obtain ⟨os, g1, g2, g3⟩ := id hs
  have ty : s.TypeIs (.ref sl) "slice" := ⟨os, g1, g2⟩
  unfold getItem
  try with_reducible refine wpAny_holding ?_
  first | refine wpAny_bind (wpAny_pure ?_) | skip
  refine wpAny_bind (wpAny_sequenceKey ht.typeIs (by decide) (wpAny_bind (wpAny_callSpecial?_slot (name := Str.ofString "__getitem__") ht.typeIs PyProof.Rows.slot_tuple_getitem (wpAny_call_entry PyProof.Rows.slot_tuple_getitem ht.typeIs entry_tuple_getitem ?_ (args_tuple_getitem _ _)))))
  show wpAny _ _ (Builtin.Tuple.tupleItemsOf (.ref t) >>= fun _ => _) _ _ s
  refine wpAny_bind (tupleItemsOf_ ht (wpAny_bind (wpAny_typeOf ty ?_)))
  rw [if_pos (by decide)]
  refine wpAny_bind (HT.sliceApplied_gen hs pl pu ?_)
  have hyes : ((((HT.sIx items.size 0 lo : Nat) : Int) == 0 && (1 : Int) == 1 && (HT.sIx items.size items.size hi - HT.sIx items.size 0 lo) == items.size) = true) := by
    rw [hw.1, hw.2]; simp
  show wpAny _ _ (if (((HT.sIx items.size 0 lo : Nat) : Int) == 0 && (1 : Int) == 1 && (HT.sIx items.size items.size hi - HT.sIx items.size 0 lo) == items.size) = true then _ else _) _ _ s
  rw [if_pos hyes]
  refine wpAny_bind (m := Builtin.Tuple.tupleIsExact _) (wpAny_bind (wpAny_typeOf ht.typeIs (wpAny_pure ?_)))
  have hb : (Value.type "tuple" == Value.type "tuple") = true := by decide
  rw [hb, if_pos rfl]
  exact wpAny_bind (wpAny_rule (wpAny_pure ⟨_, rfl, wpAny_pure q⟩))
end
section
variable {X : Cx}
/-- t[lo:hi] -/
def rSlTA (K : PySem.W.Frag) : V → Option Int → Option Int → Hp → VK → Prop := fun x lo hi H Q => ∃ a xs, x = .ref a ∧ SqT K H a xs ∧
  (HT.sIx xs.length 0 lo = 0 ∧ HT.sIx xs.length xs.length hi = xs.length → Q (.ref a) H) ∧ (¬ (HT.sIx xs.length 0 lo = 0 ∧ HT.sIx xs.length xs.length hi = xs.length) → ∀ p, H p = none → Q (.ref p) (upd H p (.tup (cutV xs lo hi))))
theorem sl_tupA (K : PySem.W.Frag) (hK : X.K = K := by rfl) : SlR X (rSlTA K) := by
  subst hK
  intro pins s σ H x v vl vu lo hi sl Q I rx hs pl pu h
  obtain ⟨a, xs, rfl, hx, q1, q2⟩ := h
  by_cases hw : HT.sIx xs.length 0 lo = 0 ∧ HT.sIx xs.length xs.length hi = xs.length
  · have rx' := rx
    cases rx
    obtain ⟨its, r, ht, hz⟩ := I.tuple hx
    have hlen : its.toArray.size = xs.length := by rw [List.size_toArray]; exact r.length.symm
    exact ⟨"tuple", _, PyProof.Rows.slot_tuple_getitem.lookup, ht.typeIs, getItem_whole ht hs pl pu (by rw [hlen]; exact hw) ⟨.ref a, H, I, rx', q1 hw⟩⟩
  · exact sl_tup pins s σ H _ v vl vu lo hi sl Q I rx hs pl pu ⟨a, xs, rfl, hx, hw, q2 hw⟩
/-- of one that is held: the same one, or a new one -/
theorem rSlTA_of {K : PySem.W.Frag} {H : Hp} {Q : VK} {a : Addr} {lo hi : Option Int} {xs : List V} (h : SqT K H a xs) (q : ∀ p H', Same H H' → SqT K H' p (cutV xs lo hi) → Q (.ref p) H') : rSlTA K (.ref a) lo hi H Q := by
  refine ⟨a, xs, rfl, h, fun hw => ?_, fun _ p hp => q p _ (same_new hp _) (SqT.of upd_same)⟩
  have e : cutV xs lo hi = xs := by unfold cutV; rw [hw.1, hw.2]; simp
  exact q a H (fun _ _ e => e) (by rw [e]; exact h)
theorem cutV_to (xs : List V) (k : Nat) : cutV xs none (some (k : Int)) = xs.take k := by
  unfold cutV
  rw [HT.sIx_none, HT.sIx_nat, List.drop_zero, Nat.sub_zero]
  exact List.take_eq_take_min.symm
theorem cutV_from (xs : List V) (k : Nat) : cutV xs (some (k : Int)) none = xs.drop k := by
  unfold cutV
  rw [HT.sIx_none, HT.sIx_nat]
  rcases Nat.le_total k xs.length with h | h
  · rw [Nat.min_eq_left h, List.take_of_length_le (by rw [List.length_drop]; omega)]
  · rw [Nat.min_eq_right h, Nat.sub_self, List.take_zero, List.drop_eq_nil_of_le h]
/-! a text of a text, of an int -/
/-! a global that is an object -/
theorem pe_gref {x : Str} {d : Addr} {pos : Pos} (h : X.mg x = some (.ref d)) (hg : Gl X x := by rfl) (hd : (x == ("__debug__" : Str)) = false := by decide) : PE X (.Name x pos) (tC (.ref d)) := pe_glob hg h rfl hd
theorem pi_tupK (K : PySem.W.Frag) {tg l : Expr} {tl : TE} (hl : PE X l tl) (hK : X.K = K := by rfl) : PI X tg l (iTup K tl) := hK ▸ pi_tup hl
theorem iTup_at (K : PySem.W.Frag) (tl : TE) {σ : St} {H : Hp} {R : It → Hp → Prop} : iTup K tl σ H R = tl σ H fun x H1 => ∃ a, x = .ref a ∧ (∃ xs, SqT K H1 a xs) ∧ R (Itt K a) H1 := rfl
end
section
variable {K : PySem.W.Frag} {a b : Addr} {xs ys : List V} {g : TG} {te : TE} {nT : Nat} {σ : St} {D : Addr} {Q : VK} {H : Hp}
theorem forW_tup {tb : TS} {D : Ends} (Pv : Nat → St → Hp → Prop) (h0 : Pv 0 σ H) (hl : ∀ i σ H, i ≤ xs.length → Pv i σ H → SqT K H a xs)
    (hs : ∀ i x σ H, xs[i]? = some x → Pv i σ H → g x σ H fun σ2 H2 => tb { D with nx := Pv (i + 1), ct := Pv (i + 1), bk := D.nx } σ2 H2) (hd : ∀ σ H, Pv xs.length σ H → D.nx σ H) : forW (Itt K a) g tb D σ H := by
  refine forW_by xs.length Pv h0 (fun i σ H hi p => ⟨xs, xs[i], hl i σ H (Nat.le_of_lt hi) p, by simp [hi]⟩) (fun σ H p => ⟨xs, hl _ σ H (Nat.le_refl _) p, Nat.le_refl _⟩) (fun i σ H x H' hi p yl => ?_) hd
  obtain ⟨rfl, y⟩ := yl
  exact hs i x σ _ (y xs (hl i σ _ (Nat.le_of_lt hi) p)) p
theorem forW_zipT {tb : TS} {D : Ends} (Pv : Nat → St → Hp → Prop) (hn : xs.length = ys.length) (h0 : Pv 0 σ H) (hl : ∀ i σ H, i ≤ xs.length → Pv i σ H → SqT K H a xs ∧ SqT K H b ys)
    (hs : ∀ i x y t σ H, xs[i]? = some x → ys[i]? = some y → Pv i σ H → H t = none → g (.ref t) σ (upd H t (.tup [x, y])) fun σ2 H2 => tb { D with nx := Pv (i + 1), ct := Pv (i + 1), bk := D.nx } σ2 H2) (hd : ∀ σ H, Pv xs.length σ H → D.nx σ H) : forW (Itu K a b) g tb D σ H := by
  refine forW_by xs.length Pv h0 (fun i σ H hi p => ⟨xs, ys, xs[i], ys[i], (hl i σ H (Nat.le_of_lt hi) p).1, (hl i σ H (Nat.le_of_lt hi) p).2, by simp [hi], by simp [hn ▸ hi]⟩) (fun σ H p => ⟨xs, ys, (hl _ σ H (Nat.le_refl _) p).1, (hl _ σ H (Nat.le_refl _) p).2, .inl (Nat.le_refl _)⟩) (fun i σ H v H' hi p yl => ?_) hd
  obtain ⟨t, x, y, ht, rfl, rfl, y1, y2⟩ := yl
  exact hs i x y t σ H (y1 xs (hl i σ H (Nat.le_of_lt hi) p).1) (y2 ys (hl i σ H (Nat.le_of_lt hi) p).2) p ht
theorem compW_zipT (Pv : Nat → List V → Hp → Prop) (hn : xs.length = ys.length) (h0 : Pv 0 [] H) (hl : ∀ i zs H, i ≤ xs.length → Pv i zs H → SqT K H a xs ∧ SqT K H b ys)
    (hs : ∀ i zs H x y t, xs[i]? = some x → ys[i]? = some y → i < xs.length → Pv i zs H → H t = none → g (.ref t) (σ ++ List.replicate nT none) (upd H t (.tup [x, y])) (compK xs.length i Pv D zs te))
    (hd : ∀ zs H, Pv xs.length zs H → Q (.ref D) H) : compW (Itu K a b) g tYes te nT σ D Q H := by
  refine compW_by xs.length Pv h0 (fun i zs H hi p => ⟨xs, ys, xs[i], ys[i], (hl i zs H (Nat.le_of_lt hi) p).1, (hl i zs H (Nat.le_of_lt hi) p).2, by simp [hi], by simp [hn ▸ hi]⟩) (fun zs H p => ⟨xs, ys, (hl _ zs H (Nat.le_refl _) p).1, (hl _ zs H (Nat.le_refl _) p).2, .inl (Nat.le_refl _)⟩) (fun i zs H v H' hi p yl => ?_) hd
  obtain ⟨t, x, y, ht, rfl, rfl, y1, y2⟩ := yl
  exact hs i zs H x y t (y1 xs (hl i zs H (Nat.le_of_lt hi) p).1) (y2 ys (hl i zs H (Nat.le_of_lt hi) p).2) hi p ht
end
theorem SqT.same {K : PySem.W.Frag} {H H' : Hp} {a : Addr} {xs : List V} (h : SqT K H a xs) (sm : Same H H') : SqT K H' a xs := by
  rcases h with (h | ⟨o, h⟩) | h
  · exact .inl (.inl (sm _ _ h))
  · exact .inl (.inr ⟨o, sm _ _ h⟩)
  · exact .inr h
theorem at0 {α : Type} {x : α} {xs : List α} : atI (x :: xs) 0 = some x := atI_nat (j := 0) rfl
end L2

set_option Elab.async false
set_option linter.all false
set_option maxRecDepth 100000
set_option maxHeartbeats 4000000
namespace L2
open PySem PySem.Spec PyProof PyProof.Rows
section
variable {X : Cx}
end
end L2

set_option Elab.async false
set_option linter.all false
set_option maxRecDepth 100000
set_option maxHeartbeats 4000000
/-! a list gone over from behind -/
namespace L2
open PySem PySem.Spec PyProof PyProof.Rows
section
variable {K : PySem.W.Frag} {a : Addr} {xs : List V} {g : TG} {σ : St} {H : Hp}
end
end L2

set_option Elab.async false
set_option linter.all false
set_option maxRecDepth 100000
set_option maxHeartbeats 4000000
/-! list(a dict): its keys -/
namespace L2
open PySem PySem.Spec PyProof PyProof.Rows
theorem is_kV {P : Program} {w : World} {k : Key} {u : Value} (h : (mixKind P w).is k u = true) : RelV (kV k) u := by
  cases k with
  | inl i =>
    obtain ⟨t, rfl⟩ := Value.isInt_shape (show Value.isInt i u = true from h)
    exact ⟨t, rfl⟩
  | inr x =>
    obtain ⟨t, rfl⟩ := Value.isStrOf_shape (show Value.isStrOf x u = true from h)
    exact ⟨t, rfl⟩
section
variable {X : Cx}
def rListD : List V → Hp → VK → Prop := fun xs H Q => ∃ d kvs, xs = [.ref d] ∧ H d = some (.dK kvs) ∧ kvs.length ≤ 60000 ∧ ∀ l, H l = none → Q (.ref l) (upd H l (.lst (kvs.map fun kv => kV kv.1)))
theorem rListD_at {H : Hp} {Q : VK} (d : Addr) : rListD [.ref d] H Q = ∃ kvs, H d = some (.dK kvs) ∧ kvs.length ≤ 60000 ∧ ∀ l, H l = none → Q (.ref l) (upd H l (.lst (kvs.map fun kv => kV kv.1))) :=
  propext ⟨fun ⟨_, kvs, e, q⟩ => by cases e; exact ⟨kvs, q⟩, fun ⟨kvs, q⟩ => ⟨d, kvs, rfl, q⟩⟩
theorem call_listD {m : Nat} (hr : Room m X.A) : CallR X (.type "list") rListD := by
  intro pins s σ H xs us Q I r h
  obtain ⟨d, kvs, rfl, ed, hn, q⟩ := h
  obtain ⟨u, rfl, ru⟩ := vals1 r
  cases ru
  obtain ⟨_, hd, vs, rel, dd⟩ := dk_rd I.hok (.inl ed)
  obtain ⟨ep, hm⟩ := dd.dictAt
  have hs : sizeLine = 16777216 := sizeLine_eq
  have hl : kvs.length = vs.length := Paired.length rel
  refine PySem.W.kdl_call (PySem.W.kdl_dict (knd := mixKind X.prog X.w) (kvs := vs) (ep := ep) hd) hr.hd hm (by omega) fun h' tk acc' c' hk hS hacc => ?_
  refine ⟨.ref s.heap.objs.size, _, I.laid hk (Nat.le_refl _) (show ObjOk X.prog X.w _ h' _ (.lst (kvs.map fun kv => kV kv.1)) from ⟨by simp; omega, acc'.toList, c', ?_, by simpa using hS⟩), rfl, q _ (I.hok.fresh (Nat.le_refl _))⟩
  refine vals_mk _ _ (by simp [hacc.1, hl]) fun j x w' e1 e2 => ?_
  obtain ⟨k, y, hk', his⟩ := hacc.2 j w' (by rw [← Array.getElem?_toList]; exact e2)
  rw [List.getElem?_map] at e1
  cases hkv : kvs[j]? with
  | none => rw [hkv] at e1; cases e1
  | some kv =>
    rw [hkv] at e1
    cases e1
    have := (paired_get rel hkv hk').1
    show RelV (kV kv.1) w'
    rw [this]
    exact is_kV his
end
end L2

set_option Elab.async false
set_option linter.all false
set_option maxRecDepth 100000
set_option maxHeartbeats 4000000
/-! sum of a list of ints, how often a text stands in a list -/
namespace L2
open PySem PySem.Spec PyProof PyProof.Rows PySem.SeqAt
section
variable {X : Cx}
def rSumL (K : PySem.W.Frag) : List V → Hp → VK → Prop := fun xs H Q => ∃ (p : Addr) (ns : List Int), xs = [.ref p] ∧ SqL K H p (ns.map V.int) ∧ Q (.int ns.sum) H
theorem rSumL_at {K : PySem.W.Frag} {H : Hp} {Q : VK} (p : Addr) : rSumL K [.ref p] H Q = ∃ ns : List Int, SqL K H p (ns.map V.int) ∧ Q (.int ns.sum) H := propext ⟨fun ⟨_, bs, e, q⟩ => by cases e; exact ⟨bs, q⟩, fun ⟨bs, q⟩ => ⟨p, bs, rfl, q⟩⟩
theorem call_sumL (K : PySem.W.Frag) (hK : X.K = K := by rfl) (hc : X.calm = true := by rfl) : CallR X (.builtin "sum") (rSumL K) := by
  subst hK
  intro pins s σ H xs us Q I r h
  obtain ⟨p, ns, rfl, hq, q⟩ := h
  obtain ⟨u, rfl, ru⟩ := vals1 r
  cases ru
  obtain ⟨its, rv, pl, hz⟩ := I.list hq
  have hi : IntsAre its ns := intsAre_of rv
  obtain ⟨xs, e⟩ := hi.allInts.items
  have hns : ns = xs.toList.map (·.1) := by rw [← hi.numsOf, ← nums_intItems, ← e]
  have hl := pl.isList
  rw [e] at hl
  refine sum_intListG (I.ok.hd hc) hl fun h' tk t' hk => ?_
  have e2 : preSum (numAt xs) xs.size = ns.sum := by rw [preSum_eq, List.take_of_length_le (by simp), hns]
  exact ⟨.int ns.sum, H, I.kept (t' := tk) hk, ⟨t', by rw [e2]⟩, q⟩
theorem bt_sum : bootBuiltins "sum" = some (.builtin "sum") := by decide +kernel
def rCountS (K : PySem.W.Frag) : V → List V → Hp → VK → Prop := fun x vs H Q => ∃ (p : Addr) (ss : List Str) (y : Str), x = .ref p ∧ vs = [.str y] ∧ SqL K H p (ss.map V.str) ∧ Q (.int (ss.countP (· == y) : Nat)) H
theorem rCountS_at {K : PySem.W.Frag} {H : Hp} {Q : VK} (p : Addr) (y : Str) : rCountS K (.ref p) [.str y] H Q = ∃ ss : List Str, SqL K H p (ss.map V.str) ∧ Q (.int (ss.countP (· == y) : Nat)) H :=
  propext ⟨fun ⟨_, ss, _, e1, e2, q⟩ => by cases e1; cases e2; exact ⟨ss, q⟩, fun ⟨ss, q⟩ => ⟨p, ss, y, rfl, rfl, q⟩⟩
theorem count_vals (y : Str) : ∀ {ss : List Str} {its : List Value}, Vals (ss.map V.str) its → its.countP (eqU (.str y)) = ss.countP (· == y)
  | [], _, .nil => rfl
  | s :: ss, _, .cons (a := _) (b := u) r t => by
    obtain ⟨t', rfl⟩ := r
    have ih := count_vals y t
    have e : eqU (.str y) (Value.str s t') = (s == y) := rfl
    rw [List.countP_cons, List.countP_cons, ih, e]
theorem mt_countS (K : PySem.W.Frag) (hK : X.K = K := by rfl) : MtR X "list.count" (rCountS K) := by
  subst hK
  intro pins s σ H x xs v us Q I rx r h
  obtain ⟨p, ss, y, rfl, rfl, hq, q⟩ := h
  cases rx
  obtain ⟨u, rfl, ru⟩ := vals1 r
  obtain ⟨t, rfl⟩ := ru
  obtain ⟨its, rv, pl, hz⟩ := I.list hq
  have hlen : its.length = ss.length := by rw [← rv.length, List.length_map]
  obtain ⟨⟨cls, dd, data, sl⟩, ho, hc, n, hd⟩ := pl.isList
  simp only at hc hd
  subst hc hd
  have rel : ∀ (i : Nat) (h : i < its.length), ∃ t', its[i] = .str (ss[i]'(by omega)) t' := fun i h => by
    obtain ⟨x, hx, rx⟩ := rv.of (i := i) (u := its[i]) (List.getElem?_eq_getElem h)
    rw [List.getElem?_map, List.getElem?_eq_getElem (by omega)] at hx
    have hx' := Option.some.inj hx
    subst hx'
    exact rx
  refine call_meets PySem.F.slot_list_count ⟨_, ho, rfl⟩ PySem.F.entry_list_count (PySem.F.args_list_count_2 _ _)
    (list_countAt p its.toArray n dd sl (.str y t) (eqU (.str y))) ⟨ho, fun z hz => ?_, ⟨.int _, H, I.tok _, ⟨s.toks, ?_⟩, q⟩⟩
  · have hz' : z ∈ its := by simpa using hz
    obtain ⟨i, hi, rfl⟩ := List.mem_iff_getElem.mp hz'
    obtain ⟨t', e⟩ := rel i hi
    have q' := eqAt_V (A := X.A.in1) (s := s) (y := .str (ss[i]'(by omega))) (x := .str y) (u := its[i]) (v := .str y t) ⟨t', e⟩ ⟨t, rfl⟩ rfl rfl
    rw [e]; rw [e] at q'
    exact q'
  · rw [← count_vals y rv]
end
end L2

set_option Elab.async false
set_option linter.all false
set_option maxRecDepth 100000
namespace L2
open PySem PySem.Spec PyProof.Rows PySem.SeqAt

/-! ### objects of own classes -/
structure Fl (K : PySem.W.Frag) (C : Addr) (f : Str) : Prop where
  c : Cls K C
  n : NoAttr K C f
structure MethAt (K : PySem.W.Frag) (C : Addr) (m qual : Str) (st : Stmt) : Prop where
  ex : ∃ f fd, Fun K m qual st f fd ∧ Meth K C m f
  cl : Cls K C
structure MakeAt (K : PySem.W.Frag) (mg : Str → Option Value) (x : Str) (C : Addr) (qual : Str) (st : Stmt) : Prop where
  ex : ∃ f fd, Fun K "__init__" qual st f fd ∧ Mk K C f ∧ mg x = some (.ref C)
structure Mcal (P : Program) (w : World) (K : PySem.W.Frag) (mg : Str → Option Value) (base : Heap) (k : Nat) (C : Addr) (m : Str) (ps : List Str) (sp : Sp) : Prop where
  ex : ∃ f fd, FnOk P w K mg base CX0 k f fd ps sp ∧ Binds K fd ps [] ∧ Meth K C m f
  cl : Cls K C
structure Mkal (P : Program) (w : World) (K : PySem.W.Frag) (mg : Str → Option Value) (base : Heap) (k : Nat) (x : Str) (C : Addr) (ps : List Str) (sp : Sp) : Prop where
  ex : ∃ f fd, FnOk P w K mg base CX0 k f fd ps sp ∧ Binds K fd ps [] ∧ Mk K C f ∧ mg x = some (.ref C)
section
variable {P : Program} {w : World} {K : PySem.W.Frag} {mg : Str → Option Value} {base : Heap}
end
section
variable {X : Cx} {o e value : Expr} {es : List Expr} {f m : Str} {pos pos' apos p : Pos} {ta tv : TE} {t : TA} {C : Addr} {x : Str} {ps : List Str} {sp : Sp} {j k : Nat}
end
section
variable {C : Addr} {f m : Str} {sp : Sp} {ta tv : TE} {t : TA} {σ : St} {H : Hp} {Q : VK}
end
theorem lk_hit {f : Str} {v : V} {fs : List (Str × V)} : List.lookup f ((f, v) :: fs) = some v := by simp [List.lookup]
theorem lk_miss {f g : Str} {v : V} {fs : List (Str × V)} (h : (f == g) = false) : List.lookup f ((g, v) :: fs) = List.lookup f fs := by simp [List.lookup, h]
theorem lk_nil {f : Str} : List.lookup f ([] : List (Str × V)) = none := rfl
theorem putF_hit {f : Str} {v x : V} {r : List (Str × V)} : putF f v ((f, x) :: r) = (f, v) :: r := by simp [putF]
theorem putF_miss {f g : Str} {v x : V} {r : List (Str × V)} (h : ¬ g = f) : putF f v ((g, x) :: r) = (g, x) :: putF f v r := by simp [putF, h]
theorem putF_nil {f : Str} {v : V} : putF f v [] = [(f, v)] := rfl
end L2

set_option Elab.async false
set_option linter.all false
set_option maxRecDepth 100000
/-! a text split by another, a text read as a number -/
namespace L2
open PySem PySem.Spec PyProof.Rows PySem.SeqAt
section
variable {X : Cx}
end
end L2

set_option Elab.async false
set_option linter.all false
set_option maxRecDepth 100000
namespace L2
open PySem PySem.Spec PyProof.Rows
/-! ### targets, expressions, turns that the proof never comes to -/
section
variable {X : Cx} {tg e : Expr}
end
end L2

set_option Elab.async false
set_option linter.all false
set_option maxRecDepth 100000
set_option maxHeartbeats 4000000
namespace L2
open PySem PySem.Spec PyProof.Rows PySem.SeqAt
/-! ### sets of texts -/
section
variable {prog : Program} {w : World} {A : Around} {R : Result → Shared → Prop} {I : Addr} {fp wr : List Addr} {Gm : Array GenState → Array GenState → Prop} {n : Nat} {P : Nat → Value → Prop} {St : Nat → Shared → Prop} {L : Bool}
end
section
variable {prog : Program} {w : World} {A : Around} {E : Value → Shared → Prop} {s : Shared}
end
section
variable {X : Cx}
end
section
variable {prog : Program} {w : World} {A : Around} {E : Value → Shared → Prop} {s : Shared}
end
section
variable {X : Cx}
end
/-! ### a choice, as a test -/
section
variable {X : Cx} {c a b : Expr} {tA tB1 tB2 : TT} {pos : Pos}
end
end L2

set_option Elab.async false
set_option linter.all false
set_option maxRecDepth 100000
set_option maxHeartbeats 4000000
namespace L2
open PySem PySem.Spec PyProof.Rows PySem.SeqAt PySem.Builtin PySem.Builtin.Str PySem.StrLaws
/-! ### texts parted -/
section
variable {X : Cx}
end
end L2

set_option Elab.async false
set_option linter.all false
namespace L2
open PySem PySem.Spec PyProof.Rows PySem.SeqAt PySem.Builtin PySem.Builtin.Str PySem.StrLaws
/-! ### is True, is False -/
/-! ### a text that starts with another; a tuple and a tuple -/
end L2

set_option Elab.async false
set_option linter.all false
set_option maxRecDepth 100000
set_option maxHeartbeats 4000000
namespace L2
open PySem PySem.Spec PyProof.Rows
/-! ### list.insert, list.pop(at) -/
section
variable {X : Cx}
def rInsert : V → List V → Hp → VK → Prop := fun x vs H Q => ∃ l xs i y, x = .ref l ∧ vs = [.int i, y] ∧ H l = some (.lst xs) ∧ 0 ≤ i ∧ i ≤ xs.length ∧ xs.length < 100000 ∧ Q .non (upd H l (.lst (xs.take i.toNat ++ y :: xs.drop i.toNat)))
theorem vals_take {xs : List V} {us : List Value} (r : Vals xs us) : ∀ k, Vals (xs.take k) (us.take k) := by
  induction r with
  | nil => intro k; simp; exact .nil
  | cons h t ih =>
    intro k
    cases k with
    | zero => exact .nil
    | succ k => exact .cons h (ih k)
theorem vals_drop {xs : List V} {us : List Value} (r : Vals xs us) : ∀ k, Vals (xs.drop k) (us.drop k) := by
  induction r with
  | nil => intro k; simp; exact .nil
  | cons h t ih =>
    intro k
    cases k with
    | zero => exact .cons h t
    | succ k => exact ih k
theorem mt_insert : MtM X "list.insert" rInsert := by
  intro pins s σ H x vs v us Q I rx rv h
  obtain ⟨l, xs, i, y, rfl, rfl, hH, h0, hk, hz, q⟩ := h
  cases rx
  obtain ⟨u, us', rfl, ru, rv'⟩ : ∃ u us', us = u :: us' ∧ RelV (.int i) u ∧ Vals [y] us' := by cases rv with | cons a b => exact ⟨_, _, rfl, a, b⟩
  obtain ⟨t, rfl⟩ := ru
  obtain ⟨w, rfl, rw'⟩ := rv'.one
  obtain ⟨z, its, n, r, hl, e⟩ := I.lstM hH
  have hs : sizeLine = 16777216 := sizeLine_eq
  have hfi : Builtin.List.listFitsIndex i = true := fitsIndex_both (Int.le_trans (by decide) h0) (Int.lt_of_lt_of_le (show i < 100001 by omega) (by decide))
  have hc0 : ¬ (!Builtin.List.listFitsIndex i) = true := by rw [hfi]; decide
  have hsz : its.toArray.size ≤ sizeLine := by rw [List.size_toArray]; omega
  have hf : (fun xs : Array Value => have k := if i < 0 then (i + (xs.size : Int)).toNat else min i.toNat xs.size; (xs.extract 0 k).push w ++ xs.extract k) its.toArray = (its.take i.toNat ++ w :: its.drop i.toNat).toArray := by
    have h1 : ¬ (i < 0) := by omega
    show (its.toArray.extract 0 (if i < 0 then (i + (its.toArray.size : Int)).toNat else min i.toNat its.toArray.size)).push w ++ its.toArray.extract (if i < 0 then (i + (its.toArray.size : Int)).toNat else min i.toNat its.toArray.size) = _
    rw [if_neg h1, List.size_toArray, Nat.min_eq_left (by omega)]
    simp
    exact List.take_of_length_le (by rw [List.length_drop]; omega)
  have e0 := e
  generalize hA : its.toArray = A0 at hsz e0
  have hI := I.lset (f := fun xs : Array Value => have k := if i < 0 then (i + (xs.size : Int)).toNat else min i.toNat xs.size; (xs.extract 0 k).push w ++ xs.extract k) (t' := s.toks) hH e hf ((vals_take r i.toNat).append (.cons rw' (vals_drop r i.toNat))) (by rw [List.length_append, List.length_cons, List.length_take, List.length_drop]; omega)
  exact call_meets F.slot_list_insert ⟨_, e0, rfl⟩ F.entry_list_insert (F.args_list_insert_3 _ _ _) (PySem.AutoSeq1.list_insert_list_int_val_1 l A0 n i t w hc0 hsz) ⟨e0, ⟨.non, _, hI, rfl, q⟩⟩
theorem mt_insertA : MtR X "list.insert" rInsert := mt_insert
theorem mt_popAtB : MtR X "list.pop" rPopAt := mt_popAt
end
theorem rInsert_at {H : Hp} {Q : VK} (l : Addr) (i : Int) (y : V) : rInsert (.ref l) [.int i, y] H Q = ∃ (xs : List V), H l = some (.lst xs) ∧ 0 ≤ i ∧ i ≤ xs.length ∧ xs.length < 100000 ∧ Q .non (upd H l (.lst (xs.take i.toNat ++ y :: xs.drop i.toNat))) :=
  propext ⟨fun ⟨_, xs, k, _, e1, e2, q⟩ => by cases e1; cases e2; exact ⟨xs, q⟩, fun ⟨xs, q⟩ => ⟨l, xs, i, y, rfl, rfl, q⟩⟩
theorem rPopAt_at {H : Hp} {Q : VK} (l : Addr) (i : Int) : rPopAt (.ref l) [.int i] H Q = ∃ xs k y, H l = some (.lst xs) ∧ -(2 ^ 63) ≤ i ∧ i < 2 ^ 63 ∧ seqIndex? i xs.length = some k ∧ xs[k]? = some y ∧ Q y (upd H l (.lst (xs.eraseIdx k))) :=
  propext ⟨fun ⟨_, xs, _, k, y, e1, e2, q⟩ => by cases e1; cases e2; exact ⟨xs, k, y, q⟩, fun ⟨xs, k, y, q⟩ => ⟨l, xs, i, k, y, rfl, rfl, q⟩⟩
end L2

set_option Elab.async false
set_option linter.all false
set_option maxRecDepth 100000
set_option maxHeartbeats 4000000
section
open PySem PySem.Spec PyProof.Rows L2
seal L2.PE L2.PT L2.PW L2.PA L2.PS L2.PSs L2.PG L2.PGs L2.PSet L2.PI L2.PIfs L2.OpR L2.UnR L2.CallR L2.IxR L2.MtR L2.SlR L2.PO L2.PPs
local macro_rules | `(tactic| walk_at "rd1") => `(tactic| try simp only [tSeq_at, tPairs_nil, tPairs_cons, tNext_at, tIfS_at, tRet_at, tDrop_at, tAsg_at, gName_at, gNil_at, gCons_at, gTup_at, gSub_at, tVar_at, tC_at, tOp_at, tTest_at, tB_at, tAnd_at, tOr_at, tNot_at, tAndV_at, tNotV_at, tCB_at, tCons_at, tNil_at, tTup_at, tLst_at, tCall_at, tBM_at, tBM0_at, rInsert_at, rPopAt_at, tChain_at, tSl_at, tPart_at, tNoPart_at, tComp_at, tYes_at, ex_refs2, ex_ref1, compT_at, rSlS_at, iList_at, iStr_at, iRng1_at, tFor_at, compK_at, rI0_at, rI_at, rAddA_int, rAddA_str, rAddA_ref, rMulB_int, rMulB_str, rInt1_int, rInt1_bl, rTupOf_at, rSlL_at, rNeD_at, rLtA_int, rLtA_str, rInA_str, rInA_ref, rLenA_str, rLenA_ref, rIxA_ref, rIxA_str, rAppend_at, rJoin_at, rIsT_at, rAll_at, tBMM_at, iTup_at, rSumL_at, rCountS_at, rListD_at, iZipT_at, rEqA_int, rEqA_bl, rEqA_str, rNeA_int, rNeA_str, rNeA_bl, rPop_at, tyV_str, tyV_lst, L2.start, List.map_cons, List.map_nil, List.length_cons, List.length_nil, List.replicate, List.cons_append, List.nil_append, List.append_nil, List.getElem?_cons_zero, List.getElem?_cons_succ, List.set_cons_zero, List.set_cons_succ, Nat.reduceAdd, Nat.reduceSub, Option.some.injEq, exists_eq_left', exists_eq_left, V.int.injEq, V.ref.injEq, V.str.injEq, V.bl.injEq, ex_one, ex_two, ex_cons, ex_nil, and_true, true_and, decide_eq_true_eq, Bool.not_true, Bool.not_false, if_true, Bool.false_eq_true, if_false, ite_true, ite_false])
local macro_rules | `(tactic| walk_at "rd") => `(tactic| try simp only [rest_at, tSeq_at, tPairs_nil, tPairs_cons, tNext_at, tIfS_at, tRet_at, tDrop_at, tAsg_at, gName_at, gNil_at, gCons_at, gTup_at, gSub_at, tVar_at, tC_at, tOp_at, tTest_at, tB_at, tAnd_at, tOr_at, tNot_at, tAndV_at, tNotV_at, tCB_at, tCons_at, tNil_at, tTup_at, tLst_at, tCall_at, tBM_at, tBM0_at, rInsert_at, rPopAt_at, tChain_at, tSl_at, tPart_at, tNoPart_at, tComp_at, tYes_at, ex_refs2, ex_ref1, compT_at, rSlS_at, iList_at, iStr_at, iRng1_at, tFor_at, compK_at, rI0_at, rI_at, rAddA_int, rAddA_str, rAddA_ref, rMulB_int, rMulB_str, rInt1_int, rInt1_bl, rTupOf_at, rSlL_at, rNeD_at, rLtA_int, rLtA_str, rInA_str, rInA_ref, rLenA_str, rLenA_ref, rIxA_ref, rIxA_str, rAppend_at, rJoin_at, rIsT_at, rAll_at, tBMM_at, iTup_at, rSumL_at, rCountS_at, rListD_at, iZipT_at, rEqA_int, rEqA_bl, rEqA_str, rNeA_int, rNeA_str, rNeA_bl, rPop_at, tyV_str, tyV_lst, L2.start, List.map_cons, List.map_nil, List.length_cons, List.length_nil, List.replicate, List.cons_append, List.nil_append, List.append_nil, List.getElem?_cons_zero, List.getElem?_cons_succ, List.set_cons_zero, List.set_cons_succ, Nat.reduceAdd, Nat.reduceSub, Option.some.injEq, exists_eq_left', exists_eq_left, V.int.injEq, V.ref.injEq, V.str.injEq, V.bl.injEq, ex_one, ex_two, ex_cons, ex_nil, and_true, true_and, decide_eq_true_eq, Bool.not_true, Bool.not_false, if_true, Bool.false_eq_true, if_false, ite_true, ite_false])
local macro_rules | `(tactic| walk_at "nx") => `(tactic| ((first | rw [rest_at] | (dsimp only; rw [rest_at])); walk_at "rd1"))
local macro_rules | `(tactic| walk_at "lk") => `(tactic| repeat (first | exact lk_hit | exact lk_nil | rw [lk_miss (by decide +kernel)]))
local macro_rules | `(tactic| walk_at "pf") => `(tactic| repeat (first | rw [putF_hit] | rw [putF_nil] | rw [putF_miss (by decide +kernel)]))
namespace K24
open PySem L2
def top (i : Nat) : Stmt := PySem.Challenge.pw_usewarden_k24_no_programs.main.body.getD i (.Pass ⟨0, 0, 0, 0⟩)
abbrev s_is_whole : Stmt := top 3
theorem sc_is_whole : FnScope ["thing"] ["thing"] (defScope s_is_whole) := ⟨rfl, rfl, rfl, by decide +kernel, rfl, by decide +kernel, by decide +kernel⟩
theorem v_is_whole_thing : Vis (defScope s_is_whole) "thing" := Or.inl (by decide +kernel)
theorem gl_is_whole_bool : (defScope s_is_whole).names.lookup ("bool" : Str) = some .globalImplicit := by decide +kernel
theorem gl_is_whole_int : (defScope s_is_whole).names.lookup ("int" : Str) = some .globalImplicit := by decide +kernel
theorem gl_is_whole_isinstance : (defScope s_is_whole).names.lookup ("isinstance" : Str) = some .globalImplicit := by decide +kernel

abbrev s_is_word : Stmt := top 4
theorem sc_is_word : FnScope ["thing"] ["thing"] (defScope s_is_word) := ⟨rfl, rfl, rfl, by decide +kernel, rfl, by decide +kernel, by decide +kernel⟩
theorem v_is_word_thing : Vis (defScope s_is_word) "thing" := Or.inl (by decide +kernel)
theorem gl_is_word_MOST_LETTERS : (defScope s_is_word).names.lookup ("MOST_LETTERS" : Str) = some .globalImplicit := by decide +kernel
theorem gl_is_word_all : (defScope s_is_word).names.lookup ("all" : Str) = some .globalImplicit := by decide +kernel
theorem gl_is_word_isinstance : (defScope s_is_word).names.lookup ("isinstance" : Str) = some .globalImplicit := by decide +kernel
theorem gl_is_word_len : (defScope s_is_word).names.lookup ("len" : Str) = some .globalImplicit := by decide +kernel
theorem gl_is_word_str : (defScope s_is_word).names.lookup ("str" : Str) = some .globalImplicit := by decide +kernel

abbrev s_closers_of : Stmt := top 12
theorem sc_closers_of : FnScope ["kind"] ["kind"] (defScope s_closers_of) := ⟨rfl, rfl, rfl, by decide +kernel, rfl, by decide +kernel, by decide +kernel⟩
theorem v_closers_of_kind : Vis (defScope s_closers_of) "kind" := Or.inl (by decide +kernel)
theorem gl_closers_of_CLOSERS : (defScope s_closers_of).names.lookup ("CLOSERS" : Str) = some .globalImplicit := by decide +kernel

abbrev s_head_of : Stmt := top 13
theorem sc_head_of : FnScope ["step"] ["step"] (defScope s_head_of) := ⟨rfl, rfl, rfl, by decide +kernel, rfl, by decide +kernel, by decide +kernel⟩
theorem v_head_of_step : Vis (defScope s_head_of) "step" := Or.inl (by decide +kernel)
theorem gl_head_of_closers_of : (defScope s_head_of).names.lookup ("closers_of" : Str) = some .globalImplicit := by decide +kernel
theorem gl_head_of_len : (defScope s_head_of).names.lookup ("len" : Str) = some .globalImplicit := by decide +kernel

abbrev s_blocks_of : Stmt := top 14
theorem sc_blocks_of : FnScope ["step"] ["step"] (defScope s_blocks_of) := ⟨rfl, rfl, rfl, by decide +kernel, rfl, by decide +kernel, by decide +kernel⟩
theorem v_blocks_of_step : Vis (defScope s_blocks_of) "step" := Or.inl (by decide +kernel)
theorem gl_blocks_of_head_of : (defScope s_blocks_of).names.lookup ("head_of" : Str) = some .globalImplicit := by decide +kernel
theorem gl_blocks_of_len : (defScope s_blocks_of).names.lookup ("len" : Str) = some .globalImplicit := by decide +kernel

abbrev s_is_bound : Stmt := top 15
theorem sc_is_bound : FnScope ["thing"] ["thing"] (defScope s_is_bound) := ⟨rfl, rfl, rfl, by decide +kernel, rfl, by decide +kernel, by decide +kernel⟩
theorem v_is_bound_thing : Vis (defScope s_is_bound) "thing" := Or.inl (by decide +kernel)
theorem gl_is_bound_abs : (defScope s_is_bound).names.lookup ("abs" : Str) = some .globalImplicit := by decide +kernel
theorem gl_is_bound_is_whole : (defScope s_is_bound).names.lookup ("is_whole" : Str) = some .globalImplicit := by decide +kernel

abbrev s_is_part : Stmt := top 16
theorem sc_is_part : FnScope ["thing", "kind"] ["thing", "kind"] (defScope s_is_part) := ⟨rfl, rfl, rfl, by decide +kernel, rfl, by decide +kernel, by decide +kernel⟩
theorem v_is_part_thing : Vis (defScope s_is_part) "thing" := Or.inl (by decide +kernel)
theorem v_is_part_kind : Vis (defScope s_is_part) "kind" := Or.inl (by decide +kernel)
theorem gl_is_part_is_bound : (defScope s_is_part).names.lookup ("is_bound" : Str) = some .globalImplicit := by decide +kernel
theorem gl_is_part_is_word : (defScope s_is_part).names.lookup ("is_word" : Str) = some .globalImplicit := by decide +kernel
theorem gl_is_part_isinstance : (defScope s_is_part).names.lookup ("isinstance" : Str) = some .globalImplicit := by decide +kernel
theorem gl_is_part_list : (defScope s_is_part).names.lookup ("list" : Str) = some .globalImplicit := by decide +kernel

abbrev s_is_like_step : Stmt := top 17
theorem sc_is_like_step : FnScope ["thing", "kinds"] ["thing"] (defScope s_is_like_step) := ⟨rfl, rfl, rfl, by decide +kernel, rfl, by decide +kernel, by decide +kernel⟩
theorem v_is_like_step_thing : Vis (defScope s_is_like_step) "thing" := Or.inl (by decide +kernel)
theorem v_is_like_step_kinds : Vis (defScope s_is_like_step) "kinds" := Or.inl (by decide +kernel)
theorem l_is_like_step_kinds : Loc (defScope s_is_like_step) "kinds" := Or.inl (by decide +kernel)
theorem gl_is_like_step_PARTS : (defScope s_is_like_step).names.lookup ("PARTS" : Str) = some .globalImplicit := by decide +kernel
theorem gl_is_like_step_all : (defScope s_is_like_step).names.lookup ("all" : Str) = some .globalImplicit := by decide +kernel
theorem gl_is_like_step_isinstance : (defScope s_is_like_step).names.lookup ("isinstance" : Str) = some .globalImplicit := by decide +kernel
theorem gl_is_like_step_len : (defScope s_is_like_step).names.lookup ("len" : Str) = some .globalImplicit := by decide +kernel
theorem gl_is_like_step_str : (defScope s_is_like_step).names.lookup ("str" : Str) = some .globalImplicit := by decide +kernel
theorem gl_is_like_step_tuple : (defScope s_is_like_step).names.lookup ("tuple" : Str) = some .globalImplicit := by decide +kernel
theorem gl_is_like_step_zip : (defScope s_is_like_step).names.lookup ("zip" : Str) = some .globalImplicit := by decide +kernel

abbrev s_gathers_steps : Stmt := top 18
theorem sc_gathers_steps : FnScope ["things", "around", "steps", "thing", "block"] ["things", "around", "steps"] (defScope s_gathers_steps) := ⟨rfl, rfl, rfl, by decide +kernel, rfl, by decide +kernel, by decide +kernel⟩
theorem v_gathers_steps_things : Vis (defScope s_gathers_steps) "things" := Or.inl (by decide +kernel)
theorem v_gathers_steps_around : Vis (defScope s_gathers_steps) "around" := Or.inl (by decide +kernel)
theorem v_gathers_steps_steps : Vis (defScope s_gathers_steps) "steps" := Or.inl (by decide +kernel)
theorem v_gathers_steps_thing : Vis (defScope s_gathers_steps) "thing" := Or.inl (by decide +kernel)
theorem l_gathers_steps_thing : Loc (defScope s_gathers_steps) "thing" := Or.inl (by decide +kernel)
theorem v_gathers_steps_block : Vis (defScope s_gathers_steps) "block" := Or.inl (by decide +kernel)
theorem l_gathers_steps_block : Loc (defScope s_gathers_steps) "block" := Or.inl (by decide +kernel)
theorem gl_gathers_steps_MOST_AROUND : (defScope s_gathers_steps).names.lookup ("MOST_AROUND" : Str) = some .globalImplicit := by decide +kernel
theorem gl_gathers_steps_MOST_LINES : (defScope s_gathers_steps).names.lookup ("MOST_LINES" : Str) = some .globalImplicit := by decide +kernel
theorem gl_gathers_steps_blocks_of : (defScope s_gathers_steps).names.lookup ("blocks_of" : Str) = some .globalImplicit := by decide +kernel
theorem gl_gathers_steps_gathers_steps : (defScope s_gathers_steps).names.lookup ("gathers_steps" : Str) = some .globalImplicit := by decide +kernel
theorem gl_gathers_steps_is_like_step : (defScope s_gathers_steps).names.lookup ("is_like_step" : Str) = some .globalImplicit := by decide +kernel
theorem gl_gathers_steps_len : (defScope s_gathers_steps).names.lookup ("len" : Str) = some .globalImplicit := by decide +kernel

abbrev s_names_in : Stmt := top 19
theorem sc_names_in : FnScope ["steps", "names", "step", "part", "kind"] ["steps"] (defScope s_names_in) := ⟨rfl, rfl, rfl, by decide +kernel, rfl, by decide +kernel, by decide +kernel⟩
theorem v_names_in_steps : Vis (defScope s_names_in) "steps" := Or.inl (by decide +kernel)
theorem v_names_in_names : Vis (defScope s_names_in) "names" := Or.inl (by decide +kernel)
theorem l_names_in_names : Loc (defScope s_names_in) "names" := Or.inl (by decide +kernel)
theorem v_names_in_step : Vis (defScope s_names_in) "step" := Or.inl (by decide +kernel)
theorem l_names_in_step : Loc (defScope s_names_in) "step" := Or.inl (by decide +kernel)
theorem v_names_in_part : Vis (defScope s_names_in) "part" := Or.inl (by decide +kernel)
theorem l_names_in_part : Loc (defScope s_names_in) "part" := Or.inl (by decide +kernel)
theorem v_names_in_kind : Vis (defScope s_names_in) "kind" := Or.inl (by decide +kernel)
theorem l_names_in_kind : Loc (defScope s_names_in) "kind" := Or.inl (by decide +kernel)
theorem gl_names_in_PARTS : (defScope s_names_in).names.lookup ("PARTS" : Str) = some .globalImplicit := by decide +kernel
theorem gl_names_in_list : (defScope s_names_in).names.lookup ("list" : Str) = some .globalImplicit := by decide +kernel
theorem gl_names_in_zip : (defScope s_names_in).names.lookup ("zip" : Str) = some .globalImplicit := by decide +kernel

abbrev s_is_program : Stmt := top 20
theorem sc_is_program : FnScope ["thing", "steps", "kinds", "lines"] ["thing"] (defScope s_is_program) := ⟨rfl, rfl, rfl, by decide +kernel, rfl, by decide +kernel, by decide +kernel⟩
theorem v_is_program_thing : Vis (defScope s_is_program) "thing" := Or.inl (by decide +kernel)
theorem v_is_program_steps : Vis (defScope s_is_program) "steps" := Or.inl (by decide +kernel)
theorem l_is_program_steps : Loc (defScope s_is_program) "steps" := Or.inl (by decide +kernel)
theorem v_is_program_kinds : Vis (defScope s_is_program) "kinds" := Or.inl (by decide +kernel)
theorem k_is_program_kinds : (defScope s_is_program).names.lookup ("kinds" : Str) = some .local := by decide +kernel
theorem v_is_program_lines : Vis (defScope s_is_program) "lines" := Or.inl (by decide +kernel)
theorem l_is_program_lines : Loc (defScope s_is_program) "lines" := Or.inl (by decide +kernel)
theorem gl_is_program_MOST_LENDS : (defScope s_is_program).names.lookup ("MOST_LENDS" : Str) = some .globalImplicit := by decide +kernel
theorem gl_is_program_MOST_LINES : (defScope s_is_program).names.lookup ("MOST_LINES" : Str) = some .globalImplicit := by decide +kernel
theorem gl_is_program_MOST_NAMES : (defScope s_is_program).names.lookup ("MOST_NAMES" : Str) = some .globalImplicit := by decide +kernel
theorem gl_is_program_gathers_steps : (defScope s_is_program).names.lookup ("gathers_steps" : Str) = some .globalImplicit := by decide +kernel
theorem gl_is_program_isinstance : (defScope s_is_program).names.lookup ("isinstance" : Str) = some .globalImplicit := by decide +kernel
theorem gl_is_program_len : (defScope s_is_program).names.lookup ("len" : Str) = some .globalImplicit := by decide +kernel
theorem gl_is_program_list : (defScope s_is_program).names.lookup ("list" : Str) = some .globalImplicit := by decide +kernel
theorem gl_is_program_names_in : (defScope s_is_program).names.lookup ("names_in" : Str) = some .globalImplicit := by decide +kernel
theorem gl_is_program_sum : (defScope s_is_program).names.lookup ("sum" : Str) = some .globalImplicit := by decide +kernel

abbrev s_law_cell_at : Stmt := top 22
theorem sc_law_cell_at : FnScope ["_law_script", "_law_k"] ["_law_script", "_law_k"] (defScope s_law_cell_at) := ⟨rfl, rfl, rfl, by decide +kernel, rfl, by decide +kernel, by decide +kernel⟩
theorem v_law_cell_at__law_script : Vis (defScope s_law_cell_at) "_law_script" := Or.inl (by decide +kernel)
theorem v_law_cell_at__law_k : Vis (defScope s_law_cell_at) "_law_k" := Or.inl (by decide +kernel)
theorem gl_law_cell_at_len : (defScope s_law_cell_at).names.lookup ("len" : Str) = some .globalImplicit := by decide +kernel

abbrev s_law_names : Stmt := top 23
theorem sc_law_names : FnScope ["_law_cell", "_law_letters", "_law_size", "_law_base", "_law_at"] ["_law_cell"] (defScope s_law_names) := ⟨rfl, rfl, rfl, by decide +kernel, rfl, by decide +kernel, by decide +kernel⟩
theorem v_law_names__law_cell : Vis (defScope s_law_names) "_law_cell" := Or.inr (Or.inl (by decide +kernel))
theorem l_law_names__law_letters : Loc (defScope s_law_names) "_law_letters" := Or.inr (by decide +kernel)
theorem v_law_names__law_size : Vis (defScope s_law_names) "_law_size" := Or.inl (by decide +kernel)
theorem l_law_names__law_size : Loc (defScope s_law_names) "_law_size" := Or.inl (by decide +kernel)
theorem l_law_names__law_base : Loc (defScope s_law_names) "_law_base" := Or.inr (by decide +kernel)
theorem l_law_names__law_at : Loc (defScope s_law_names) "_law_at" := Or.inr (by decide +kernel)
theorem gl_law_names_range : (defScope s_law_names).names.lookup ("range" : Str) = some .globalImplicit := by decide +kernel

abbrev s_law_step : Stmt := top 24
theorem sc_law_step : FnScope ["_law_cell", "_law_x", "_law_y", "_law_kind"] ["_law_cell", "_law_x", "_law_y"] (defScope s_law_step) := ⟨rfl, rfl, rfl, by decide +kernel, rfl, by decide +kernel, by decide +kernel⟩
theorem v_law_step__law_cell : Vis (defScope s_law_step) "_law_cell" := Or.inl (by decide +kernel)
theorem v_law_step__law_x : Vis (defScope s_law_step) "_law_x" := Or.inl (by decide +kernel)
theorem v_law_step__law_y : Vis (defScope s_law_step) "_law_y" := Or.inl (by decide +kernel)
theorem v_law_step__law_kind : Vis (defScope s_law_step) "_law_kind" := Or.inl (by decide +kernel)
theorem l_law_step__law_kind : Loc (defScope s_law_step) "_law_kind" := Or.inl (by decide +kernel)
abbrev s_law_begun : Stmt := top 25
theorem sc_law_begun : FnScope ["_law_here", "_law_pile", "_law_cell", "_law_x", "_law_y", "_law_inner", "_law_others"] ["_law_here", "_law_pile", "_law_cell", "_law_x", "_law_y"] (defScope s_law_begun) := ⟨rfl, rfl, rfl, by decide +kernel, rfl, by decide +kernel, by decide +kernel⟩
theorem v_law_begun__law_here : Vis (defScope s_law_begun) "_law_here" := Or.inl (by decide +kernel)
theorem v_law_begun__law_pile : Vis (defScope s_law_begun) "_law_pile" := Or.inl (by decide +kernel)
theorem v_law_begun__law_cell : Vis (defScope s_law_begun) "_law_cell" := Or.inl (by decide +kernel)
theorem v_law_begun__law_x : Vis (defScope s_law_begun) "_law_x" := Or.inl (by decide +kernel)
theorem v_law_begun__law_y : Vis (defScope s_law_begun) "_law_y" := Or.inl (by decide +kernel)
theorem v_law_begun__law_inner : Vis (defScope s_law_begun) "_law_inner" := Or.inl (by decide +kernel)
theorem l_law_begun__law_inner : Loc (defScope s_law_begun) "_law_inner" := Or.inl (by decide +kernel)
theorem v_law_begun__law_others : Vis (defScope s_law_begun) "_law_others" := Or.inl (by decide +kernel)
theorem l_law_begun__law_others : Loc (defScope s_law_begun) "_law_others" := Or.inl (by decide +kernel)
abbrev s_law_program : Stmt := top 26
theorem sc_law_program : FnScope ["_law_cells", "_law_names_here", "_law_lists", "_law_pile", "_law_here", "_law_left", "_law_lends", "_law_cell", "_law_kind", "_law_x", "_law_y", "_law_deep", "_law_word"] ["_law_cells", "_law_names_here"] (defScope s_law_program) := ⟨rfl, rfl, rfl, by decide +kernel, rfl, by decide +kernel, by decide +kernel⟩
theorem v_law_program__law_cells : Vis (defScope s_law_program) "_law_cells" := Or.inl (by decide +kernel)
theorem v_law_program__law_names_here : Vis (defScope s_law_program) "_law_names_here" := Or.inl (by decide +kernel)
theorem v_law_program__law_lists : Vis (defScope s_law_program) "_law_lists" := Or.inl (by decide +kernel)
theorem l_law_program__law_lists : Loc (defScope s_law_program) "_law_lists" := Or.inl (by decide +kernel)
theorem v_law_program__law_pile : Vis (defScope s_law_program) "_law_pile" := Or.inl (by decide +kernel)
theorem l_law_program__law_pile : Loc (defScope s_law_program) "_law_pile" := Or.inl (by decide +kernel)
theorem v_law_program__law_here : Vis (defScope s_law_program) "_law_here" := Or.inl (by decide +kernel)
theorem l_law_program__law_here : Loc (defScope s_law_program) "_law_here" := Or.inl (by decide +kernel)
theorem v_law_program__law_left : Vis (defScope s_law_program) "_law_left" := Or.inl (by decide +kernel)
theorem l_law_program__law_left : Loc (defScope s_law_program) "_law_left" := Or.inl (by decide +kernel)
theorem v_law_program__law_lends : Vis (defScope s_law_program) "_law_lends" := Or.inl (by decide +kernel)
theorem l_law_program__law_lends : Loc (defScope s_law_program) "_law_lends" := Or.inl (by decide +kernel)
theorem v_law_program__law_cell : Vis (defScope s_law_program) "_law_cell" := Or.inl (by decide +kernel)
theorem l_law_program__law_cell : Loc (defScope s_law_program) "_law_cell" := Or.inl (by decide +kernel)
theorem v_law_program__law_kind : Vis (defScope s_law_program) "_law_kind" := Or.inl (by decide +kernel)
theorem l_law_program__law_kind : Loc (defScope s_law_program) "_law_kind" := Or.inl (by decide +kernel)
theorem v_law_program__law_x : Vis (defScope s_law_program) "_law_x" := Or.inl (by decide +kernel)
theorem l_law_program__law_x : Loc (defScope s_law_program) "_law_x" := Or.inl (by decide +kernel)
theorem v_law_program__law_y : Vis (defScope s_law_program) "_law_y" := Or.inl (by decide +kernel)
theorem l_law_program__law_y : Loc (defScope s_law_program) "_law_y" := Or.inl (by decide +kernel)
theorem v_law_program__law_deep : Vis (defScope s_law_program) "_law_deep" := Or.inl (by decide +kernel)
theorem l_law_program__law_deep : Loc (defScope s_law_program) "_law_deep" := Or.inl (by decide +kernel)
theorem v_law_program__law_word : Vis (defScope s_law_program) "_law_word" := Or.inl (by decide +kernel)
theorem l_law_program__law_word : Loc (defScope s_law_program) "_law_word" := Or.inl (by decide +kernel)
theorem gl_law_program__law_begun : (defScope s_law_program).names.lookup ("_law_begun" : Str) = some .globalImplicit := by decide +kernel
theorem gl_law_program__law_step : (defScope s_law_program).names.lookup ("_law_step" : Str) = some .globalImplicit := by decide +kernel
theorem gl_law_program_int : (defScope s_law_program).names.lookup ("int" : Str) = some .globalImplicit := by decide +kernel
theorem gl_law_program_len : (defScope s_law_program).names.lookup ("len" : Str) = some .globalImplicit := by decide +kernel

abbrev s_law_bad : Stmt := top 27
theorem sc_law_bad : FnScope ["_law_cell", "_law_x", "_law_w", "_law_some"] ["_law_cell", "_law_x", "_law_w"] (defScope s_law_bad) := ⟨rfl, rfl, rfl, by decide +kernel, rfl, by decide +kernel, by decide +kernel⟩
theorem v_law_bad__law_cell : Vis (defScope s_law_bad) "_law_cell" := Or.inl (by decide +kernel)
theorem v_law_bad__law_x : Vis (defScope s_law_bad) "_law_x" := Or.inl (by decide +kernel)
theorem v_law_bad__law_w : Vis (defScope s_law_bad) "_law_w" := Or.inl (by decide +kernel)
theorem v_law_bad__law_some : Vis (defScope s_law_bad) "_law_some" := Or.inl (by decide +kernel)
theorem l_law_bad__law_some : Loc (defScope s_law_bad) "_law_some" := Or.inl (by decide +kernel)
theorem gl_law_bad_len : (defScope s_law_bad).names.lookup ("len" : Str) = some .globalImplicit := by decide +kernel

abbrev s_law_none : Stmt := top 28
theorem sc_law_none : FnScope ["_law_cell", "_law_program_here", "_law_x", "_law_some"] ["_law_cell", "_law_program_here", "_law_x"] (defScope s_law_none) := ⟨rfl, rfl, rfl, by decide +kernel, rfl, by decide +kernel, by decide +kernel⟩
theorem v_law_none__law_cell : Vis (defScope s_law_none) "_law_cell" := Or.inl (by decide +kernel)
theorem v_law_none__law_program_here : Vis (defScope s_law_none) "_law_program_here" := Or.inl (by decide +kernel)
theorem v_law_none__law_x : Vis (defScope s_law_none) "_law_x" := Or.inl (by decide +kernel)
theorem v_law_none__law_some : Vis (defScope s_law_none) "_law_some" := Or.inl (by decide +kernel)
theorem l_law_none__law_some : Loc (defScope s_law_none) "_law_some" := Or.inl (by decide +kernel)
theorem gl_law_none_len : (defScope s_law_none).names.lookup ("len" : Str) = some .globalImplicit := by decide +kernel
theorem gl_law_none_tuple : (defScope s_law_none).names.lookup ("tuple" : Str) = some .globalImplicit := by decide +kernel

abbrev s_law_told : Stmt := top 29
theorem sc_law_told : FnScope ["_law_thing", "_law_due", "_law_found"] ["_law_thing", "_law_due"] (defScope s_law_told) := ⟨rfl, rfl, rfl, by decide +kernel, rfl, by decide +kernel, by decide +kernel⟩
theorem v_law_told__law_thing : Vis (defScope s_law_told) "_law_thing" := Or.inl (by decide +kernel)
theorem v_law_told__law_due : Vis (defScope s_law_told) "_law_due" := Or.inl (by decide +kernel)
theorem v_law_told__law_found : Vis (defScope s_law_told) "_law_found" := Or.inl (by decide +kernel)
theorem l_law_told__law_found : Loc (defScope s_law_told) "_law_found" := Or.inl (by decide +kernel)
theorem gl_law_told_bool : (defScope s_law_told).names.lookup ("bool" : Str) = some .globalImplicit := by decide +kernel
theorem gl_law_told_is_program : (defScope s_law_told).names.lookup ("is_program" : Str) = some .globalImplicit := by decide +kernel
theorem gl_law_told_isinstance : (defScope s_law_told).names.lookup ("isinstance" : Str) = some .globalImplicit := by decide +kernel

abbrev s_law : Stmt := top 30
theorem sc_law : FnScope ["_law_script", "_law_names_here", "_law_lists", "_law_place", "_law_here", "_law_at"] ["_law_script"] (defScope s_law) := ⟨rfl, rfl, rfl, by decide +kernel, rfl, by decide +kernel, by decide +kernel⟩
theorem v_law__law_script : Vis (defScope s_law) "_law_script" := Or.inl (by decide +kernel)
theorem v_law__law_names_here : Vis (defScope s_law) "_law_names_here" := Or.inl (by decide +kernel)
theorem l_law__law_names_here : Loc (defScope s_law) "_law_names_here" := Or.inl (by decide +kernel)
theorem v_law__law_lists : Vis (defScope s_law) "_law_lists" := Or.inl (by decide +kernel)
theorem l_law__law_lists : Loc (defScope s_law) "_law_lists" := Or.inl (by decide +kernel)
theorem v_law__law_place : Vis (defScope s_law) "_law_place" := Or.inl (by decide +kernel)
theorem l_law__law_place : Loc (defScope s_law) "_law_place" := Or.inl (by decide +kernel)
theorem v_law__law_here : Vis (defScope s_law) "_law_here" := Or.inl (by decide +kernel)
theorem l_law__law_here : Loc (defScope s_law) "_law_here" := Or.inl (by decide +kernel)
theorem v_law__law_at : Vis (defScope s_law) "_law_at" := Or.inl (by decide +kernel)
theorem l_law__law_at : Loc (defScope s_law) "_law_at" := Or.inl (by decide +kernel)
theorem gl_law__law_bad : (defScope s_law).names.lookup ("_law_bad" : Str) = some .globalImplicit := by decide +kernel
theorem gl_law__law_cell_at : (defScope s_law).names.lookup ("_law_cell_at" : Str) = some .globalImplicit := by decide +kernel
theorem gl_law__law_names : (defScope s_law).names.lookup ("_law_names" : Str) = some .globalImplicit := by decide +kernel
theorem gl_law__law_none : (defScope s_law).names.lookup ("_law_none" : Str) = some .globalImplicit := by decide +kernel
theorem gl_law__law_program : (defScope s_law).names.lookup ("_law_program" : Str) = some .globalImplicit := by decide +kernel
theorem gl_law__law_told : (defScope s_law).names.lookup ("_law_told" : Str) = some .globalImplicit := by decide +kernel
theorem gl_law_len : (defScope s_law).names.lookup ("len" : Str) = some .globalImplicit := by decide +kernel

/-! ### lines of programs -/
def closT (k : Str) : List Str := if k = "lend" then ["back"] else if k = "if" then ["else", "fi"] else if k = "while" then ["done"] else []
def PartIs : V → Str → Prop
  | .str y, x => x = y
  | .int i, x => i.natAbs.log2 < 1920 ∧ x = Str.ofString (toString i)
  | _, _ => False
def closed : List (List Str) → List Str → List Str
  | i :: is, c :: cs => (i ++ [c]) ++ closed is cs
  | _, _ => []
structure StepLs (LA : Addr → List Str → Prop) (H : Hp) (a : Addr) (kind : Str) (hs : List V) (ws : List Str) (bs : List Addr) (ins : List (List Str)) : Prop where
  at' : H a = some (.tup (.str kind :: hs ++ bs.map V.ref))
  parts : Paired PartIs hs ws
  size : ((kind :: ws).map (·.length)).sum + (kind :: ws).length ≤ 10000
  bl : bs.length = (closT kind).length
  inn : Paired LA bs ins
def stepLs (LA : Addr → List Str → Prop) (H : Hp) (a : Addr) (ls : List Str) : Prop := ∃ kind hs ws bs ins, StepLs LA H a kind hs ws bs ins ∧ ls = Txt.join " " (kind :: ws) :: closed ins (closT kind)
def LinesAt : Nat → Hp → Addr → List Str → Prop
  | 0 => fun _ _ _ => False
  | d + 1 => fun H p L => ∃ (as : List Addr) (Ls : List (List Str)), H p = some (.lst (as.map V.ref)) ∧ Paired (stepLs (LinesAt d H) H) as Ls ∧ L = Ls.flatten
theorem LinesAt.mono : ∀ (d : Nat) {H H' : Hp} {p : Addr} {L : List Str}, LinesAt d H p L → Same H H' → LinesAt d H' p L
  | 0, _, _, _, _, h, _ => h.elim
  | d + 1, H, H', p, L, ⟨as, Ls, h1, h2, h3⟩, sm => by
    refine ⟨as, Ls, sm _ _ h1, Paired.imp' (fun a ls z => ?_) h2, h3⟩
    obtain ⟨kind, hs, ws, bs, ins, z1, z2⟩ := z
    exact ⟨kind, hs, ws, bs, ins, ⟨sm _ _ z1.at', z1.parts, z1.size, z1.bl, Paired.imp' (fun b i y => LinesAt.mono d y sm) z1.inn⟩, z2⟩
theorem paired_at {α β : Type} {R : α → β → Prop} : ∀ {xs : List α} {ys : List β} {i : Nat} {x : α}, Paired R xs ys → xs[i]? = some x → ∃ y, ys[i]? = some y ∧ R x y
  | _, _, _, _, .nil, e => by simp at e
  | _, _, 0, _, .cons (b := b) h _, e => ⟨b, rfl, by have := Option.some.inj e; subst this; exact h⟩
  | _, _, i + 1, _, .cons _ t, e => by
    rw [List.getElem?_cons_succ] at e
    obtain ⟨y, h1, h2⟩ := paired_at t e
    exact ⟨y, by rw [List.getElem?_cons_succ]; exact h1, h2⟩
theorem paired_len {α β : Type} {R : α → β → Prop} : ∀ {xs : List α} {ys : List β}, Paired R xs ys → xs.length = ys.length
  | _, _, .nil => rfl
  | _, _, .cons _ t => by rw [List.length_cons, List.length_cons, paired_len t]
theorem flat_le {α : Type} : ∀ (Ls : List (List α)) (i : Nat), (Ls.take i).flatten.length ≤ Ls.flatten.length
  | [], i => by simp
  | a :: Ls, 0 => by simp
  | a :: Ls, i + 1 => by
    have ih := flat_le Ls i
    rw [List.take_succ_cons, List.flatten_cons, List.flatten_cons, List.length_append, List.length_append]; omega
def spClosers (K : PySem.W.Frag) : Sp := fun vs H Q _ => ∃ k : Str, vs = [.str k] ∧ ∀ (p : Addr) (H' : Hp), Same H H' → SqT K H' p ((closT k).map V.str) → Q (.ref p) H'
def spHead (K : PySem.W.Frag) : Sp := fun vs H Q _ => ∃ (a : Addr) (k : Str) (xs : List V), vs = [.ref a] ∧ SqT K H a (.str k :: xs) ∧ (closT k).length ≤ xs.length + 1 ∧
  ∀ (p : Addr) (H' : Hp), Same H H' → SqT K H' p ((V.str k :: xs).take (xs.length + 1 - (closT k).length)) → Q (.ref p) H'
def spBlocks (K : PySem.W.Frag) : Sp := fun vs H Q _ => ∃ (a : Addr) (k : Str) (xs : List V), vs = [.ref a] ∧ SqT K H a (.str k :: xs) ∧ (closT k).length ≤ xs.length + 1 ∧
  ∀ (p : Addr) (H' : Hp), Same H H' → SqT K H' p ((V.str k :: xs).drop (xs.length + 1 - (closT k).length)) → Q (.ref p) H'
section
variable {P : Program} {w : World} {K : PySem.W.Frag} {mg : Str → Option Value} {base : Heap}
theorem ok_closers (D : DefAt K mg "closers_of" s_closers_of) {d a0 a1 a2 : Addr} (g_CLOSERS : mg "CLOSERS" = some (.ref d)) (m : ModD w K d [("lend", .ref a0), ("if", .ref a1), ("while", .ref a2)])
    (q0 : ∀ H : Hp, SqT K H a0 [.str "back"]) (q1 : ∀ H : Hp, SqT K H a1 [.str "else", .str "fi"]) (q2 : ∀ H : Hp, SqT K H a2 [.str "done"]) : Cal P w K mg base 1 "closers_of" ["kind"] (spClosers K) := by
  refine D.cal sc_closers_of (fun _ _ _ _ _ _ us hl => match us, hl with | [_], _ => rfl) (fun vs H Q E h => by obtain ⟨k, rfl, _⟩ := h; rfl) (fun f cdv A outer s H vs Q E hr h => ?_)
  obtain ⟨k, rfl, q⟩ := h
  refine ⟨_, (pss_one (ps_ret (pe_bmM w K PySem.F.plainAttrs_dict PySem.F.slot_dict_get PySem.F.type_dict_get (mt_getM w K) (pe_gref g_CLOSERS (hg := gl_closers_of_CLOSERS)) (pa_cons (pv 0 (hv := v_closers_of_kind)) (pa_cons (pe_tup pa_nil) pa_nil))))), ?_⟩
  walk_at "rd1"
  refine ⟨⟨d, _, rfl, m⟩, by decide, fun p hp => ?_⟩
  refine ⟨d, _, k, .ref p, rfl, rfl, m, ?_⟩
  have sm := same_new hp (.tup [])
  unfold closT at q
  by_cases h0 : k = "lend"
  · subst h0; exact q _ _ sm (q0 _)
  rw [if_neg h0] at q
  by_cases h1 : k = "if"
  · subst h1; exact q _ _ sm (q1 _)
  rw [if_neg h1] at q
  by_cases h2 : k = "while"
  · subst h2; exact q _ _ sm (q2 _)
  rw [if_neg h2] at q
  have e : valV [(("lend" : Str), V.ref a0), ("if", .ref a1), ("while", .ref a2)] k = none := by simp [valV, Ne.symm h0, Ne.symm h1, Ne.symm h2]
  rw [e]
  exact q _ _ sm (SqT.of upd_same)
theorem ok_head (D : DefAt K mg "head_of" s_head_of) (z_len : mg "len" = none) (c_closers_of : Cal P w K mg base 1 "closers_of" ["kind"] (spClosers K)) : Cal P w K mg base 2 "head_of" ["step"] (spHead K) := by
  refine D.cal sc_head_of (fun _ _ _ _ _ _ us hl => match us, hl with | [_], _ => rfl) (fun vs H Q E h => by obtain ⟨a, k, xs, rfl, _⟩ := h; rfl) (fun f cdv A outer s H vs Q E hr h => ?_)
  obtain ⟨a, k, xs, rfl, ha, hl, q⟩ := h
  refine ⟨_, (pss_one (ps_ret (pe_slice (sl_tupA K) (pv 0 (hv := v_head_of_step)) po_none (po_some (pe_op op_sub (pe_blt (call_lenK K) z_len bt_len (pa_cons (pv 0 (hv := v_head_of_step)) pa_nil) (hg := gl_head_of_len)) (pe_blt (call_lenK K) z_len bt_len (pa_cons (pe_cal c_closers_of hr (pa_cons (pe_ix (ix_K K) (pv 0 (hv := v_head_of_step)) pe_int (fun _ _ => rfl)) pa_nil) (hg := gl_head_of_closers_of)) pa_nil) (hg := gl_head_of_len))))))), ?_⟩
  walk_at "rd1"
  refine ⟨_, .inr ha, ?_⟩
  refine ⟨_, _, .inr ha, at0, ?_⟩
  refine ⟨k, rfl, fun p H1 sm1 hp => ?_⟩
  walk_at "rd1"
  refine ⟨_, .inr hp, ?_⟩
  walk_at "rd1"
  have e : ((xs.length + 1 : Nat) : Int) - ((((closT k).map V.str).length : Nat) : Int) = ((xs.length + 1 - (closT k).length : Nat) : Int) := by
    rw [List.length_map]; omega
  rw [e]
  refine rSlTA_of (ha.same sm1) fun p2 H2 sm2 h2 => q p2 H2 (sm1.trans sm2) ?_
  rw [cutV_to] at h2
  exact h2
theorem ok_blocks (D : DefAt K mg "blocks_of" s_blocks_of) (z_len : mg "len" = none) (c_head_of : Cal P w K mg base 2 "head_of" ["step"] (spHead K)) : Cal P w K mg base 3 "blocks_of" ["step"] (spBlocks K) := by
  refine D.cal sc_blocks_of (fun _ _ _ _ _ _ us hl => match us, hl with | [_], _ => rfl) (fun vs H Q E h => by obtain ⟨a, k, xs, rfl, _⟩ := h; rfl) (fun f cdv A outer s H vs Q E hr h => ?_)
  obtain ⟨a, k, xs, rfl, ha, hl, q⟩ := h
  refine ⟨_, (pss_one (ps_ret (pe_slice (sl_tupA K) (pv 0 (hv := v_blocks_of_step)) (po_some (pe_blt (call_lenK K) z_len bt_len (pa_cons (pe_cal c_head_of hr (pa_cons (pv 0 (hv := v_blocks_of_step)) pa_nil) (hg := gl_blocks_of_head_of)) pa_nil) (hg := gl_blocks_of_len))) po_none))), ?_⟩
  walk_at "rd1"
  refine ⟨a, k, xs, rfl, ha, hl, fun p H1 sm1 hp => ?_⟩
  walk_at "rd1"
  refine ⟨_, .inr hp, ?_⟩
  have e : (((V.str k :: xs).take (xs.length + 1 - (closT k).length)).length : Int) = ((xs.length + 1 - (closT k).length : Nat) : Int) := by
    rw [List.length_take, List.length_cons]; omega
  rw [e]
  refine rSlTA_of (ha.same sm1) fun p2 H2 sm2 h2 => q p2 H2 (sm1.trans sm2) ?_
  rw [cutV_from] at h2
  exact h2
end
/-! ### what the law draws: cells, mixed numbers, words, rules -/
abbrev letters : Str := "abcdefghijklmnopqrstuvwxyz"
def spLaw (K : PySem.W.Frag) : Sp := fun vs H Q _ => ∃ (a : Addr) (ns : List Int), vs = [.ref a] ∧ SqL K H a (ns.map V.int) ∧ ns.length ≤ 63 ∧ ∀ H', Q (.bl true) H'
def spCell (K : PySem.W.Frag) : Sp := fun vs H Q _ => ∃ (a : Addr) (ns : List Int) (k : Int), vs = [.ref a, .int k] ∧ SqL K H a (ns.map V.int) ∧ 0 ≤ k ∧ Q (.int (ns.getD k.toNat 0)) H
/-! texts glued of single signs -/
theorem fold_cps : ∀ (cs : List Nat) (acc : Array Nat), ((cs.map fun c => (⟨#[c]⟩ : Str)).foldl (fun acc p => acc ++ (Str.ofString "").cps ++ p.cps) acc).toList = acc.toList ++ cs
  | [], acc => by simp
  | c :: cs, acc => by
    rw [List.map_cons, List.foldl_cons, fold_cps cs]
    have e : (Str.ofString "").cps = #[] := by decide +kernel
    rw [e]; simp
theorem join_cps (cs : List Nat) : (Txt.join "" (cs.map fun c => (⟨#[c]⟩ : Str))).cps.toList = cs := by
  cases cs with
  | nil => rfl
  | cons c cs =>
    show (((c :: cs).map fun c => (⟨#[c]⟩ : Str)).drop 1 |>.foldl (fun acc p => acc ++ (Str.ofString "").cps ++ p.cps) (((c :: cs).map fun c => (⟨#[c]⟩ : Str)).headD Str.empty).cps).toList = c :: cs
    rw [List.map_cons, List.drop_one, List.tail_cons, fold_cps]; rfl
theorem join_len (cs : List Nat) : (Txt.join "" (cs.map fun c => (⟨#[c]⟩ : Str))).length = cs.length := by
  have e := congrArg List.length (join_cps cs)
  simpa [Str.length] using e
theorem sum_len_le (b : Nat) : ∀ (ss : List Str), (∀ s ∈ ss, s.length ≤ b) → (ss.map (·.length)).sum ≤ ss.length * b
  | [], _ => by simp
  | s :: ss, h => by
    have h1 := sum_len_le b ss fun x hx => h x (List.mem_cons_of_mem _ hx)
    have h2 := h s List.mem_cons_self
    rw [List.map_cons, List.sum_cons, List.length_cons, Nat.succ_mul]
    omega
theorem letter_at (z : Int) : ∃ c, letters.length ≤ sizeLine ∧ atI letters.cps.toList (z % 26) = some c ∧ c ∈ letters.cps.toList := by
  have hz : (z % 26).toNat < letters.cps.toList.length := by
    show (z % 26).toNat < 26
    omega
  refine ⟨letters.cps.toList[(z % 26).toNat], by decide, ?_, List.getElem_mem hz⟩
  have q := atI_nat (List.getElem?_eq_getElem hz)
  rwa [show (((z % 26).toNat : Nat) : Int) = z % 26 by omega] at q
theorem len_app1 (x : Str) (c : Nat) : (x ++ (⟨#[c]⟩ : Str)).length = x.length + 1 := by rw [Str.length_append]; rfl
section
variable {P : Program} {w : World} {K : PySem.W.Frag} {mg : Str → Option Value} {base : Heap}
theorem ok_cell (D : DefAt K mg "_law_cell_at" s_law_cell_at) (z_len : mg "len" = none) : Cal P w K mg base 1 "_law_cell_at" ["_law_script", "_law_k"] (spCell K) := by
  refine D.cal sc_law_cell_at (fun _ _ _ _ _ _ us hl => match us, hl with | [_, _], _ => rfl) (fun vs H Q E h => by obtain ⟨a, ns, k, rfl, _⟩ := h; rfl) (fun f cdv A outer s H vs Q E hr h => ?_)
  obtain ⟨a, ns, k, rfl, hS, h0, q⟩ := h
  refine ⟨_, (pss_cons (ps_if (pt_cmpR op_ltA (pv 1 (hv := v_law_cell_at__law_k)) (pe_blt (call_lenK K) z_len bt_len (pa_cons (pv 0 (hv := v_law_cell_at__law_script)) pa_nil) (hg := gl_law_cell_at_len)) (nomark _)) (pss_one (ps_ret (pe_ix (ix_K K) (pv 0 (hv := v_law_cell_at__law_script)) (pv 1 (hv := v_law_cell_at__law_k)) (fun _ _ => rfl)))) pss_nil)
      (pss_one (ps_ret pe_int))), ?_⟩
  walk_at "rd"
  refine ⟨_, .inl hS, ite2 (fun c => ?_) (fun c => ?_)⟩
  · rw [List.length_map] at c
    refine ⟨_, .int (ns.getD k.toNat 0), .inl hS, at_map h0 ?_, q⟩
    rw [List.getD_eq_getElem?_getD, List.getElem?_eq_getElem (by omega)]; rfl
  · rw [List.length_map] at c
    have e : ns.getD k.toNat 0 = 0 := by
      rw [List.getD_eq_getElem?_getD, List.getElem?_eq_none (by omega)]; rfl
    rw [e] at q; exact q
end
def plainKinds : List Str := ["open", "copy", "drop", "tie", "do"]
structure PlainW (ws : List Str) : Prop where
  two : 2 ≤ ws.length
  three : ws.length ≤ 3
  kind : ws.headD "" ∈ plainKinds
  len : ∀ x ∈ ws, x.length ≤ 20
def Plain (H : Hp) (a : Addr) (ws : List Str) : Prop := H a = some (.tup (ws.map V.str)) ∧ PlainW ws
def cutS {α : Type} (xs : List α) (lo hi : Option Int) : List α := (xs.drop (HT.sIx xs.length 0 lo)).take (HT.sIx xs.length xs.length hi - HT.sIx xs.length 0 lo)
theorem cut_map {α : Type} (f : α → V) (xs : List α) (lo hi : Option Int) : cutV (xs.map f) lo hi = (cutS xs lo hi).map f := by
  unfold cutV cutS
  rw [List.length_map, List.map_take, List.map_drop]
theorem cutS_len {α : Type} (xs : List α) (lo hi : Option Int) : (cutS xs lo hi).length ≤ xs.length := by
  unfold cutS
  rw [List.length_take, List.length_drop]
  omega
theorem Plain.mono {H H' : Hp} {a : Addr} {ws : List Str} (h : Plain H a ws) (sm : Same H H') : Plain H' a ws := ⟨sm _ _ h.1, h.2⟩
theorem paired_snoc {α β : Type} {R : α → β → Prop} {x : α} {y : β} (hxy : R x y) : ∀ {xs : List α} {ys : List β}, Paired R xs ys → Paired R (xs ++ [x]) (ys ++ [y])
  | _, _, .nil => .cons hxy .nil
  | _, _, .cons h t => .cons h (paired_snoc hxy t)
/-! ### programs as trees -/
inductive Stp where
  | plain (ws : List Str)
  | lend (x y : Str) (b : List Stp)
  | ite (n : Int) (b c : List Stp)
  | whl (n : Int) (b : List Stp)
def numT (n : Int) : Str := Str.ofString (toString n)
def stepLn (f : List Stp → List Str) : Stp → List Str
  | .plain ws => [Txt.join " " ws]
  | .lend x y b => Txt.join " " ["lend", x, y] :: (f b ++ [("back" : Str)])
  | .ite n b c => Txt.join " " ["if", numT n] :: (f b ++ [("else" : Str)] ++ (f c ++ [("fi" : Str)]))
  | .whl n b => Txt.join " " ["while", numT n] :: (f b ++ [("done" : Str)])
def lnT : Nat → List Stp → List Str
  | 0, _ => []
  | d + 1, T => T.flatMap (stepLn (lnT d))
def okS (f : List Stp → Prop) : Stp → Prop
  | .plain ws => PlainW ws
  | .lend x y b => x.length ≤ 20 ∧ y.length ≤ 20 ∧ f b
  | .ite n b c => n.natAbs.log2 < 1920 ∧ f b ∧ f c
  | .whl n b => n.natAbs.log2 < 1920 ∧ f b
def okT : Nat → List Stp → Prop
  | 0, _ => False
  | d + 1, T => ∀ s ∈ T, okS (okT d) s
def stpAt (PA : Addr → List Stp → Prop) (H : Hp) (a : Addr) : Stp → Prop
  | .plain ws => H a = some (.tup (ws.map V.str))
  | .lend x y b => ∃ q, H a = some (.tup [.str "lend", .str x, .str y, .ref q]) ∧ PA q b
  | .ite n b c => ∃ q r, H a = some (.tup [.str "if", .int n, .ref q, .ref r]) ∧ PA q b ∧ PA r c
  | .whl n b => ∃ q, H a = some (.tup [.str "while", .int n, .ref q]) ∧ PA q b
def ProgAt (S : Addr → Prop) : Nat → Hp → Addr → List Stp → Prop
  | 0 => fun _ _ _ => False
  | d + 1 => fun H p T => S p ∧ ∃ as : List Addr, H p = some (.lst (as.map V.ref)) ∧ Paired (stpAt (ProgAt S d H) H) as T
theorem stpAt.imp {PA PA' : Addr → List Stp → Prop} {H H' : Hp} {a : Addr} (ht : ∀ b xs, H b = some (.tup xs) → H' b = some (.tup xs)) (hp : ∀ q b, PA q b → PA' q b) : ∀ {s : Stp}, stpAt PA H a s → stpAt PA' H' a s
  | .plain _, h => ht _ _ h
  | .lend _ _ _, ⟨q, h, z⟩ => ⟨q, ht _ _ h, hp _ _ z⟩
  | .ite _ _ _, ⟨q, r, h, z, y⟩ => ⟨q, r, ht _ _ h, hp _ _ z, hp _ _ y⟩
  | .whl _ _, ⟨q, h, z⟩ => ⟨q, ht _ _ h, hp _ _ z⟩
theorem ProgAt.imp {S S' : Addr → Prop} {H H' : Hp} (ht : ∀ b xs, H b = some (.tup xs) → H' b = some (.tup xs)) (hl : ∀ b xs, S b → H b = some (.lst xs) → H' b = some (.lst xs)) (hS : ∀ b, S b → S' b) :
    ∀ (d : Nat) {p : Addr} {T : List Stp}, ProgAt S d H p T → ProgAt S' d H' p T
  | 0, _, _, h => h.elim
  | d + 1, p, T, ⟨h0, as, h1, h2⟩ => ⟨hS _ h0, as, hl _ _ h0 h1, Paired.imp' (fun a s z => z.imp ht fun q b y => ProgAt.imp ht hl hS d y) h2⟩
theorem ProgAt.mono {S : Addr → Prop} {H H' : Hp} {d : Nat} {p : Addr} {T : List Stp} (h : ProgAt S d H p T) (sm : Same H H') : ProgAt S d H' p T := h.imp (fun b xs e => sm _ _ e) (fun b xs _ e => sm _ _ e) (fun _ z => z) d
/-! ### steps within a program, and its names -/
def blk : Stp → List (List Stp)
  | .plain _ => []
  | .lend _ _ b => [b]
  | .ite _ b c => [b, c]
  | .whl _ b => [b]
def preS (f : List Stp → List Stp) (s : Stp) : List Stp := s :: (blk s).flatMap f
def preT : Nat → List Stp → List Stp
  | 0, _ => []
  | d + 1, T => T.flatMap (preS (preT d))
inductive PlainN : List Str → Prop
  | opn (x : Str) : PlainN ["open", x]
  | drp (x : Str) : PlainN ["drop", x]
  | cpy (x y : Str) : PlainN ["copy", x, y]
  | tie (x y : Str) : PlainN ["tie", x, y]
  | doo (u x : Str) : PlainN ["do", u, x]
def hdN : Stp → List Str
  | .plain ws => if ws.headD "" = "do" then ws.drop 2 else ws.drop 1
  | .lend x y _ => [x, y]
  | .ite _ _ _ => []
  | .whl _ _ => []
def okNS (f : List Stp → Prop) : Stp → Prop
  | .plain ws => PlainN ws
  | .lend _ _ b => f b
  | .ite _ b c => f b ∧ f c
  | .whl _ b => f b
def headAt (H : Hp) (a : Addr) (s : Stp) : Prop := stpAt (fun _ _ => True) H a s
theorem headAt.mono {H H' : Hp} {a : Addr} {s : Stp} (h : headAt H a s) (sm : Same H H') : headAt H' a s := stpAt.imp (fun b xs e => sm _ _ e) (fun _ _ _ => trivial) h
theorem step_parts {PA : Addr → List Stp → Prop} {H : Hp} {a : Addr} {g : List Stp → Prop} : ∀ {s : Stp}, stpAt PA H a s → okNS g s → ∃ (kind : Str) (hs : List V) (bs : List Addr), H a = some (.tup (.str kind :: hs ++ bs.map V.ref)) ∧ bs.length = (closT kind).length ∧ Paired PA bs (blk s) ∧ ∀ b ∈ blk s, g b
  | .plain ws, h, ok => by
    cases ok with
    | opn x => exact ⟨"open", [.str x], [], h, by show 0 = (closT "open").length; decide, .nil, by simp [blk]⟩
    | drp x => exact ⟨"drop", [.str x], [], h, by show 0 = (closT "drop").length; decide, .nil, by simp [blk]⟩
    | cpy x y => exact ⟨"copy", [.str x, .str y], [], h, by show 0 = (closT "copy").length; decide, .nil, by simp [blk]⟩
    | tie x y => exact ⟨"tie", [.str x, .str y], [], h, by show 0 = (closT "tie").length; decide, .nil, by simp [blk]⟩
    | doo u x => exact ⟨"do", [.str u, .str x], [], h, by show 0 = (closT "do").length; decide, .nil, by simp [blk]⟩
  | .lend x y b, ⟨q, h, z⟩, ok => ⟨"lend", [.str x, .str y], [q], h, by show 1 = (closT "lend").length; decide, .cons z .nil, by simpa [blk, okNS] using ok⟩
  | .ite n b c, ⟨q, r, h, z, y⟩, ok => ⟨"if", [.int n], [q, r], h, by show 2 = (closT "if").length; decide, .cons z (.cons y .nil), by simpa [blk, okNS] using ok⟩
  | .whl n b, ⟨q, h, z⟩, ok => ⟨"while", [.int n], [q], h, by show 1 = (closT "while").length; decide, .cons z .nil, by simpa [blk, okNS] using ok⟩
theorem fm_le {α β : Type} (f : α → List β) (T : List α) (i : Nat) : ((T.take i).flatMap f).length ≤ (T.flatMap f).length := by
  rw [List.flatMap_def, List.flatMap_def, List.map_take]; exact flat_le _ _
theorem fm_snoc {α β : Type} (f : α → List β) {T : List α} {i : Nat} {x : α} (h : T[i]? = some x) : (T.take (i + 1)).flatMap f = (T.take i).flatMap f ++ f x := by
  rw [List.take_add_one, h, List.flatMap_append]; simp
theorem paired_app {α β : Type} {R : α → β → Prop} : ∀ {xs zs : List α} {ys us : List β}, Paired R xs ys → Paired R zs us → Paired R (xs ++ zs) (ys ++ us)
  | _, _, _, _, .nil, h => h
  | _, _, _, _, .cons h t, h' => .cons h (paired_app t h')
section
variable {P : Program} {w : World} {K : PySem.W.Frag} {mg : Str → Option Value} {base : Heap}
def addN (acc : List Str) (x : Str) : List Str := if x ∈ acc then acc else acc ++ [x]
def ded (l : List Str) : List Str := l.foldl addN []
def kvN (l : List Str) : List (Key × V) := l.map fun x => (Sum.inr x, V.bl true)
theorem kvN_put (acc : List Str) (x : Str) : putK (kvN acc) (.inr x) (.bl true) = kvN (addN acc x) := by
  unfold putK addN
  by_cases h : x ∈ acc
  · rw [if_pos h]
    have ha : ((kvN acc).any fun kv => decide (kv.1 = (Sum.inr x : Key))) = true := by
      rw [List.any_eq_true]
      exact ⟨(.inr x, .bl true), List.mem_map.mpr ⟨x, h, rfl⟩, by simp⟩
    rw [if_pos ha]
    unfold kvN
    rw [List.map_map]
    refine List.map_congr_left fun y _ => ?_
    by_cases e : y = x
    · subst e; simp
    · have : ¬ ((Sum.inr y : Key) = Sum.inr x) := fun z => e (Sum.inr.inj z)
      simp [this]
  · rw [if_neg h]
    have ha : ((kvN acc).any fun kv => decide (kv.1 = (Sum.inr x : Key))) = false := by
      rw [List.any_eq_false]
      intro kv hkv
      obtain ⟨y, hy, rfl⟩ := List.mem_map.mp hkv
      have : ¬ ((Sum.inr y : Key) = Sum.inr x) := fun z => h (Sum.inr.inj z ▸ hy)
      simp [this]
    rw [if_neg (by rw [ha]; exact Bool.false_ne_true)]
    unfold kvN
    rw [List.map_append]; rfl
theorem fold_le : ∀ (l acc : List Str), (l.foldl addN acc).length ≤ acc.length + l.length
  | [], acc => by simp
  | x :: l, acc => by
    have := fold_le l (addN acc x)
    have h2 : (addN acc x).length ≤ acc.length + 1 := by unfold addN; split <;> simp
    rw [List.foldl_cons, List.length_cons]; omega
/-- the names among the parts, by the kinds of the parts -/
def pickN : List V → List Str → List Str
  | .str x :: xs, k :: ks => if k = "name" then x :: pickN xs ks else pickN xs ks
  | _ :: xs, _ :: ks => pickN xs ks
  | _, _ => []
def kindsN : List (Str × List Str) := [("open", ["name"]), ("do", ["word", "name"]), ("copy", ["name", "name"]), ("drop", ["name"]), ("tie", ["name", "name"]), ("lend", ["name", "name", "steps"]), ("if", ["bound", "steps", "steps"]), ("while", ["bound", "steps"])]
/-- a head as names_in takes it -/
structure HdP (H : Hp) (a : Addr) (s : Stp) (kind : Str) (xs : List V) (ks : List Str) : Prop where
  at' : H a = some (.tup (.str kind :: xs))
  kd : (kind, ks) ∈ kindsN
  len : xs.length = ks.length
  txt : ∀ (i : Nat) (x : V), xs[i]? = some x → ks[i]? = some "name" → ∃ y, x = .str y
  names : pickN xs ks = hdN s
theorem two_at {α : Type} {a b x : α} {i : Nat} (h : [a, b][i]? = some x) : (i = 0 ∧ x = a) ∨ (i = 1 ∧ x = b) := by
  match i, h with
  | 0, h => exact .inl ⟨rfl, by simpa using h.symm⟩
  | 1, h => exact .inr ⟨rfl, by simpa using h.symm⟩
  | i + 2, h => simp at h
theorem head_parts {H : Hp} {a : Addr} {g : List Stp → Prop} : ∀ {s : Stp}, headAt H a s → okNS g s → ∃ kind xs ks, HdP H a s kind xs ks
  | .plain ws, h, ok => by
    cases ok with
    | opn x => exact ⟨"open", [.str x], ["name"], h, by simp [kindsN], rfl, fun i y e _ => by match i, e with | 0, e => exact ⟨x, by simpa using e.symm⟩ | i + 1, e => simp at e, by simp [pickN, hdN]; decide⟩
    | drp x => exact ⟨"drop", [.str x], ["name"], h, by simp [kindsN], rfl, fun i y e _ => by match i, e with | 0, e => exact ⟨x, by simpa using e.symm⟩ | i + 1, e => simp at e, by simp [pickN, hdN]; decide⟩
    | cpy x y => exact ⟨"copy", [.str x, .str y], ["name", "name"], h, by simp [kindsN], rfl, fun i z e _ => by rcases two_at e with ⟨_, rfl⟩ | ⟨_, rfl⟩ <;> exact ⟨_, rfl⟩, by simp [pickN, hdN]; decide⟩
    | tie x y => exact ⟨"tie", [.str x, .str y], ["name", "name"], h, by simp [kindsN], rfl, fun i z e _ => by rcases two_at e with ⟨_, rfl⟩ | ⟨_, rfl⟩ <;> exact ⟨_, rfl⟩, by simp [pickN, hdN]; decide⟩
    | doo u x => exact ⟨"do", [.str u, .str x], ["word", "name"], h, by simp [kindsN], rfl, fun i z e _ => by rcases two_at e with ⟨_, rfl⟩ | ⟨_, rfl⟩ <;> exact ⟨_, rfl⟩, by simp [pickN, hdN]; decide⟩
  | .lend x y b, ⟨q, h, _⟩, ok => ⟨"lend", [.str x, .str y, .ref q], ["name", "name", "steps"], h, by simp [kindsN], rfl, fun i z e e2 => by match i, e, e2 with | 0, e, e2 => exact ⟨_, by simpa using e.symm⟩ | 1, e, e2 => exact ⟨_, by simpa using e.symm⟩ | 2, e, e2 => exact absurd (by simpa using e2) (show ¬ (("steps" : Str) = "name") from by decide) | i + 3, e, e2 => simp at e, by simp [pickN, hdN]⟩
  | .ite n b c, ⟨q, r, h, _, _⟩, ok => ⟨"if", [.int n, .ref q, .ref r], ["bound", "steps", "steps"], h, by simp [kindsN], rfl, fun i z e e2 => by match i, e, e2 with | 0, e, e2 => exact absurd (by simpa using e2) (show ¬ (("bound" : Str) = "name") from by decide) | 1, e, e2 => exact absurd (by simpa using e2) (show ¬ (("steps" : Str) = "name") from by decide) | 2, e, e2 => exact absurd (by simpa using e2) (show ¬ (("steps" : Str) = "name") from by decide) | i + 3, e, e2 => simp at e, by simp [pickN, hdN]⟩
  | .whl n b, ⟨q, h, _⟩, ok => ⟨"while", [.int n, .ref q], ["bound", "steps"], h, by simp [kindsN], rfl, fun i z e e2 => by match i, e, e2 with | 0, e, e2 => exact absurd (by simpa using e2) (show ¬ (("bound" : Str) = "name") from by decide) | 1, e, e2 => exact absurd (by simpa using e2) (show ¬ (("steps" : Str) = "name") from by decide) | i + 2, e, e2 => simp at e, by simp [pickN, hdN]⟩
end
def wordS (y : Str) : Bool := decide (1 ≤ y.length ∧ y.length ≤ 8) && y.cps.toList.all fun c => decide (c ∈ letters.cps.toList)
def wordV : V → Bool
  | .str y => wordS y
  | _ => false
def spWord : Sp := fun vs H Q _ => ∃ (x : V) (T : String), vs = [x] ∧ tyName H x = some T ∧ (∀ y, x = .str y → y.length ≤ sizeLine) ∧ ∀ H', Same H H' → Q (.bl (wordV x)) H'
theorem ty_str {H : Hp} {x : V} {T : String} (h : tyName H x = some T) (e : isT T "str" = true) : ∃ y, x = .str y := by
  cases x with
  | str y => exact ⟨y, rfl⟩
  | ref a =>
    cases e' : H a with
    | none => simp [tyName, e'] at h
    | some o =>
      cases o with
      | frz ob u => cases u <;> simp [tyName, e'] at h <;> subst h <;> exact absurd e (by decide)
      | _ => simp [tyName, e'] at h <;> subst h <;> exact absurd e (by decide)
  | _ => first | (cases h; exact absurd e (by decide)) | cases h
theorem wordV_no {H : Hp} {x : V} {T : String} (h : tyName H x = some T) (e : ¬ isT T "str" = true) : wordV x = false := by
  cases x with
  | str y => cases h; exact absurd rfl e
  | _ => rfl
section
variable {P : Program} {w : World} {K : PySem.W.Frag} {mg : Str → Option Value} {base : Heap}
theorem ok_is_word (D : DefAt K mg "is_word" s_is_word) (z_isinstance : mg "isinstance" = none) (z_str : mg "str" = none) (z_len : mg "len" = none) (z_all : mg "all" = none)
    (g_MOST_LETTERS : ∃ t, mg "MOST_LETTERS" = some (.int 8 t)) (g_LETTERS : ∃ t, mg "LETTERS" = some (.str "abcdefghijklmnopqrstuvwxyz" t)) : Cal P w K mg base 1 "is_word" ["thing"] spWord := by
  refine D.cal sc_is_word (fun _ _ _ _ _ _ us hl => match us, hl with | [_], _ => rfl) (fun vs H Q E h => by obtain ⟨x, T, rfl, _⟩ := h; rfl) (fun f cdv A outer s H vs Q E hr h => ?_)
  obtain ⟨x, T, rfl, hT, hx, q⟩ := h
  refine ⟨_, (pss_cons (ps_if (PW.pt' (pw_or (pt_not (pt_val (pe_blt call_isT z_isinstance bt_isinstance (pa_cons (pv 0 (hv := v_is_word_thing)) (pa_cons (pe_gty z_str bt_str (hg := gl_is_word_str)) pa_nil)) (hg := gl_is_word_isinstance)))) (pw_or1 (pt_not (pt_chain op_le op_le pe_int (pe_blt (call_lenK K) z_len bt_len (pa_cons (pv 0 (hv := v_is_word_thing)) pa_nil) (hg := gl_is_word_len)) (pe_gint g_MOST_LETTERS (hg := gl_is_word_MOST_LETTERS))))))) (pss_one (ps_ret pe_bl)) pss_nil)
      (pss_one (ps_ret (pe_blt (call_allK K) z_all bt_all (pa_cons (pe_comp (CompSc.to (fsc := (defScope s_is_word)) (N := ["thing"]) (N0 := ["thing"]) (T := ["sign"]) ⟨by decide +kernel, by decide +kernel, by decide +kernel, by decide +kernel, by decide +kernel, by decide +kernel, by decide +kernel⟩ rfl rfl) rfl (pi_str (pv 0 (hv := v_is_word_thing))) (fun _ _ _ _ => (pg_let 1 (show (["thing", "sign"] : List Str).Nodup from by decide +kernel) (hx := (locC (defScope s_is_word) (by decide +kernel))) (hf := fnC (defScope s_is_word) (by decide +kernel)))) (gfr_name (show (["thing"] : List Str).length ≤ 1 from by decide)) (fun _ _ _ _ => pifs_nil) (fun _ _ _ _ => (pe_cmpR (op_inK K) (pv 1 (hv := (visC (defScope s_is_word) (by decide +kernel)))) (pe_gstr g_LETTERS (hg := (glC (defScope s_is_word) (by decide +kernel)))) (by with_unfolding_all rfl)))) pa_nil) (hg := gl_is_word_all))))), ?_⟩
  walk_at "rd"
  refine ⟨T, hT, by decide, ?_⟩
  refine ite2 (fun c => ?_) (fun c => ?_)
  · rw [← wordV_no hT (by simpa using c)]
    exact q H (Same.refl H)
  · obtain ⟨y, rfl⟩ := ty_str hT (by simpa using c)
    have hy := hx y rfl
    walk_at "rd"
    refine ⟨hy, ?_⟩
    refine ite2 (fun c1 => ?_) (fun c1 => ?_)
    · refine ite2 (fun c2 => ?_) (fun c2 => ?_)
      · have e : wordV (.str y) = false := by
          show (decide (1 ≤ y.length ∧ y.length ≤ 8) && _) = false
          rw [decide_eq_false (by simp at c2; omega)]; rfl
        rw [← e]; exact q H (Same.refl H)
      · intro L hL
        have c1' : 1 ≤ y.length := by omega
        have c2' : y.length ≤ 8 := by simp at c2; omega
        refine compW_str (fun i ys H' => Same H H' ∧ H' L = some (.lst ys) ∧ ys = ((y.cps.toList.take i).map fun c => decide (c ∈ letters.cps.toList)).map V.bl) ⟨same_new hL _, upd_same, rfl⟩ ?_ ?_
        · rintro i ys H' c hc hi ⟨sm, hD, rfl⟩
          walk_at "rd"
          have hc' : y.cps.toList[i]? = some c := by simpa using hc
          refine cstep hi ?_ hy hD ⟨fun b o e => ?_, upd_same, ?_⟩
          · rw [List.length_map, List.length_map, List.length_take]
            have : y.cps.toList.length = y.length := by simp [Str.length]
            omega
          · rw [upd_ne (ne_of_none e hL)]; exact sm b o e
          · rw [StrLaws.found_one, List.take_add_one, hc', List.map_append, List.map_append]; rfl
        · rintro ys H' ⟨sm, hD, rfl⟩
          walk_at "rd"
          refine ⟨_, SqL.of hD, ?_⟩
          have e : (((y.cps.toList.take y.length).map fun c => decide (c ∈ letters.cps.toList)).all id) = wordV (.str y) := by
            show _ = (decide (1 ≤ y.length ∧ y.length ≤ 8) && y.cps.toList.all fun c => decide (c ∈ letters.cps.toList))
            rw [decide_eq_true ⟨c1', c2'⟩, Bool.true_and, List.all_map, List.take_of_length_le (by simp [Str.length])]
            rfl
          rw [e]; exact q H' sm
    · have e : wordV (.str y) = false := by
        show (decide (1 ≤ y.length ∧ y.length ≤ 8) && _) = false
        rw [decide_eq_false (by omega)]; rfl
      rw [← e]; exact q H (Same.refl H)
end
/-! ### what may be a step, of anything -/
def wholeV : V → Bool
  | .int _ => true
  | _ => false
def boundV : V → Bool
  | .int i => decide ((if i < 0 then -i else i) < 10 ^ 60)
  | _ => false
def isL (H : Hp) (x : V) : Bool := decide (tyName H x = some "list")
def partV (H : Hp) (x : V) (k : Str) : Bool := if k = "steps" then isL H x else if k = "bound" then boundV x else wordV x
/-- a thing that may be asked -/
def Thing (H : Hp) (x : V) : Prop := (∃ T, tyName H x = some T) ∧ ∀ y, x = .str y → y.length ≤ sizeLine
theorem Thing.mono {H H' : Hp} {x : V} (h : Thing H x) (sm : Same H H') : Thing H' x ∧ ∀ T, tyName H x = some T → tyName H' x = some T := by
  obtain ⟨⟨T, hT⟩, h2⟩ := h
  have key : ∀ T, tyName H x = some T → tyName H' x = some T := fun T hT => by
    cases x with
    | ref a =>
      cases e : H a with
      | none => simp [tyName, e] at hT
      | some o =>
        have e' := sm _ _ e
        simp only [tyName, e, e'] at hT ⊢
        exact hT
    | _ => exact hT
  exact ⟨⟨⟨T, key T hT⟩, h2⟩, key⟩
def spWhole : Sp := fun vs H Q _ => ∃ x : V, vs = [x] ∧ Thing H x ∧ Q (.bl (wholeV x)) H
def spBound : Sp := fun vs H Q _ => ∃ x : V, vs = [x] ∧ Thing H x ∧ Q (.bl (boundV x)) H
def spPart : Sp := fun vs H Q _ => ∃ (x : V) (k : Str), vs = [x, .str k] ∧ Thing H x ∧ ∀ H', Same H H' → Q (.bl (partV H x k)) H'
section
variable {P : Program} {w : World} {K : PySem.W.Frag} {mg : Str → Option Value} {base : Heap}
theorem ok_whole (D : DefAt K mg "is_whole" s_is_whole) (z_isinstance : mg "isinstance" = none) (z_int : mg "int" = none) (z_bool : mg "bool" = none) : Cal P w K mg base 1 "is_whole" ["thing"] spWhole := by
  refine D.cal sc_is_whole (fun _ _ _ _ _ _ us hl => match us, hl with | [_], _ => rfl) (fun vs H Q E h => by obtain ⟨x, rfl, _⟩ := h; rfl) (fun f cdv A outer s H vs Q E hr h => ?_)
  obtain ⟨x, rfl, ⟨⟨T, hT⟩, _⟩, q⟩ := h
  refine ⟨_, (pss_one (ps_ret (pe_and (pe_blt call_isT z_isinstance bt_isinstance (pa_cons (pv 0 (hv := v_is_whole_thing)) (pa_cons (pe_gty z_int bt_int (hg := gl_is_whole_int)) pa_nil)) (hg := gl_is_whole_isinstance)) (pe_one (pe_not (pe_blt call_isT z_isinstance bt_isinstance (pa_cons (pv 0 (hv := v_is_whole_thing)) (pa_cons (pe_gty z_bool bt_bool (hg := gl_is_whole_bool)) pa_nil)) (hg := gl_is_whole_isinstance))))))), ?_⟩
  walk_at "rd1"
  refine ⟨T, hT, by decide, ?_⟩
  have hint : isT T "int" = true → T = "int" ∨ T = "bool" := fun h => by
    have hm := tyName_mem hT
    simp only [List.mem_cons, List.mem_nil_iff, or_false] at hm
    rcases hm with rfl | rfl | rfl | rfl | rfl | rfl | rfl <;> first | exact .inl rfl | exact .inr rfl | exact absurd h (by decide)
  refine ite2 (fun c => ?_) (fun c => ?_)
  · refine ⟨T, hT, by decide, ?_⟩
    rcases hint c with rfl | rfl
    · have e : wholeV x = true := by
        cases x with
        | int i => rfl
        | ref a =>
          cases e : H a with
          | none => simp [tyName, e] at hT
          | some o => cases o <;> simp [tyName, e] at hT <;> (rename_i u; cases u <;> simp at hT)
        | _ => simp [tyName] at hT
      rw [e] at q; exact q
    · have e : wholeV x = false := by
        cases x with
        | int i => simp [tyName] at hT
        | _ => rfl
      rw [e] at q; exact q
  · have e : wholeV x = false := by
      cases x with
      | int i => cases hT; exact absurd rfl c
      | _ => rfl
    rw [e] at q; exact q
theorem bt_abs : bootBuiltins "abs" = some (.builtin "abs") := by decide +kernel
theorem ok_bound (D : DefAt K mg "is_bound" s_is_bound) (z_abs : mg "abs" = none) (c_is_whole : Cal P w K mg base 1 "is_whole" ["thing"] spWhole) : Cal P w K mg base 2 "is_bound" ["thing"] spBound := by
  refine D.cal sc_is_bound (fun _ _ _ _ _ _ us hl => match us, hl with | [_], _ => rfl) (fun vs H Q E h => by obtain ⟨x, rfl, _⟩ := h; rfl) (fun f cdv A outer s H vs Q E hr h => ?_)
  obtain ⟨x, rfl, hx, q⟩ := h
  refine ⟨_, (pss_one (ps_ret (pe_and (pe_cal c_is_whole hr (pa_cons (pv 0 (hv := v_is_bound_thing)) pa_nil) (hg := gl_is_bound_is_whole)) (pe_one (pe_cmpR op_ltA (pe_blt call_abs z_abs bt_abs (pa_cons (pv 0 (hv := v_is_bound_thing)) pa_nil) (hg := gl_is_bound_abs)) (pe_op op_pow pe_int pe_int) (nomark _)))))), ?_⟩
  walk_at "rd1"
  refine ⟨x, rfl, hx, ?_⟩
  cases x with
  | int i =>
    walk_at "rd1"
    refine ite2 (fun _ => ?_) (fun c => absurd rfl c)
    refine ⟨⟨by decide, by decide, by decide⟩, ?_⟩
    exact q
  | _ =>
    exact ⟨false, rfl, by rw [if_neg Bool.false_ne_true]; exact q⟩
theorem ok_part (D : DefAt K mg "is_part" s_is_part) (z_isinstance : mg "isinstance" = none) (z_list : mg "list" = none) (c_is_bound : Cal P w K mg base 2 "is_bound" ["thing"] spBound) (c_is_word : Cal P w K mg base 1 "is_word" ["thing"] spWord) : Cal P w K mg base 3 "is_part" ["thing", "kind"] spPart := by
  refine D.cal sc_is_part (fun _ _ _ _ _ _ us hl => match us, hl with | [_, _], _ => rfl) (fun vs H Q E h => by obtain ⟨x, k, rfl, _⟩ := h; rfl) (fun f cdv A outer s H vs Q E hr h => ?_)
  obtain ⟨x, k, rfl, hx, q⟩ := h
  obtain ⟨⟨T, hT⟩, hx2⟩ := id hx
  refine ⟨_, (pss_cons (ps_if (pt_cmpR op_eqA (pv 1 (hv := v_is_part_kind)) pe_str (nomark _)) (pss_one (ps_ret (pe_blt call_isT z_isinstance bt_isinstance (pa_cons (pv 0 (hv := v_is_part_thing)) (pa_cons (pe_gty z_list bt_list (hg := gl_is_part_list)) pa_nil)) (hg := gl_is_part_isinstance)))) pss_nil)
      (pss_cons (ps_if (pt_cmpR op_eqA (pv 1 (hv := v_is_part_kind)) pe_str (nomark _)) (pss_one (ps_ret (pe_cal c_is_bound hr (pa_cons (pv 0 (hv := v_is_part_thing)) pa_nil) (hg := gl_is_part_is_bound)))) pss_nil)
      (pss_one (ps_ret (pe_cal c_is_word hr (pa_cons (pv 0 (hv := v_is_part_thing)) pa_nil) (hg := gl_is_part_is_word)))))), ?_⟩
  unfold partV at q
  walk_at "rd1"
  refine ite2 (fun c1 => ?_) (fun c1 => ?_)
  · rw [if_pos c1] at q
    refine ⟨T, hT, by decide, ?_⟩
    have e : isT T "list" = isL H x := by
      unfold isL
      rw [hT]
      have hm := tyName_mem hT
      simp only [List.mem_cons, List.mem_nil_iff, or_false] at hm
      rcases hm with rfl | rfl | rfl | rfl | rfl | rfl | rfl <;> decide
    rw [e]; exact q H (Same.refl H)
  rw [if_neg c1] at q
  walk_at "nx"
  refine ite2 (fun c2 => ?_) (fun c2 => ?_)
  · rw [if_pos c2] at q
    exact ⟨x, rfl, hx, q H (Same.refl H)⟩
  rw [if_neg c2] at q
  walk_at "nx"
  exact ⟨x, T, rfl, hT, hx2, fun H' sm => q H' sm⟩
def kindsL : List (Str × List Str) := [("open", ["name"]), ("do", ["word", "name"]), ("copy", ["name", "name"]), ("drop", ["name"]), ("tie", ["name", "name"]), ("lend", ["name", "name", "steps"]), ("if", ["bound", "steps", "steps"]), ("while", ["bound", "steps"])]
def valK (k : Str) : Option (List Str) := (kindsL.find? fun p => p.1 = k).map (·.2)
def allP (H : Hp) (xs : List V) (ks : List Str) : Bool := (List.zipWith (partV H) xs ks).all id
def likeT (H : Hp) : List V → Bool
  | .str k :: xs => match valK k with
    | some ks => decide (xs.length = ks.length) && allP H xs ks
    | none => false
  | _ => false
def likeV (H : Hp) : V → Bool
  | .ref a => match H a with
    | some (.tup xs) => likeT H xs
    | _ => false
  | _ => false
def ThingT (H : Hp) (x : V) : Prop := Thing H x ∧ ∀ a xs, x = .ref a → H a = some (.tup xs) → (∀ y ∈ xs, Thing H y) ∧ xs.length ≤ 1000
def spLike : Sp := fun vs H Q _ => ∃ x : V, vs = [x] ∧ ThingT H x ∧ ∀ H', Same H H' → Q (.bl (likeV H x)) H'
theorem partV_mono {H H' : Hp} {x : V} {k : Str} (h : Thing H x) (sm : Same H H') : partV H' x k = partV H x k := by
  obtain ⟨T, hT⟩ := h.1
  have := (h.mono sm).2 T hT
  unfold partV isL
  rw [hT, this]
theorem ok_like (D : DefAt K mg "is_like_step" s_is_like_step) (z_isinstance : mg "isinstance" = none) (z_tuple : mg "tuple" = none) (z_str : mg "str" = none) (z_len : mg "len" = none) (z_all : mg "all" = none) (z_zip : mg "zip" = none) (c_is_part : Cal P w K mg base 3 "is_part" ["thing", "kind"] spPart)
    {dP : Addr} {kvs : List (Str × V)} (g_PARTS : mg "PARTS" = some (.ref dP)) (m : ModD w K dP kvs) (pk : ∀ kind, match valK kind with | some ks => ∃ a, valV kvs kind = some (.ref a) ∧ ∀ H : Hp, SqT K H a (ks.map V.str) | none => valV kvs kind = none) : Cal P w K mg base 4 "is_like_step" ["thing"] spLike := by
  refine D.cal sc_is_like_step (fun _ _ _ _ _ _ us hl => match us, hl with | [_], _ => rfl) (fun vs H Q E h => by obtain ⟨x, rfl, _⟩ := h; rfl) (fun f cdv A outer s H vs Q E hr h => ?_)
  obtain ⟨x, rfl, ⟨hx, hxt⟩, q⟩ := h
  obtain ⟨⟨T, hT⟩, hx2⟩ := id hx
  refine ⟨_, (pss_cons (ps_if (PW.pt' (pw_or (pt_not (pt_val (pe_blt call_isT z_isinstance bt_isinstance (pa_cons (pv 0 (hv := v_is_like_step_thing)) (pa_cons (pe_gty z_tuple bt_tuple (hg := gl_is_like_step_tuple)) pa_nil)) (hg := gl_is_like_step_isinstance)))) (pw_or1 (pt_cmpR op_eqA (pe_blt (call_lenK K) z_len bt_len (pa_cons (pv 0 (hv := v_is_like_step_thing)) pa_nil) (hg := gl_is_like_step_len)) pe_int (nomark _))))) (pss_one (ps_ret pe_bl)) pss_nil)
      (pss_cons (ps_if (PW.pt' (pw_or (pt_not (pt_val (pe_blt call_isT z_isinstance bt_isinstance (pa_cons (pe_ix (ix_K K) (pv 0 (hv := v_is_like_step_thing)) pe_int (fun _ _ => rfl)) (pa_cons (pe_gty z_str bt_str (hg := gl_is_like_step_str)) pa_nil)) (hg := gl_is_like_step_isinstance)))) (pw_or1 (pt_cmpR (op_notInM w K) (pe_ix (ix_K K) (pv 0 (hv := v_is_like_step_thing)) pe_int (fun _ _ => rfl)) (pe_gref g_PARTS (hg := gl_is_like_step_PARTS)) (by with_unfolding_all rfl))))) (pss_one (ps_ret pe_bl)) pss_nil)
      (pss_cons (ps_let 1 sc_is_like_step.nd (pe_ix (ix_M w K) (pe_gref g_PARTS (hg := gl_is_like_step_PARTS)) (pe_ix (ix_K K) (pv 0 (hv := v_is_like_step_thing)) pe_int (fun _ _ => rfl)) (fun _ _ => rfl)) (hx := l_is_like_step_kinds))
      (pss_cons (ps_if (pt_cmpR op_neA (pe_blt (call_lenK K) z_len bt_len (pa_cons (pv 0 (hv := v_is_like_step_thing)) pa_nil) (hg := gl_is_like_step_len)) (pe_op op_addA pe_int (pe_blt (call_lenK K) z_len bt_len (pa_cons (pv 1 (hv := v_is_like_step_kinds)) pa_nil) (hg := gl_is_like_step_len))) (nomark _)) (pss_one (ps_ret pe_bl)) pss_nil)
      (pss_one (ps_ret (pe_blt (call_allK K) z_all bt_all (pa_cons (pe_comp (CompSc.to (fsc := (defScope s_is_like_step)) (N := ["thing", "kinds"]) (N0 := ["thing", "kinds"]) (T := ["part", "kind"]) ⟨by decide +kernel, by decide +kernel, by decide +kernel, by decide +kernel, by decide +kernel, by decide +kernel, by decide +kernel⟩ rfl rfl) rfl (pi_zipT K gl_is_like_step_zip z_zip (pa_cons (pe_slice (sl_tupA K) (pv 0 (hv := v_is_like_step_thing)) (po_some pe_int) po_none) (pa_cons (pv 1 (hv := v_is_like_step_kinds)) pa_nil))) (fun _ _ _ _ => (pg_tupK K (n := 2) (pgs_cons (pg_let 2 (show (["thing", "kinds", "part", "kind"] : List Str).Nodup from by decide +kernel) (hx := (locC (defScope s_is_like_step) (by decide +kernel))) (hf := fnC (defScope s_is_like_step) (by decide +kernel))) (pgs_cons (pg_let 3 (show (["thing", "kinds", "part", "kind"] : List Str).Nodup from by decide +kernel) (hx := (locC (defScope s_is_like_step) (by decide +kernel))) (hf := fnC (defScope s_is_like_step) (by decide +kernel))) pgs_nil)))) (gfr_tup (gsfr_cons (gfr_name (show (["thing", "kinds"] : List Str).length ≤ 2 from by decide)) gm_name (gsfr_cons (gfr_name (show (["thing", "kinds"] : List Str).length ≤ 3 from by decide)) gm_name gsfr_nil gsm_nil) (gsm_cons gm_name gsm_nil))) (fun _ _ _ _ => pifs_nil) (fun _ _ _ _ => (pe_cal c_is_part hr (pa_cons (pv 2 (hv := (visC (defScope s_is_like_step) (by decide +kernel)))) (pa_cons (pv 3 (hv := (visC (defScope s_is_like_step) (by decide +kernel)))) pa_nil)) (hg := (glC (defScope s_is_like_step) (by decide +kernel)))))) pa_nil) (hg := gl_is_like_step_all)))))))), ?_⟩
  walk_at "rd1"
  refine ⟨T, hT, by decide, ?_⟩
  by_cases htup : ∃ a xs, x = .ref a ∧ H a = some (.tup xs)
  · obtain ⟨a, xs, rfl, ha⟩ := htup
    have hTt : T = "tuple" := by simp [tyName, ha] at hT; exact hT.symm
    subst hTt
    obtain ⟨hth, hxl⟩ := hxt a xs rfl ha
    have e0 : likeV H (.ref a) = likeT H xs := by simp [likeV, ha]
    rw [e0] at q
    refine ite2 (fun c => absurd c (by decide)) (fun _ => ?_)
    walk_at "rd1"
    refine ⟨_, .inr (SqT.of ha), ?_⟩
    cases xs with
    | nil =>
      refine ite2 (fun _ => q H (Same.refl H)) (fun c => absurd rfl c)
    | cons x0 xr =>
      refine ite2 (fun c => absurd c (by simp only [List.length_cons]; omega)) (fun _ => ?_)
      have hat : SqT K H a (x0 :: xr) := SqT.of ha
      obtain ⟨⟨T0, hT0⟩, hs0⟩ := hth x0 List.mem_cons_self
      walk_at "nx"
      refine ⟨_, _, .inr hat, at0, T0, hT0, by decide, ?_⟩
      by_cases hstr : ∃ k, x0 = .str k
      · obtain ⟨k, rfl⟩ := hstr
        have hT0' : T0 = "str" := by simpa [tyName] using hT0.symm
        subst hT0'
        refine ite2 (fun c => absurd c (by decide)) (fun _ => ?_)
        walk_at "rd1"
        refine ⟨_, _, .inr hat, at0, dP, kvs, k, rfl, rfl, m, ?_⟩
        have hpk := pk k
        cases hv : valK k with
        | none =>
          rw [hv] at hpk
          have hpk' : valV kvs k = none := hpk
          rw [hpk']
          have e1 : likeT H (.str k :: xr) = false := by simp [likeT, hv]
          rw [e1] at q
          walk_at "rd1"
          exact q H (Same.refl H)
        | some ks =>
          rw [hv] at hpk
          obtain ⟨ka, hka, hks⟩ := hpk
          rw [hka]
          walk_at "rd1"
          walk_at "nx"
          refine ⟨_, _, .inr hat, at0, dP, kvs, k, .ref ka, rfl, rfl, m, hka, ?_⟩
          walk_at "nx"
          refine ⟨_, .inr hat, _, .inr (hks H), ?_⟩
          have e1 : likeT H (.str k :: xr) = (decide (xr.length = ks.length) && allP H xr ks) := by simp [likeT, hv]
          rw [e1] at q
          refine ite2 (fun c => ?_) (fun c => ?_)
          · have hne : ¬ xr.length = ks.length := fun z => by
              rw [List.length_map, List.length_cons, z] at c
              simp at c; omega
            rw [decide_eq_false hne] at q
            exact q H (Same.refl H)
          · have heq : xr.length = ks.length := by
              rw [List.length_map, List.length_cons] at c
              simp at c; omega
            rw [decide_eq_true heq, Bool.true_and] at q
            have hzl : (List.zipWith (partV H) xr ks).length = xr.length := by rw [List.length_zipWith]; omega
            rw [List.length_cons] at hxl
            walk_at "nx"
            refine rSlTA_of hat fun p2 H2 sm2 h2 => ?_
            have ec : cutV (V.str k :: xr) (some 1) none = xr := cutV_from _ 1
            rw [ec] at h2
            walk_at "rd1"
            refine ⟨⟨_, h2⟩, ⟨_, hks H2⟩, fun C hC => ?_⟩
            refine compW_zipT (xs := xr) (ys := ks.map V.str) (fun i ys H' => Same H2 H' ∧ H' C = some (.lst ys) ∧ ys = ((List.zipWith (partV H) xr ks).take i).map V.bl) (by rw [List.length_map]; exact heq) ⟨same_new hC _, upd_same, rfl⟩ (fun i ys H' _ h => ⟨h2.same h.1, hks H'⟩) ?_ ?_
            · rintro i ys H' x y t hx hy hi ⟨sm, hl, rfl⟩ ht
              have hik : i < ks.length := by omega
              have hxi : xr[i]? = some xr[i] := List.getElem?_eq_getElem hi
              rw [hxi] at hx
              cases hx
              rw [List.getElem?_map, List.getElem?_eq_getElem hik] at hy
              cases hy
              have hthi := hth _ (List.mem_cons_of_mem _ (List.getElem_mem hi))
              have hz : (List.zipWith (partV H) xr ks)[i]? = some (partV H xr[i] ks[i]) := by rw [List.getElem?_zipWith, hxi, List.getElem?_eq_getElem hik]
              have st := same_new ht (.tup [xr[i], V.str ks[i]])
              have et : upd H' t (.tup [xr[i], V.str ks[i]]) t = some (.tup [xr[i], V.str ks[i]]) := upd_same
              have nt : C ≠ t := ne_of_none hl ht
              have hl' : upd H' t (.tup [xr[i], V.str ks[i]]) C = _ := st _ _ hl
              generalize upd H' t (.tup [xr[i], V.str ks[i]]) = H3 at st et hl' ⊢
              have smH := (sm2.trans sm).trans st
              walk_at "rd1"
              refine ⟨t, _, rfl, SqT.of et, rfl, ?_⟩
              walk_at "rd1"
              refine ⟨xr[i], ks[i], rfl, (hthi.mono smH).1, fun H4 sm4 => ?_⟩
              rw [partV_mono hthi smH]
              refine cstep hi (by rw [List.length_map, List.length_take, hzl]; omega) (smallL (by omega)) (sm4 _ _ hl') ⟨((sm.trans st).trans sm4).upd hC _, upd_same, ?_⟩
              rw [List.take_add_one, hz, List.map_append]; rfl
            · rintro ys H' ⟨sm, hl, rfl⟩
              walk_at "rd1"
              rw [List.take_of_length_le (by omega)] at hl
              exact ⟨_, SqL.of hl, q H' (sm2.trans sm)⟩
      · have e1 : likeT H (x0 :: xr) = false := by
          cases x0 <;> first | rfl | exact absurd ⟨_, rfl⟩ hstr
        rw [e1] at q
        have hn : (!isT T0 "str") = true := by
          cases x0 with
          | str k => exact absurd ⟨k, rfl⟩ hstr
          | ref b =>
            cases e : H b with
            | none => simp [tyName, e] at hT0
            | some o =>
              cases o with
              | frz ob u => cases u <;> simp [tyName, e] at hT0 <;> subst hT0 <;> decide
              | _ => simp [tyName, e] at hT0 <;> subst hT0 <;> decide
          | _ => first | (cases hT0; decide) | (simp [tyName] at hT0)
        rw [if_pos hn]
        exact q H (Same.refl H)
  · have e0 : likeV H x = false := by
      cases x with
      | ref a =>
        cases e : H a with
        | none => simp [likeV, e]
        | some o => cases o <;> first | (simp [likeV, e]; done) | exact absurd ⟨a, _, rfl, e⟩ htup
      | _ => rfl
    rw [e0] at q
    have hn : (!isT T "tuple") = true := by
      cases x with
      | ref a =>
        cases e : H a with
        | none => simp [tyName, e] at hT
        | some o =>
          cases o with
          | tup xs => exact absurd ⟨a, _, rfl, e⟩ htup
          | frz ob u => cases u <;> simp [tyName, e] at hT <;> subst hT <;> decide
          | _ => simp [tyName, e] at hT <;> subst hT <;> decide
      | _ => first | (cases hT; decide) | (simp [tyName] at hT)
    rw [if_pos hn]
    exact q H (Same.refl H)
end
section
variable {P : Program} {w : World} {K : PySem.W.Frag} {mg : Str → Option Value} {base : Heap}
theorem pick_app : ∀ {xs : List V} {ks : List Str} (x : V) (k : Str), xs.length = ks.length → pickN (xs ++ [x]) (ks ++ [k]) = pickN xs ks ++ pickN [x] [k]
  | [], [], x, k, _ => rfl
  | [], _ :: _, _, _, h => by simp at h
  | _ :: _, [], _, _, h => by simp at h
  | y :: xs, c :: ks, x, k, h => by
    have ih := pick_app (xs := xs) (ks := ks) x k (by simpa using h)
    cases y <;> simp only [List.cons_append, pickN, ih]
    split <;> simp
theorem pick_take_len (xs : List V) (ks : List Str) (j : Nat) (h : xs.length = ks.length) : (pickN (xs.take j) (ks.take j)).length ≤ (pickN xs ks).length := by
  induction xs generalizing ks j with
  | nil => simp [pickN]
  | cons y xs ih =>
    cases ks with
    | nil => simp at h
    | cons c ks =>
      cases j with
      | zero => simp [pickN]
      | succ j =>
        have := ih ks j (by simpa using h)
        rw [List.take_succ_cons, List.take_succ_cons]
        cases y <;> simp only [pickN] <;> (try split) <;> (try simp only [List.length_cons]) <;> omega
theorem sqT_updD {K : PySem.W.Frag} {H : Hp} {a l : Addr} {xs : List V} {kvs : List (Key × V)} {o : HO} (h : SqT K H a xs) (hl : H l = some (.dK kvs)) : SqT K (upd H l o) a xs := by
  rcases h with (h | ⟨o', h⟩) | h
  · exact .inl (.inl (by rw [upd_ne (ne_of h hl (fun z => nomatch z))]; exact h))
  · exact .inl (.inr ⟨o', by rw [upd_ne (ne_of h hl (fun z => nomatch z))]; exact h⟩)
  · exact .inr h
def spNamesIn : Sp := fun vs H Q _ => ∃ (sp : Addr) (ads : List Addr) (Ps : List Stp) (g : List Stp → Prop), vs = [.ref sp] ∧ H sp = some (.lst (ads.map V.ref)) ∧ Paired (headAt H) ads Ps ∧ (∀ s ∈ Ps, okNS g s) ∧ (Ps.flatMap hdN).length ≤ 5000 ∧
  ∀ (q : Addr) (H' : Hp), Same H H' → H q = none → H' q = some (.lst ((ded (Ps.flatMap hdN)).map V.str)) → Q (.ref q) H'
theorem ok_namesin (D : DefAt K mg "names_in" s_names_in) (z_zip : mg "zip" = none) (z_list : mg "list" = none) {dP : Addr} {kvs : List (Str × V)} (g_PARTS : mg "PARTS" = some (.ref dP)) (m : ModD w K dP kvs)
    (qk : ∀ kind ks, (kind, ks) ∈ kindsN → ∃ a, valV kvs kind = some (.ref a) ∧ ∀ H : Hp, SqT K H a (ks.map V.str)) : Cal P w K mg base 1 "names_in" ["steps"] spNamesIn := by
  refine D.cal sc_names_in (fun _ _ _ _ _ _ us hl => match us, hl with | [_], _ => rfl) (fun vs H Q E h => by obtain ⟨_, _, _, _, rfl, _⟩ := h; rfl) (fun f cdv A outer s H vs Q E hr h => ?_)
  obtain ⟨sp, ads, Ps, g, rfl, hsp, hp, hok, hL, q⟩ := h
  have hlen := paired_len hp
  refine ⟨_, (pss_cons (ps_let 1 sc_names_in.nd pe_dnewK (hx := l_names_in_names))
      (pss_cons (ps_for PassesOwn.never rfl (pi_listK K (pv 0 (hv := v_names_in_steps))) (pg_let 2 sc_names_in.nd (hx := l_names_in_step)) (pss_one (ps_for PassesOwn.never rfl (pi_zipT K gl_names_in_zip z_zip (pa_cons (pe_slice (sl_tupA K) (pv 2 (hv := v_names_in_step)) (po_some pe_int) po_none) (pa_cons (pe_ix (ix_M w K) (pe_gref g_PARTS (hg := gl_names_in_PARTS)) (pe_ix (ix_K K) (pv 2 (hv := v_names_in_step)) pe_int (fun _ _ => rfl)) (fun _ _ => rfl)) pa_nil))) (pg_tupK K (n := 2) (pgs_cons (pg_let 3 sc_names_in.nd (hx := l_names_in_part)) (pgs_cons (pg_let 4 sc_names_in.nd (hx := l_names_in_kind)) pgs_nil))) (pss_one (ps_if (pt_cmpR op_eqA (pv 4 (hv := v_names_in_kind)) pe_str (nomark _)) (pss_one (ps_asg pe_bl (pg_sub (pv 1 (hv := v_names_in_names)) (pv 3 (hv := v_names_in_part)) (set_D hr)))) pss_nil)))))
      (pss_one (ps_ret (pe_bty (call_listD hr) z_list bt_list (pa_cons (pv 1 (hv := v_names_in_names)) pa_nil) (hg := gl_names_in_list)))))), ?_⟩
  walk_at "rd1"
  refine fun dp hdp => ?_
  generalize hH1 : upd H dp _ = H1
  have sm1 := al_same hH1 hdp
  have e1 := al_at hH1
  walk_at "nx"
  refine ⟨⟨_, SqL.of (sm1 _ _ hsp)⟩, ?_⟩
  refine forW_list (xs := ads.map V.ref) (fun i σ H' => ∃ o2 o3 o4 : Option V, σ = [some (.ref sp), some (.ref dp), o2, o3, o4] ∧ Same H H' ∧ H' dp = some (.dK (kvN (ded ((Ps.take i).flatMap hdN)))))
    ⟨none, none, none, rfl, sm1, e1⟩ (fun i σ H' _ h => by obtain ⟨_, _, _, _, sm, _⟩ := h; exact SqL.of (sm _ _ hsp)) ?_ ?_
  · rintro i v σ H' hv ⟨o2, o3, o4, rfl, sm, hd⟩
    have hi : i < ads.length := by have := (List.getElem?_eq_some_iff.mp hv).1; simpa using this
    rw [List.getElem?_map, List.getElem?_eq_getElem hi] at hv
    cases hv
    obtain ⟨s, hs, st⟩ := paired_at hp (List.getElem?_eq_getElem hi)
    obtain ⟨kind, xs, ks, hd1, hd2, hd3, hd4, hd5⟩ := head_parts st (hok s (List.mem_of_getElem? hs))
    obtain ⟨ka, hka, hks⟩ := qk kind ks hd2
    have hsn := fm_snoc hdN hs
    have hfl := fm_le hdN Ps (i + 1)
    rw [hsn] at hfl ⊢
    have hded : ded ((Ps.take i).flatMap hdN ++ hdN s) = (hdN s).foldl addN (ded ((Ps.take i).flatMap hdN)) := by unfold ded; rw [List.foldl_append]
    rw [hded]
    have hac := fold_le ((Ps.take i).flatMap hdN) []
    rw [List.length_append] at hfl
    rw [List.length_nil] at hac
    have hac' : (ded ((Ps.take i).flatMap hdN)).length ≤ ((Ps.take i).flatMap hdN).length := by unfold ded; omega
    generalize ded ((Ps.take i).flatMap hdN) = acc at hd hac' ⊢
    have hat : SqT K H' ads[i] (.str kind :: xs) := SqT.of (sm _ _ hd1)
    walk_at "rd1"
    refine rSlTA_of hat fun p2 H2 sm2 h2 => ?_
    have e1 : cutV (V.str kind :: xs) (some 1) none = xs := cutV_from _ 1
    rw [e1] at h2
    walk_at "rd1"
    refine ⟨_, _, .inr (hat.same sm2), at0, dP, kvs, kind, .ref ka, rfl, rfl, m, hka, ?_⟩
    refine ⟨p2, ka, rfl, ⟨_, h2⟩, ⟨_, hks _⟩, ?_⟩
    refine forW_zipT (xs := xs) (ys := ks.map V.str) (fun j σ H' => ∃ o3 o4 : Option V, σ = [some (.ref sp), some (.ref dp), some (.ref ads[i]), o3, o4] ∧ Same H H' ∧ SqT K H' p2 xs ∧ H' dp = some (.dK (kvN ((pickN (xs.take j) (ks.take j)).foldl addN acc))))
      (by rw [List.length_map]; exact hd3) ⟨o3, o4, rfl, sm.trans sm2, h2, sm2 _ _ hd⟩ (fun j σ H' _ h => by obtain ⟨_, _, _, _, z1, _⟩ := h; exact ⟨z1, hks _⟩) ?_ ?_
    · rintro j x y t σ H3 hx hy ⟨o3, o4, rfl, sm3, h3, hd3'⟩ ht
      have hjx : j < xs.length := (List.getElem?_eq_some_iff.mp hx).1
      have hjk : j < ks.length := by omega
      have hkj : ks[j]? = some ks[j] := List.getElem?_eq_getElem hjk
      rw [List.getElem?_map, hkj] at hy
      cases hy
      have ht1 : xs.take (j + 1) = xs.take j ++ [x] := by rw [List.take_add_one, hx]; rfl
      have ht2 : ks.take (j + 1) = ks.take j ++ [ks[j]] := by rw [List.take_add_one, hkj]; rfl
      have hpa := pick_app (xs := xs.take j) (ks := ks.take j) x ks[j] (by rw [List.length_take, List.length_take, hd3])
      have hpl := pick_take_len xs ks j hd3
      rw [hd5] at hpl
      have hfl2 := fold_le (pickN (xs.take j) (ks.take j)) acc
      rw [ht1, ht2, hpa]
      have htx := hd4 j x hx
      rw [hkj] at htx
      generalize ks[j] = kj at hpa htx ⊢
      generalize pickN (xs.take j) (ks.take j) = pk at hd3' hpl hfl2 ⊢
      have st := same_new ht (.tup [x, V.str kj])
      have et : upd H3 t (.tup [x, V.str kj]) t = some (.tup [x, V.str kj]) := upd_same
      generalize upd H3 t (.tup [x, V.str kj]) = H4 at st et ⊢
      walk_at "rd1"
      refine ⟨t, _, rfl, SqT.of et, rfl, ?_⟩
      walk_at "rd1"
      refine ite2 (fun c => ?_) (fun c => ?_)
      · subst c
        obtain ⟨z, rfl⟩ := htx rfl
        have hd4' := st _ _ hd3'
        refine ⟨dp, _, .inr z, rfl, rfl, hd4', by unfold kvN; rw [List.length_map]; exact small' (by omega), ?_⟩
        rw [kvN_put]
        refine ⟨_, _, rfl, (sm3.trans st).upd hdp _, sqT_updD (h3.same st) hd4', ?_⟩
        rw [upd_same, List.foldl_append]; rfl
      · have hno : pickN [x] [kj] = [] := by
          cases x <;> simp [pickN, c]
        rw [hno, List.append_nil]
        exact ⟨_, _, rfl, sm3.trans st, h3.same st, st _ _ hd3'⟩
    · rintro σ H3 ⟨o3, o4, rfl, sm3, h3, hd3'⟩
      rw [List.take_length, List.take_of_length_le (by omega), hd5] at hd3'
      exact ⟨_, _, _, rfl, sm3, hd3'⟩
  · rintro σ H' ⟨o2, o3, o4, rfl, sm, hd⟩
    walk_at "nx"
    rw [List.length_map, List.take_of_length_le (by omega)] at hd
    have hac := fold_le (Ps.flatMap hdN) []
    rw [List.length_nil] at hac
    refine ⟨_, hd, by unfold kvN ded; rw [List.length_map]; omega, fun l hl => q l _ (sm.trans (same_new hl _)) (sm.free hl) ?_⟩
    rw [upd_same]
    unfold kvN
    rw [List.map_map]; rfl
/-! ### the steps are gathered -/
def GB (G : Nat → Addr → List Addr → Bool → Prop) : List Addr → Nat → List Addr → Bool → Prop
  | [], _, out, b => out = [] ∧ b = true
  | p :: ps, n, out, b => ∃ o1 b1, G n p o1 b1 ∧ if b1 = true then ∃ o2, GB G ps (n + o1.length) o2 b ∧ out = o1 ++ o2 else out = o1 ∧ b = false
structure StepP (H : Hp) (x : V) (a : Addr) (k : Str) (hs : List V) (bs : List Addr) : Prop where
  ref : x = .ref a
  at' : H a = some (.tup (.str k :: hs ++ bs.map V.ref))
  bl : bs.length = (closT k).length
def GL (G : Nat → Addr → List Addr → Bool → Prop) (H : Hp) (ar : Nat) : List V → Nat → List Addr → Bool → Prop
  | [], _, out, b => out = [] ∧ b = true
  | x :: xs, n, out, b => if ar > 8 ∨ n = 60 ∨ likeV H x = false then out = [] ∧ b = false
    else ∃ a k hs bs, StepP H x a k hs bs ∧ ∃ o1 b1, GB G bs (n + 1) o1 b1 ∧ if b1 = true then ∃ o2, GL G H ar xs (n + 1 + o1.length) o2 b ∧ out = a :: (o1 ++ o2) else out = a :: o1 ∧ b = false
def Gth (S : Addr → Prop) : Nat → Hp → Nat → Nat → Addr → List Addr → Bool → Prop
  | 0 => fun _ _ _ _ _ _ => False
  | d + 1 => fun H ar n p out b => S p ∧ ∃ xs, H p = some (.lst xs) ∧ (∀ x ∈ xs, ThingT H x) ∧ xs.length ≤ 1000 ∧ GL (Gth S d H (ar + 1)) H ar xs n out b
/-- but for one list, and that it stays a list, all is as it was -/
structure FrL (H H' : Hp) (sp : Addr) : Prop where
  keep : ∀ b o, H b = some o → b ≠ sp → H' b = some o
  l0 : ∀ o, H sp = some o → ∃ xs, o = .lst xs
  l1 : ∃ xs, H' sp = some (.lst xs)
theorem FrL.tup {H H' : Hp} {sp : Addr} (f : FrL H H' sp) {b : Addr} {xs : List V} (h : H b = some (.tup xs)) : H' b = some (.tup xs) := f.keep b _ h (fun z => by subst z; obtain ⟨ys, e⟩ := f.l0 _ h; cases e)
theorem FrL.ty {H H' : Hp} {sp : Addr} (f : FrL H H' sp) {x : V} {T : String} (h : tyName H x = some T) : tyName H' x = some T := by
  cases x with
  | ref a =>
    by_cases ha : a = sp
    · subst ha
      obtain ⟨ys, e'⟩ := f.l1
      cases e : H a with
      | none => simp [tyName, e] at h
      | some o =>
        obtain ⟨xs, rfl⟩ := f.l0 _ e
        simp only [tyName, e] at h
        simp only [tyName, e']
        exact h
    · cases e : H a with
      | none => simp [tyName, e] at h
      | some o =>
        have e' := f.keep _ _ e ha
        simp only [tyName, e, e'] at h ⊢
        exact h
  | _ => exact h
theorem FrL.thing {H H' : Hp} {sp : Addr} (f : FrL H H' sp) {x : V} (h : Thing H x) : Thing H' x := ⟨let ⟨T, hT⟩ := h.1; ⟨T, f.ty hT⟩, h.2⟩
theorem FrL.part {H H' : Hp} {sp : Addr} (f : FrL H H' sp) {x : V} {k : Str} (h : Thing H x) : partV H' x k = partV H x k := by
  obtain ⟨T, hT⟩ := h.1
  have := f.ty hT
  unfold partV isL
  rw [hT, this]
theorem FrL.thingT {H H' : Hp} {sp : Addr} (f : FrL H H' sp) {x : V} (h : ThingT H x) : ThingT H' x ∧ likeV H' x = likeV H x := by
  obtain ⟨h1, h2⟩ := h
  cases x with
  | ref a =>
    by_cases ha : a = sp
    · subst ha
      obtain ⟨ys, e'⟩ := f.l1
      have hno : likeV H (.ref a) = false := by
        cases e : H a with
        | none => simp [likeV, e]
        | some o => obtain ⟨xs, rfl⟩ := f.l0 _ e; simp [likeV, e]
      refine ⟨⟨f.thing h1, fun b zs eb hb => ?_⟩, by rw [hno]; simp [likeV, e']⟩
      cases eb
      rw [e'] at hb; cases hb
    · obtain ⟨T, hT⟩ := h1.1
      cases e : H a with
      | none => simp [tyName, e] at hT
      | some o =>
        have e' := f.keep _ _ e ha
        refine ⟨⟨f.thing h1, fun b zs eb hb => ?_⟩, ?_⟩
        · cases eb
          rw [e'] at hb
          cases hb
          obtain ⟨k1, k2⟩ := h2 a zs rfl e
          exact ⟨fun y hy => f.thing (k1 y hy), k2⟩
        · cases o with
          | tup zs =>
            obtain ⟨k1, _⟩ := h2 a zs rfl e
            simp only [likeV, e, e']
            cases zs with
            | nil => rfl
            | cons z0 zr =>
              cases z0 with
              | str k =>
                simp only [likeT]
                cases valK k with
                | none => rfl
                | some ks =>
                  have : allP H' zr ks = allP H zr ks := by
                    unfold allP
                    congr 1
                    apply List.ext_getElem?
                    intro i
                    rw [List.getElem?_zipWith, List.getElem?_zipWith]
                    cases hz : zr[i]? with
                    | none => rfl
                    | some z =>
                      cases ks[i]? with
                      | none => rfl
                      | some kk => simp only [f.part (k1 z (List.mem_cons_of_mem _ (List.mem_of_getElem? hz)))]
                  simp only [this]
              | _ => rfl
          | _ => simp [likeV, e, e']
  | _ => exact ⟨⟨f.thing h1, fun a xs e => by cases e⟩, rfl⟩
theorem GB.imp {G G' : Nat → Addr → List Addr → Bool → Prop} (h : ∀ n p o b, G n p o b → G' n p o b) : ∀ {bs : List Addr} {n : Nat} {out : List Addr} {b : Bool}, GB G bs n out b → GB G' bs n out b
  | [], _, _, _, z => z
  | p :: ps, n, out, b, ⟨o1, b1, z1, z2⟩ => by
    refine ⟨o1, b1, h _ _ _ _ z1, ?_⟩
    split at z2
    · rename_i hb
      rw [if_pos hb]
      obtain ⟨o2, y1, y2⟩ := z2
      exact ⟨o2, GB.imp h y1, y2⟩
    · rename_i hb
      rw [if_neg hb]; exact z2
theorem GL.imp {G G' : Nat → Addr → List Addr → Bool → Prop} {H H' : Hp} {sp : Addr} {ar : Nat} (h : ∀ n p o b, G n p o b → G' n p o b) (f : FrL H H' sp) : ∀ {xs : List V} {n : Nat} {out : List Addr} {b : Bool}, (∀ x ∈ xs, ThingT H x) → GL G H ar xs n out b → GL G' H' ar xs n out b
  | [], _, _, _, _, z => z
  | x :: xs, n, out, b, hx, z => by
    have hl := (f.thingT (hx x List.mem_cons_self)).2
    unfold GL at z ⊢
    rw [hl]
    split at z
    · rename_i hc
      rw [if_pos hc]; exact z
    · rename_i hc
      rw [if_neg hc]
      obtain ⟨a, k, hs, bs, st, o1, b1, z1, z2⟩ := z
      refine ⟨a, k, hs, bs, ⟨st.ref, f.tup st.at', st.bl⟩, o1, b1, z1.imp h, ?_⟩
      split at z2
      · rename_i hb
        rw [if_pos hb]
        obtain ⟨o2, y1, y2⟩ := z2
        exact ⟨o2, GL.imp h f (fun x hx' => hx x (List.mem_cons_of_mem _ hx')) y1, y2⟩
      · rename_i hb
        rw [if_neg hb]; exact z2
theorem Gth.imp {S : Addr → Prop} {H H' : Hp} {sp : Addr} (f : FrL H H' sp) (hS : ¬ S sp) : ∀ (d : Nat) {ar n : Nat} {p : Addr} {out : List Addr} {b : Bool}, Gth S d H ar n p out b → Gth S d H' ar n p out b
  | 0, _, _, _, _, _, h => h.elim
  | d + 1, ar, n, p, out, b, ⟨h0, xs, h1, h2, h3, h4⟩ => ⟨h0, xs, f.keep _ _ h1 (fun z => hS (z ▸ h0)), fun x hx => (f.thingT (h2 x hx)).1, h3, h4.imp (fun n p o b z => Gth.imp f hS d z) f h2⟩
theorem GB.le {G : Nat → Addr → List Addr → Bool → Prop} (h : ∀ n p o b, n ≤ 60 → G n p o b → n + o.length ≤ 60) : ∀ {bs : List Addr} {n : Nat} {out : List Addr} {b : Bool}, n ≤ 60 → GB G bs n out b → n + out.length ≤ 60
  | [], n, _, _, hn, z => by rw [z.1]; exact hn
  | p :: ps, n, out, b, hn, ⟨o1, b1, z1, z2⟩ => by
    have h1 := h _ _ _ _ hn z1
    split at z2
    · obtain ⟨o2, y1, y2⟩ := z2
      have := GB.le h h1 y1
      rw [y2, List.length_append]; omega
    · rw [z2.1]; exact h1
theorem GL.le {G : Nat → Addr → List Addr → Bool → Prop} {H : Hp} {ar : Nat} (h : ∀ n p o b, n ≤ 60 → G n p o b → n + o.length ≤ 60) : ∀ {xs : List V} {n : Nat} {out : List Addr} {b : Bool}, n ≤ 60 → GL G H ar xs n out b → n + out.length ≤ 60
  | [], n, _, _, hn, z => by rw [z.1]; exact hn
  | x :: xs, n, out, b, hn, z => by
    unfold GL at z
    split at z
    · rw [z.1]; exact hn
    · rename_i hc
      obtain ⟨a, k, hs, bs, st, o1, b1, z1, z2⟩ := z
      have hn1 : n + 1 ≤ 60 := by
        have : ¬ n = 60 := fun e => hc (.inr (.inl e))
        omega
      have h1 := GB.le h hn1 z1
      split at z2
      · obtain ⟨o2, y1, y2⟩ := z2
        have := GL.le h h1 y1
        rw [y2, List.length_cons, List.length_append]; omega
      · rw [z2.1, List.length_cons]; omega
theorem Gth.le {S : Addr → Prop} {H : Hp} : ∀ (d : Nat) {ar n : Nat} {p : Addr} {out : List Addr} {b : Bool}, n ≤ 60 → Gth S d H ar n p out b → n + out.length ≤ 60
  | 0, _, _, _, _, _, _, h => h.elim
  | d + 1, ar, n, p, out, b, hn, ⟨h0, xs, h1, h2, h3, h4⟩ => h4.le (fun n p o b hn z => Gth.le d hn z) hn
def spGather (d : Nat) : Sp := fun vs H Q _ => ∃ (p sp : Addr) (ar n : Nat) (cur out : List Addr) (b : Bool) (S : Addr → Prop), vs = [.ref p, .int (ar : Int), .ref sp] ∧ Gth S d H ar n p out b ∧ ¬ S sp ∧ H sp = some (.lst (cur.map V.ref)) ∧ cur.length = n ∧ n ≤ 60 ∧
  ∀ H', FrL H H' sp → H' sp = some (.lst ((cur ++ out).map V.ref)) → Q (.bl b) H'
theorem FrL.same {H H' : Hp} {sp : Addr} (f : FrL H H' sp) {H2 : Hp} (sm : Same H' H2) : FrL H H2 sp := ⟨fun b o e n => sm _ _ (f.keep b o e n), f.l0, let ⟨xs, e⟩ := f.l1; ⟨xs, sm _ _ e⟩⟩
theorem FrL.upd {H H' : Hp} {sp : Addr} (f : FrL H H' sp) (ys : List V) : FrL H (upd H' sp (.lst ys)) sp := ⟨fun b o e n => by rw [upd_ne n]; exact f.keep b o e n, f.l0, ⟨ys, upd_same⟩⟩
theorem FrL.trans {H H' H2 : Hp} {sp : Addr} (f : FrL H H' sp) (g : FrL H' H2 sp) : FrL H H2 sp := ⟨fun b o e n => g.keep b o (f.keep b o e n) n, f.l0, g.l1⟩
theorem ok_gathers (D : DefAt K mg "gathers_steps" s_gathers_steps) (z_len : mg "len" = none) (g_MOST_AROUND : ∃ t, mg "MOST_AROUND" = some (.int 8 t)) (g_MOST_LINES : ∃ t, mg "MOST_LINES" = some (.int 60 t)) (c_is_like_step : Cal P w K mg base 4 "is_like_step" ["thing"] spLike) (c_blocks_of : Cal P w K mg base 3 "blocks_of" ["step"] (spBlocks K)) :
    ∀ d : Nat, Cal P w K mg base (d + 5) "gathers_steps" ["things", "around", "steps"] (spGather d)
  | 0 => D.cal (k := 4) sc_gathers_steps (fun _ _ _ _ _ _ us hl => match us, hl with | [_, _, _], _ => rfl) (fun vs H Q E h => by obtain ⟨_, _, _, _, _, _, _, _, rfl, _⟩ := h; rfl) (fun f cdv A outer s H vs Q E hr h => by obtain ⟨_, _, _, _, _, _, _, _, rfl, z, _⟩ := h; exact z.elim)
  | d + 1 => by
    have c_gathers_steps := ok_gathers D z_len g_MOST_AROUND g_MOST_LINES c_is_like_step c_blocks_of d
    refine D.cal (k := d + 5) sc_gathers_steps (fun _ _ _ _ _ _ us hl => match us, hl with | [_, _, _], _ => rfl) (fun vs H Q E h => by obtain ⟨_, _, _, _, _, _, _, _, rfl, _⟩ := h; rfl) (fun f cdv A outer s H vs Q E hr h => ?_)
    obtain ⟨p, sp, ar, n, cur, out, b, S, rfl, ⟨hSp, xs, h1, h2, h3, hg⟩, hS, hsp, hn, h60, q⟩ := h
    have hps : p ≠ sp := fun z => hS (z ▸ hSp)
    refine ⟨_, (pss_cons (ps_for PassesOwn.never rfl (pi_listK K (pv 0 (hv := v_gathers_steps_things))) (pg_let 3 sc_gathers_steps.nd (hx := l_gathers_steps_thing)) (pss_cons (ps_if (PW.pt' (pw_or (pt_cmpR op_gt (pv 1 (hv := v_gathers_steps_around)) (pe_gint g_MOST_AROUND (hg := gl_gathers_steps_MOST_AROUND)) (nomark _)) (pw_or (pt_cmpR op_eqA (pe_blt (call_lenK K) z_len bt_len (pa_cons (pv 2 (hv := v_gathers_steps_steps)) pa_nil) (hg := gl_gathers_steps_len)) (pe_gint g_MOST_LINES (hg := gl_gathers_steps_MOST_LINES)) (nomark _)) (pw_or1 (pt_not (pt_val (pe_cal c_is_like_step hr (pa_cons (pv 3 (hv := v_gathers_steps_thing)) pa_nil) (hg := gl_gathers_steps_is_like_step) (hle := by omega)))))))) (pss_one (ps_ret pe_bl)) pss_nil)
      (pss_cons (ps_expr (pe_bmK K PySem.F.plainAttrs_list PySem.F.slot_list_append PySem.F.type_list_append mt_appendA (pv 2 (hv := v_gathers_steps_steps)) (pa_cons (pv 3 (hv := v_gathers_steps_thing)) pa_nil)))
      (pss_one (ps_for PassesOwn.never rfl (pi_tupK K (pe_cal c_blocks_of hr (pa_cons (pv 3 (hv := v_gathers_steps_thing)) pa_nil) (hg := gl_gathers_steps_blocks_of) (hle := by omega))) (pg_let 4 sc_gathers_steps.nd (hx := l_gathers_steps_block)) (pss_one (ps_if (pt_not (pt_val (pe_cal c_gathers_steps hr (pa_cons (pv 4 (hv := v_gathers_steps_block)) (pa_cons (pe_op op_addA (pv 1 (hv := v_gathers_steps_around)) pe_int) (pa_cons (pv 2 (hv := v_gathers_steps_steps)) pa_nil))) (hg := gl_gathers_steps_gathers_steps) (hle := by omega)))) (pss_one (ps_ret pe_bl)) pss_nil)))))))
      (pss_one (ps_ret pe_bl))), ?_⟩
    walk_at "rd1"
    refine ⟨⟨_, SqL.of h1⟩, ?_⟩
    refine forW_list (xs := xs) (fun i σ H' => ∃ (oi ori : List Addr) (o3 o4 : Option V), σ = [some (.ref p), some (.int (ar : Int)), some (.ref sp), o3, o4] ∧ FrL H H' sp ∧ H' sp = some (.lst ((cur ++ oi).map V.ref)) ∧ n + oi.length ≤ 60 ∧ GL (Gth S d H (ar + 1)) H ar (xs.drop i) (n + oi.length) ori b ∧ out = oi ++ ori)
      ⟨[], out, none, none, rfl, ⟨fun b o e _ => e, fun o e => ⟨_, Option.some.inj (e.symm.trans hsp)⟩, ⟨_, hsp⟩⟩, by rw [List.append_nil]; exact hsp, h60, hg, rfl⟩ (fun i σ H' _ h => by obtain ⟨_, _, _, _, _, f, _⟩ := h; exact SqL.of (f.keep _ _ h1 hps)) ?_ ?_
    · rintro i x σ H' hx ⟨oi, ori, o3, o4, rfl, fr, hsp', hoi, hgl, rfl⟩
      have hdr : xs.drop i = x :: xs.drop (i + 1) := by
        have hi : i < xs.length := (List.getElem?_eq_some_iff.mp hx).1
        rw [List.getElem?_eq_getElem hi] at hx
        cases hx
        exact List.drop_eq_getElem_cons hi
      rw [hdr] at hgl
      have hxm := List.mem_of_getElem? hx
      obtain ⟨hth, hlk⟩ := fr.thingT (h2 x hxm)
      have hlen : (cur ++ oi).length = n + oi.length := by rw [List.length_append, hn]
      unfold GL at hgl
      walk_at "rd1"
      have stop : (ar > 8 ∨ n + oi.length = 60 ∨ likeV H x = false) → ∀ {H2 : Hp}, FrL H H2 sp → H2 sp = some (.lst ((cur ++ oi).map V.ref)) → Q (.bl false) H2 := fun hc {H2} f2 e2 => by
        rw [if_pos hc] at hgl
        obtain ⟨rfl, rfl⟩ := hgl
        rw [List.append_nil] at q
        exact q H2 f2 e2
      refine ite2 (fun c => stop (.inl (by omega)) fr hsp') (fun c => ?_)
      refine ⟨_, .inl (SqL.of hsp'), ite2 (fun c2 => stop (.inr (.inl (by rw [List.length_map, hlen] at c2; omega))) fr hsp') (fun c2 => ?_)⟩
      have hne : ¬ n + oi.length = 60 := fun z => c2 (by rw [List.length_map, hlen]; omega)
      refine ⟨x, rfl, hth, fun H2 sm2 => ?_⟩
      rw [hlk]
      cases hlv : likeV H x with
      | false =>
        refine ⟨false, rfl, ?_⟩
        rw [if_pos (by decide)]
        exact stop (.inr (.inr hlv)) (fr.same sm2) (sm2 _ _ hsp')
      | true =>
        refine ⟨true, rfl, ?_⟩
        rw [if_neg (by decide)]
        rw [if_neg (by rintro (z | z | z); · omega
                       · exact hne z
                       · rw [hlv] at z; cases z)] at hgl
        obtain ⟨a, k, hs, bs, st, o1, b1, z1, z2⟩ := hgl
        obtain ⟨rfl, sat, sbl⟩ := st
        have fr2 := fr.same sm2
        have e2 := sm2 _ _ hsp'
        walk_at "nx"
        refine ⟨⟨_, SqL.of e2⟩, _, e2, by rw [List.length_map, hlen]; exact small' (by omega), ?_⟩
        have fr3 := fr2.upd ((cur ++ oi).map V.ref ++ [.ref a])
        have e3 : upd H2 sp (.lst ((cur ++ oi).map V.ref ++ [.ref a])) sp = some (.lst ((cur ++ (oi ++ [a])).map V.ref)) := by rw [upd_same, ← List.append_assoc, List.map_append (l₁ := cur ++ oi)]; rfl
        generalize upd H2 sp (.lst ((cur ++ oi).map V.ref ++ [.ref a])) = H3 at fr3 e3 ⊢
        have hat : SqT K H3 a (.str k :: (hs ++ bs.map V.ref)) := SqT.of (fr3.tup sat)
        have hcl : (closT k).length ≤ (hs ++ bs.map V.ref).length + 1 := by rw [List.length_append, List.length_map, sbl]; omega
        have hcut : (hs ++ bs.map V.ref).length + 1 - (closT k).length = hs.length + 1 := by rw [List.length_append, List.length_map, sbl]; omega
        walk_at "nx"
        refine ⟨a, k, hs ++ bs.map V.ref, rfl, hat, hcl, fun bp H4 sm4 hbp => ?_⟩
        rw [hcut] at hbp
        have edr : (V.str k :: (hs ++ bs.map V.ref)).drop (hs.length + 1) = bs.map V.ref := by rw [List.drop_succ_cons, List.drop_left']; rfl
        rw [edr] at hbp
        walk_at "rd1"
        refine ⟨⟨_, hbp⟩, ?_⟩
        refine forW_tup (xs := bs.map V.ref) (fun j σ H' => ∃ (oj orj : List Addr) (o4 : Option V), σ = [some (.ref p), some (.int (ar : Int)), some (.ref sp), some (.ref a), o4] ∧ FrL H H' sp ∧ SqT K H' bp (bs.map V.ref) ∧ H' sp = some (.lst ((cur ++ (oi ++ (a :: oj))).map V.ref)) ∧ n + oi.length + 1 + oj.length ≤ 60 ∧ GB (Gth S d H (ar + 1)) (bs.drop j) (n + oi.length + 1 + oj.length) orj b1 ∧ o1 = oj ++ orj)
          ⟨[], o1, o4, rfl, fr3.same sm4, hbp, sm4 _ _ e3, by show n + oi.length + 1 + 0 ≤ 60; omega, z1, rfl⟩ (fun j σ H' _ h => by obtain ⟨_, _, _, _, _, z, _⟩ := h; exact z) ?_ ?_
        · rintro j v σ H5 hv ⟨oj, orj, o4, rfl, fr5, hb5, e5, hoj, hgb, rfl⟩
          have hj : j < bs.length := by have := (List.getElem?_eq_some_iff.mp hv).1; simpa using this
          rw [List.getElem?_map, List.getElem?_eq_getElem hj] at hv
          cases hv
          rw [List.drop_eq_getElem_cons hj] at hgb
          obtain ⟨oo, bb, y1, y2⟩ := hgb
          have hle := Gth.le d hoj y1
          have hlen5 : (cur ++ (oi ++ (a :: oj))).length = n + oi.length + 1 + oj.length := by rw [List.length_append, List.length_append, List.length_cons, hn]; omega
          walk_at "rd1"
          refine ⟨bs[j], sp, ar + 1, n + oi.length + 1 + oj.length, cur ++ (oi ++ (a :: oj)), oo, bb, S, by simp, Gth.imp fr5 hS d y1, hS, e5, hlen5, hoj, fun H6 fr6 e6 => ?_⟩
          have fr56 := fr5.trans fr6
          have e6' : H6 sp = some (.lst ((cur ++ (oi ++ (a :: (oj ++ oo)))).map V.ref)) := by rw [e6]; simp [List.append_assoc]
          cases bb with
          | false =>
            rw [if_neg Bool.false_ne_true] at y2
            obtain ⟨rfl, rfl⟩ := y2
            rw [if_neg Bool.false_ne_true] at z2
            obtain ⟨rfl, rfl⟩ := z2
            walk_at "rd1"
            exact q H6 fr56 e6'
          | true =>
            rw [if_pos rfl] at y2
            obtain ⟨o2, y3, rfl⟩ := y2
            walk_at "rd1"
            have hb6 : SqT K H6 bp (bs.map V.ref) := by
              rcases hb5 with (h | ⟨o', h⟩) | h
              · exact .inl (.inl (fr6.tup h))
              · refine .inl (.inr ⟨o', fr6.keep _ _ h ?_⟩)
                exact ne_of h e5 (fun z => nomatch z)
              · exact .inr h
            refine ⟨oj ++ oo, o2, _, rfl, fr56, hb6, e6', by rw [List.length_append]; omega, ?_, by rw [List.append_assoc]⟩
            rw [List.length_append, show n + oi.length + 1 + (oj.length + oo.length) = n + oi.length + 1 + oj.length + oo.length by omega]
            exact y3
        · rintro σ H5 ⟨oj, orj, o4, rfl, fr5, hb5, e5, hoj, hgb, rfl⟩
          rw [List.length_map, List.drop_length] at hgb
          obtain ⟨rfl, rfl⟩ := hgb
          rw [List.append_nil] at z2
          rw [if_pos rfl] at z2
          obtain ⟨o2, y1, rfl⟩ := z2
          refine ⟨oi ++ (a :: oj), o2, _, _, rfl, fr5, e5, by rw [List.length_append, List.length_cons]; omega, ?_, by simp [List.append_assoc]⟩
          rw [List.length_append, List.length_cons, show n + (oi.length + (oj.length + 1)) = n + oi.length + 1 + oj.length by omega]
          exact y1
    · rintro σ H' ⟨oi, ori, o3, o4, rfl, fr, hsp', hoi, hgl, rfl⟩
      walk_at "nx"
      rw [List.drop_length] at hgl
      obtain ⟨rfl, rfl⟩ := hgl
      rw [List.append_nil] at q
      exact q H' fr hsp'
def kindOf : Stp → Str
  | .plain ws => ws.headD ""
  | .lend _ _ _ => "lend"
  | .ite _ _ _ => "if"
  | .whl _ _ => "while"
theorem head_kind {H : Hp} {a : Addr} {g : List Stp → Prop} : ∀ {s : Stp}, headAt H a s → okNS g s → ∃ xs, H a = some (.tup (.str (kindOf s) :: xs))
  | .plain ws, h, ok => by cases ok <;> exact ⟨_, h⟩
  | .lend _ _ _, ⟨_, h, _⟩, _ => ⟨_, h⟩
  | .ite _ _ _, ⟨_, _, h, _⟩, _ => ⟨_, h⟩
  | .whl _ _, ⟨_, h, _⟩, _ => ⟨_, h⟩
def linesN (Ps : List Stp) : Int := (Ps.map fun s => 1 + ((closT (kindOf s)).length : Int)).sum
def answer (Ps : List Stp) : Bool := decide (linesN Ps ≤ 60) && decide ((Ps.map kindOf).countP (· == ("lend" : Str)) ≤ 3) && decide ((ded (Ps.flatMap hdN)).length ≤ 4)
def spIsProg : Sp := fun vs H Q _ => ∃ (p : Addr) (S : Addr → Prop) (out : List Addr) (b : Bool) (Ps : List Stp) (g : List Stp → Prop), vs = [.ref p] ∧ Gth S 10 H 0 0 p out b ∧ (∀ x, S x → ∃ o, H x = some o) ∧
  (b = true → Paired (headAt H) out Ps ∧ (∀ s ∈ Ps, okNS g s) ∧ (Ps.flatMap hdN).length ≤ 5000) ∧ ∀ H', Same H H' → Q (.bl (b && answer Ps)) H'
/-- is it a program, of anything: what is no list is none -/
def spIsProgA : Sp := fun vs H Q E => spIsProg vs H Q E ∨ ∃ (x : V) (T : String), vs = [x] ∧ tyName H x = some T ∧ isT T "list" = false ∧ ∀ H', Same H H' → Q (.bl false) H'
theorem tyName_mono {H H' : Hp} (sm : Same H H') {x : V} {T : String} (h : tyName H x = some T) : tyName H' x = some T := by
  cases x with
  | ref a =>
    simp only [tyName] at h ⊢
    cases e : H a with
    | none => rw [e] at h; cases h
    | some o => rw [e] at h; rw [sm _ _ e]; exact h
  | _ => exact h
theorem ok_isprog (D : DefAt K mg "is_program" s_is_program) (z_isinstance : mg "isinstance" = none) (z_list : mg "list" = none) (z_sum : mg "sum" = none) (z_len : mg "len" = none) (g_MOST_LINES : ∃ t, mg "MOST_LINES" = some (.int 60 t)) (g_MOST_LENDS : ∃ t, mg "MOST_LENDS" = some (.int 3 t)) (g_MOST_NAMES : ∃ t, mg "MOST_NAMES" = some (.int 4 t))
    (c_gathers_steps : Cal P w K mg base 15 "gathers_steps" ["things", "around", "steps"] (spGather 10)) (c_closers_of : Cal P w K mg base 1 "closers_of" ["kind"] (spClosers K)) (c_names_in : Cal P w K mg base 1 "names_in" ["steps"] spNamesIn) : Cal P w K mg base 16 "is_program" ["thing"] spIsProgA := by
  refine D.cal sc_is_program (fun _ _ _ _ _ _ us hl => match us, hl with | [_], _ => rfl) (fun vs H Q E h => by rcases h with ⟨_, _, _, _, _, _, rfl, _⟩ | ⟨_, _, rfl, _⟩ <;> rfl) (fun f cdv A outer s H vs Q E hr h => ?_)
  rcases h with h | ⟨x, T, rfl, hT, hnl, q⟩
  rotate_left
  · refine ⟨_, (pss_cons (ps_let 1 sc_is_program.nd (pe_lst pa_nil) (hx := l_is_program_steps))
      (pss_cons (ps_if (PW.pt' (pw_or (pt_not (pt_val (pe_blt call_isT z_isinstance bt_isinstance (pa_cons (pv 0 (hv := v_is_program_thing)) (pa_cons (pe_gty z_list bt_list (hg := gl_is_program_list)) pa_nil)) (hg := gl_is_program_isinstance)))) (pw_or1 (pt_not (pt_val (pe_cal c_gathers_steps hr (pa_cons (pv 0 (hv := v_is_program_thing)) (pa_cons pe_int (pa_cons (pv 1 (hv := v_is_program_steps)) pa_nil))) (hg := gl_is_program_gathers_steps))))))) (pss_one (ps_ret pe_bl)) pss_nil)
      (pss_cons (ps_setcomp (CompSc.to (fsc := (defScope s_is_program)) (N := ["thing", "steps", "kinds", "lines"]) (N0 := ["thing", "steps", "kinds", "lines"]) (T := ["step"]) ⟨by decide +kernel, by decide +kernel, by decide +kernel, by decide +kernel, by decide +kernel, by decide +kernel, by decide +kernel⟩ rfl rfl) rfl sc_is_program.nd (i := 2) rfl k_is_program_kinds (pi_listK K (pv 1 (hv := v_is_program_steps))) (fun _ _ _ _ => (pg_let 4 (show (["thing", "steps", "kinds", "lines", "step"] : List Str).Nodup from by decide +kernel) (hx := (locC (defScope s_is_program) (by decide +kernel))) (hf := fnC (defScope s_is_program) (by decide +kernel)))) (gfr_name (show (["thing", "steps", "kinds", "lines"] : List Str).length ≤ 4 from by decide)) (fun _ _ _ _ => pifs_nil) (fun _ _ _ _ => (pe_ix (ix_K K) (pv 4 (hv := (visC (defScope s_is_program) (by decide +kernel)))) pe_int (fun _ _ => rfl))))
      (pss_cons (ps_let 3 sc_is_program.nd (pe_blt (call_sumL K) z_sum bt_sum (pa_cons (pe_comp (CompSc.to (fsc := (defScope s_is_program)) (N := ["thing", "steps", "kinds", "lines"]) (N0 := ["thing", "steps", "kinds", "lines"]) (T := ["kind"]) ⟨by decide +kernel, by decide +kernel, by decide +kernel, by decide +kernel, by decide +kernel, by decide +kernel, by decide +kernel⟩ rfl rfl) rfl (pi_listK K (pv 2 (hv := v_is_program_kinds))) (fun _ _ _ _ => (pg_let 4 (show (["thing", "steps", "kinds", "lines", "kind"] : List Str).Nodup from by decide +kernel) (hx := (locC (defScope s_is_program) (by decide +kernel))) (hf := fnC (defScope s_is_program) (by decide +kernel)))) (gfr_name (show (["thing", "steps", "kinds", "lines"] : List Str).length ≤ 4 from by decide)) (fun _ _ _ _ => pifs_nil) (fun _ _ _ _ => (pe_op op_addA pe_int (pe_blt (call_lenK K) z_len bt_len (pa_cons (pe_cal c_closers_of hr (pa_cons (pv 4 (hv := (visC (defScope s_is_program) (by decide +kernel)))) pa_nil) (hg := (glC (defScope s_is_program) (by decide +kernel)))) pa_nil) (hg := (glC (defScope s_is_program) (by decide +kernel))))))) pa_nil) (hg := gl_is_program_sum)) (hx := l_is_program_lines))
      (pss_one (ps_ret (pe_and (pe_cmpR op_le (pv 3 (hv := v_is_program_lines)) (pe_gint g_MOST_LINES (hg := gl_is_program_MOST_LINES)) (nomark _)) (pe_and (pe_cmpR op_le (pe_bmK K PySem.F.plainAttrs_list PySem.F.slot_list_count PySem.F.type_list_count (mt_countS K) (pv 2 (hv := v_is_program_kinds)) (pa_cons pe_str pa_nil)) (pe_gint g_MOST_LENDS (hg := gl_is_program_MOST_LENDS)) (nomark _)) (pe_one (pe_cmpR op_le (pe_blt (call_lenK K) z_len bt_len (pa_cons (pe_cal c_names_in hr (pa_cons (pv 1 (hv := v_is_program_steps)) pa_nil) (hg := gl_is_program_names_in)) pa_nil) (hg := gl_is_program_len)) (pe_gint g_MOST_NAMES (hg := gl_is_program_MOST_NAMES)) (nomark _))))))))))), ?_⟩
    walk_at "rd1"
    refine ⟨by decide, fun sp hsp => ?_⟩
    have sm1 := same_new hsp (.lst [])
    generalize upd H sp (.lst []) = H1 at sm1 ⊢
    walk_at "nx"
    refine ⟨T, tyName_mono sm1 hT, by decide, ?_⟩
    rw [hnl]
    exact ite2 (fun _ => q H1 sm1) (fun c => absurd (by decide) c)
  obtain ⟨p, S, out, b, Ps, g, rfl, hg, hSin, hb, q⟩ := h
  obtain ⟨hSp, xs, hp, _⟩ := id hg
  refine ⟨_, (pss_cons (ps_let 1 sc_is_program.nd (pe_lst pa_nil) (hx := l_is_program_steps))
      (pss_cons (ps_if (PW.pt' (pw_or (pt_not (pt_val (pe_blt call_isT z_isinstance bt_isinstance (pa_cons (pv 0 (hv := v_is_program_thing)) (pa_cons (pe_gty z_list bt_list (hg := gl_is_program_list)) pa_nil)) (hg := gl_is_program_isinstance)))) (pw_or1 (pt_not (pt_val (pe_cal c_gathers_steps hr (pa_cons (pv 0 (hv := v_is_program_thing)) (pa_cons pe_int (pa_cons (pv 1 (hv := v_is_program_steps)) pa_nil))) (hg := gl_is_program_gathers_steps))))))) (pss_one (ps_ret pe_bl)) pss_nil)
      (pss_cons (ps_setcomp (CompSc.to (fsc := (defScope s_is_program)) (N := ["thing", "steps", "kinds", "lines"]) (N0 := ["thing", "steps", "kinds", "lines"]) (T := ["step"]) ⟨by decide +kernel, by decide +kernel, by decide +kernel, by decide +kernel, by decide +kernel, by decide +kernel, by decide +kernel⟩ rfl rfl) rfl sc_is_program.nd (i := 2) rfl k_is_program_kinds (pi_listK K (pv 1 (hv := v_is_program_steps))) (fun _ _ _ _ => (pg_let 4 (show (["thing", "steps", "kinds", "lines", "step"] : List Str).Nodup from by decide +kernel) (hx := (locC (defScope s_is_program) (by decide +kernel))) (hf := fnC (defScope s_is_program) (by decide +kernel)))) (gfr_name (show (["thing", "steps", "kinds", "lines"] : List Str).length ≤ 4 from by decide)) (fun _ _ _ _ => pifs_nil) (fun _ _ _ _ => (pe_ix (ix_K K) (pv 4 (hv := (visC (defScope s_is_program) (by decide +kernel)))) pe_int (fun _ _ => rfl))))
      (pss_cons (ps_let 3 sc_is_program.nd (pe_blt (call_sumL K) z_sum bt_sum (pa_cons (pe_comp (CompSc.to (fsc := (defScope s_is_program)) (N := ["thing", "steps", "kinds", "lines"]) (N0 := ["thing", "steps", "kinds", "lines"]) (T := ["kind"]) ⟨by decide +kernel, by decide +kernel, by decide +kernel, by decide +kernel, by decide +kernel, by decide +kernel, by decide +kernel⟩ rfl rfl) rfl (pi_listK K (pv 2 (hv := v_is_program_kinds))) (fun _ _ _ _ => (pg_let 4 (show (["thing", "steps", "kinds", "lines", "kind"] : List Str).Nodup from by decide +kernel) (hx := (locC (defScope s_is_program) (by decide +kernel))) (hf := fnC (defScope s_is_program) (by decide +kernel)))) (gfr_name (show (["thing", "steps", "kinds", "lines"] : List Str).length ≤ 4 from by decide)) (fun _ _ _ _ => pifs_nil) (fun _ _ _ _ => (pe_op op_addA pe_int (pe_blt (call_lenK K) z_len bt_len (pa_cons (pe_cal c_closers_of hr (pa_cons (pv 4 (hv := (visC (defScope s_is_program) (by decide +kernel)))) pa_nil) (hg := (glC (defScope s_is_program) (by decide +kernel)))) pa_nil) (hg := (glC (defScope s_is_program) (by decide +kernel))))))) pa_nil) (hg := gl_is_program_sum)) (hx := l_is_program_lines))
      (pss_one (ps_ret (pe_and (pe_cmpR op_le (pv 3 (hv := v_is_program_lines)) (pe_gint g_MOST_LINES (hg := gl_is_program_MOST_LINES)) (nomark _)) (pe_and (pe_cmpR op_le (pe_bmK K PySem.F.plainAttrs_list PySem.F.slot_list_count PySem.F.type_list_count (mt_countS K) (pv 2 (hv := v_is_program_kinds)) (pa_cons pe_str pa_nil)) (pe_gint g_MOST_LENDS (hg := gl_is_program_MOST_LENDS)) (nomark _)) (pe_one (pe_cmpR op_le (pe_blt (call_lenK K) z_len bt_len (pa_cons (pe_cal c_names_in hr (pa_cons (pv 1 (hv := v_is_program_steps)) pa_nil) (hg := gl_is_program_names_in)) pa_nil) (hg := gl_is_program_len)) (pe_gint g_MOST_NAMES (hg := gl_is_program_MOST_NAMES)) (nomark _))))))))))), ?_⟩
  walk_at "rd1"
  refine ⟨by decide, fun sp hsp => ?_⟩
  have sm1 := same_new hsp (.lst [])
  have e1 : upd H sp (.lst []) sp = some (.lst []) := upd_same
  generalize upd H sp (.lst []) = H1 at sm1 e1 ⊢
  have hSsp : ¬ S sp := fun z => by obtain ⟨o, e⟩ := hSin sp z; rw [hsp] at e; cases e
  have hp1 := sm1 _ _ hp
  walk_at "nx"
  refine ⟨"list", by simp [tyName, hp1], by decide, ?_⟩
  refine ite2 (fun c => absurd c (by decide)) (fun _ => ?_)
  have f1 : FrL H H1 sp := ⟨fun b o e _ => sm1 _ _ e, (fun o e => by rw [hsp] at e; cases e), ⟨_, e1⟩⟩
  refine ⟨p, sp, 0, 0, [], out, b, S, rfl, Gth.imp f1 hSsp 10 hg, hSsp, e1, rfl, by decide, fun H2 f2 e2 => ?_⟩
  have f12 := f1.trans f2
  have sm2 : Same H H2 := fun x o e => f12.keep x o e (fun z => by subst z; rw [hsp] at e; cases e)
  have hle := Gth.le 10 (by decide) hg
  rw [List.nil_append] at e2
  cases b with
  | false =>
    refine ⟨false, rfl, ?_⟩
    rw [if_pos (by decide)]
    exact q H2 sm2
  | true =>
    obtain ⟨hp1, hok, hfm⟩ := hb rfl
    have hlen := paired_len hp1
    refine ⟨true, rfl, ?_⟩
    rw [if_neg (by decide)]
    rw [Bool.true_and] at q
    walk_at "nx"
    refine ⟨⟨_, SqL.of e2⟩, fun C hC => ?_⟩
    refine compW_list (xs := out.map V.ref) (fun i ys H' => Same H2 H' ∧ H' C = some (.lst ys) ∧ ys = ((Ps.map kindOf).take i).map V.str) ⟨same_new hC _, upd_same, rfl⟩ (fun i ys H' _ h => SqL.of (h.1 _ _ e2)) ?_ ?_
    · rintro i ys H' v hv hi ⟨sm, hl, rfl⟩
      rw [List.length_map] at hi
      rw [List.getElem?_map, List.getElem?_eq_getElem hi] at hv
      cases hv
      obtain ⟨s, hs, hh⟩ := paired_at hp1 (List.getElem?_eq_getElem hi)
      obtain ⟨zs, hz⟩ := head_kind hh (hok s (List.mem_of_getElem? hs))
      walk_at "rd1"
      refine ⟨_, _, .inr (SqT.of (sm _ _ (sm2 _ _ hz))), at0, ?_⟩
      refine cstep (by rw [List.length_map]; exact hi) (by rw [List.length_map, List.length_take, List.length_map]; omega) (by rw [List.length_map]; exact smallL (by omega)) hl ⟨sm.upd hC _, upd_same, ?_⟩
      rw [List.take_add_one, List.getElem?_map, hs, List.map_append]; rfl
    rintro ys H3 ⟨sm3, hl3, rfl⟩
    have hl3' : H3 C = some (.lst ((Ps.map kindOf).map V.str)) := by rw [hl3, List.take_of_length_le (by rw [List.length_map, List.length_map]; omega)]
    have sm23 := sm2.trans sm3
    walk_at "nx"
    refine ⟨⟨_, SqL.of hl3'⟩, fun C4 hC4 => ?_⟩
    refine compW_list (xs := (Ps.map kindOf).map V.str) (fun i ys H' => Same H3 H' ∧ H' C4 = some (.lst ys) ∧ ys = ((Ps.map fun s => 1 + ((closT (kindOf s)).length : Int)).take i).map V.int) ⟨same_new hC4 _, upd_same, rfl⟩ (fun i ys H' _ h => SqL.of (h.1 _ _ hl3')) ?_ ?_
    · rintro i ys H' v hv hi ⟨sm, hl, rfl⟩
      rw [List.length_map, List.length_map] at hi
      rw [List.getElem?_map, List.getElem?_map, List.getElem?_eq_getElem hi] at hv
      cases hv
      walk_at "rd1"
      refine ⟨kindOf Ps[i], rfl, fun r H5 sm5 hr5 => ?_⟩
      walk_at "rd1"
      refine ⟨_, .inr hr5, ?_⟩
      have hcm : ((closT (kindOf Ps[i])).map V.str).length = (closT (kindOf Ps[i])).length := List.length_map ..
      rw [hcm]
      refine cstep (by first | exact hi | (rw [List.length_map]; exact hi) | (rw [List.length_map, List.length_map]; exact hi)) (by rw [List.length_map, List.length_take, List.length_map]; omega) (by first | exact smallL (by omega) | (rw [List.length_map]; exact smallL (by omega)) | (rw [List.length_map, List.length_map]; exact smallL (by omega))) (sm5 _ _ hl) ⟨(sm.trans sm5).upd hC4 _, upd_same, ?_⟩
      rw [List.take_add_one, List.getElem?_map, List.getElem?_eq_getElem hi, List.map_append]; rfl
    rintro ys H4 ⟨sm4, hl4, rfl⟩
    rw [List.take_of_length_le (by simp)] at hl4
    have sm24 := sm23.trans sm4
    walk_at "rd1"
    refine ⟨_, SqL.of hl4, ?_⟩
    have hli : (Ps.map fun s => 1 + ((closT (kindOf s)).length : Int)).sum = linesN Ps := rfl
    rw [hli]
    unfold answer at q
    walk_at "nx"
    have hl4' := sm4 _ _ hl3'
    refine ite2 (fun c1 => ?_) (fun c1 => ?_)
    · rw [decide_eq_true c1, Bool.true_and] at q
      refine ⟨⟨_, SqL.of hl4'⟩, Ps.map kindOf, SqL.of hl4', ?_⟩
      refine ite2 (fun c2 => ?_) (fun c2 => ?_)
      · have c2' : (Ps.map kindOf).countP (· == ("lend" : Str)) ≤ 3 := by omega
        rw [decide_eq_true c2', Bool.true_and] at q
        refine ⟨sp, out, Ps, g, rfl, sm4 _ _ (sm3 _ _ e2), Paired.imp' (fun a s z => headAt.mono z sm24) hp1, hok, hfm, fun r H5 sm5 hr5 hl5 => ?_⟩
        walk_at "rd1"
        refine ⟨_, .inl (SqL.of hl5), ?_⟩
        rw [List.length_map]
        walk_at "rd1"
        have e : decide (((ded (Ps.flatMap hdN)).length : Int) ≤ 4) = decide ((ded (Ps.flatMap hdN)).length ≤ 4) := by
          by_cases h : (ded (Ps.flatMap hdN)).length ≤ 4
          · rw [decide_eq_true h, decide_eq_true (by omega)]
          · rw [decide_eq_false h, decide_eq_false (by omega)]
        rw [e]
        exact q H5 (sm24.trans sm5)
      · have c2' : ¬ (Ps.map kindOf).countP (· == ("lend" : Str)) ≤ 3 := by omega
        rw [decide_eq_false c2', Bool.false_and] at q
        exact q H4 sm24
    · rw [decide_eq_false c1, Bool.false_and, Bool.false_and] at q
      exact q H4 sm24
/-! ### gathered, of trees -/
def likeH : Stp → Bool
  | .plain ws => (ws.drop 1).all wordS
  | .lend x y _ => wordS x && wordS y
  | .ite n _ _ => boundV (.int n)
  | .whl n _ => boundV (.int n)
/-- texts that are no longer than may be, and steps of the right form -/
def szS (f : List Stp → Prop) : Stp → Prop
  | .plain ws => PlainN ws ∧ ∀ x ∈ ws, x.length ≤ 20
  | .lend x y b => x.length ≤ 20 ∧ y.length ≤ 20 ∧ f b
  | .ite _ b c => f b ∧ f c
  | .whl _ b => f b
def szT : Nat → List Stp → Prop
  | 0, _ => False
  | d + 1, T => T.length ≤ 1000 ∧ ∀ s ∈ T, szS (szT d) s
theorem sz_ok {g : List Stp → Prop} : ∀ {s : Stp}, szS g s → okNS g s
  | .plain _, h => h.1
  | .lend _ _ _, h => h.2.2
  | .ite _ _ _, h => h
  | .whl _ _, h => h
theorem val_open : valK "open" = some [("name" : Str)] := by decide
theorem val_do : valK "do" = some [("word" : Str), ("name" : Str)] := by decide
theorem val_copy : valK "copy" = some [("name" : Str), ("name" : Str)] := by decide
theorem val_drop : valK "drop" = some [("name" : Str)] := by decide
theorem val_tie : valK "tie" = some [("name" : Str), ("name" : Str)] := by decide
theorem val_lend : valK "lend" = some [("name" : Str), ("name" : Str), ("steps" : Str)] := by decide
theorem val_if : valK "if" = some [("bound" : Str), ("steps" : Str), ("steps" : Str)] := by decide
theorem val_while : valK "while" = some [("bound" : Str), ("steps" : Str)] := by decide
theorem part_name (H : Hp) (x : V) : partV H x "name" = wordV x := by
  unfold partV; rw [if_neg (by decide), if_neg (by decide)]
theorem part_word (H : Hp) (x : V) : partV H x "word" = wordV x := by
  unfold partV; rw [if_neg (by decide), if_neg (by decide)]
theorem part_bound (H : Hp) (x : V) : partV H x "bound" = boundV x := by
  unfold partV; rw [if_neg (by decide), if_pos rfl]
theorem part_steps (H : Hp) (x : V) : partV H x "steps" = isL H x := by
  unfold partV; rw [if_pos rfl]
theorem like_eq {PA : Addr → List Stp → Prop} {H : Hp} {a : Addr} {g : List Stp → Prop} (hl : ∀ q b, PA q b → ∃ xs, H q = some (.lst xs)) : ∀ {s : Stp}, stpAt PA H a s → szS g s → likeV H (.ref a) = likeH s
  | .plain ws, h, ok => by
    have h' : H a = some (.tup (ws.map V.str)) := h
    cases ok.1 <;> simp [likeV, h', likeT, val_open, val_do, val_copy, val_drop, val_tie, allP, part_name, part_word, likeH, wordV]
  | .lend x y b, ⟨q, h, z⟩, ok => by
    obtain ⟨xs, e⟩ := hl q b z
    simp [likeV, h, likeT, val_lend, allP, part_name, part_steps, likeH, wordV, isL, tyName, e]
  | .ite n b c, ⟨q, r, h, z, y⟩, ok => by
    obtain ⟨xs, e⟩ := hl q b z
    obtain ⟨ys, e'⟩ := hl r c y
    simp [likeV, h, likeT, val_if, allP, part_bound, part_steps, likeH, isL, tyName, e, e']
  | .whl n b, ⟨q, h, z⟩, ok => by
    obtain ⟨xs, e⟩ := hl q b z
    simp [likeV, h, likeT, val_while, allP, part_bound, part_steps, likeH, isL, tyName, e]
theorem thing_str (H : Hp) {x : Str} (h : x.length ≤ 20) : Thing H (.str x) := ⟨⟨"str", rfl⟩, fun y e => by cases e; exact Nat.le_trans h (by decide)⟩
theorem thing_int (H : Hp) (n : Int) : Thing H (.int n) := ⟨⟨"int", rfl⟩, fun y e => by cases e⟩
theorem thing_lst {H : Hp} {q : Addr} {xs : List V} (h : H q = some (.lst xs)) : Thing H (.ref q) := ⟨⟨"list", by simp [tyName, h]⟩, fun y e => by cases e⟩
theorem thingT_of {PA : Addr → List Stp → Prop} {H : Hp} {a : Addr} {g : List Stp → Prop} (hl : ∀ q b, PA q b → ∃ xs, H q = some (.lst xs)) : ∀ {s : Stp}, stpAt PA H a s → szS g s → ThingT H (.ref a) := by
  have key : ∀ xs : List V, H a = some (.tup xs) → (∀ y ∈ xs, Thing H y) → xs.length ≤ 20 → ThingT H (.ref a) := fun xs h hy hn =>
    ⟨⟨⟨"tuple", by simp [tyName, h]⟩, fun y e => by cases e⟩, fun b ys e hb => by cases e; rw [h] at hb; cases hb; exact ⟨hy, by omega⟩⟩
  intro s h ok
  cases s with
  | plain ws =>
    refine key _ h (fun y hy => ?_) (by obtain ⟨o, _⟩ := ok; cases o <;> simp)
    obtain ⟨x, hx, rfl⟩ := List.mem_map.mp hy
    exact thing_str H (ok.2 x hx)
  | lend x y b =>
    obtain ⟨q, h, z⟩ := h
    obtain ⟨xs, e⟩ := hl q b z
    refine key _ h (fun v hv => ?_) (by simp)
    simp only [List.mem_cons, List.mem_nil_iff, or_false] at hv
    rcases hv with rfl | rfl | rfl | rfl
    · exact thing_str H (by decide)
    · exact thing_str H ok.1
    · exact thing_str H ok.2.1
    · exact thing_lst e
  | ite n b c =>
    obtain ⟨q, r, h, z, y⟩ := h
    obtain ⟨xs, e⟩ := hl q b z
    obtain ⟨ys, e'⟩ := hl r c y
    refine key _ h (fun v hv => ?_) (by simp)
    simp only [List.mem_cons, List.mem_nil_iff, or_false] at hv
    rcases hv with rfl | rfl | rfl | rfl
    · exact thing_str H (by decide)
    · exact thing_int H _
    · exact thing_lst e
    · exact thing_lst e'
  | whl n b =>
    obtain ⟨q, h, z⟩ := h
    obtain ⟨xs, e⟩ := hl q b z
    refine key _ h (fun v hv => ?_) (by simp)
    simp only [List.mem_cons, List.mem_nil_iff, or_false] at hv
    rcases hv with rfl | rfl | rfl
    · exact thing_str H (by decide)
    · exact thing_int H _
    · exact thing_lst e
def gB (G : Nat → List Stp → List Stp × Bool) : List (List Stp) → Nat → List Stp × Bool
  | [], _ => ([], true)
  | b :: bs, n => if (G n b).2 = true then ((G n b).1 ++ (gB G bs (n + (G n b).1.length)).1, (gB G bs (n + (G n b).1.length)).2) else ((G n b).1, false)
def gL (G : Nat → List Stp → List Stp × Bool) (ar : Nat) : List Stp → Nat → List Stp × Bool
  | [], _ => ([], true)
  | s :: T, n => if ar > 8 ∨ n = 60 ∨ likeH s = false then ([], false) else
    if (gB G (blk s) (n + 1)).2 = true then (s :: ((gB G (blk s) (n + 1)).1 ++ (gL G ar T (n + 1 + (gB G (blk s) (n + 1)).1.length)).1), (gL G ar T (n + 1 + (gB G (blk s) (n + 1)).1.length)).2) else (s :: (gB G (blk s) (n + 1)).1, false)
def gT : Nat → Nat → Nat → List Stp → List Stp × Bool
  | 0, _, _, _ => ([], false)
  | e + 1, ar, n, T => gL (gT e (ar + 1)) ar T n
/-- what is gathered, at its places -/
def GotAt (H : Hp) (out : List Addr) (Ps : List Stp) : Prop := Paired (headAt H) out Ps ∧ ∀ s ∈ Ps, okNS (fun _ => True) s
theorem GotAt.app {H : Hp} {o1 o2 : List Addr} {p1 p2 : List Stp} (h1 : GotAt H o1 p1) (h2 : GotAt H o2 p2) : GotAt H (o1 ++ o2) (p1 ++ p2) := ⟨paired_app h1.1 h2.1, fun s hs => (List.mem_append.mp hs).elim (h1.2 s) (h2.2 s)⟩
theorem gb_of {G : Nat → Addr → List Addr → Bool → Prop} {G' : Nat → List Stp → List Stp × Bool} {H : Hp} {PA : Addr → List Stp → Prop} {g : List Stp → Prop}
    (h : ∀ n q b, PA q b → g b → ∃ out, G n q out (G' n b).2 ∧ GotAt H out (G' n b).1) :
    ∀ {bs : List Addr} {Bs : List (List Stp)}, Paired PA bs Bs → (∀ b ∈ Bs, g b) → ∀ n, ∃ out, GB G bs n out (gB G' Bs n).2 ∧ GotAt H out (gB G' Bs n).1
  | _, _, .nil, _, n => ⟨[], ⟨rfl, rfl⟩, .nil, fun s hs => by cases hs⟩
  | _, _, .cons (a := q) (b := b) (l₁ := qs) (l₂ := Bs) z t, hg, n => by
    obtain ⟨o1, z1, y1⟩ := h n q b z (hg _ List.mem_cons_self)
    unfold gB
    by_cases hb : (G' n b).2 = true
    · rw [if_pos hb]
      obtain ⟨o2, z2, y2⟩ := gb_of h t (fun b hb => hg b (List.mem_cons_of_mem _ hb)) (n + (G' n b).1.length)
      exact ⟨o1 ++ o2, ⟨o1, _, z1, by rw [if_pos hb]; exact ⟨o2, by rw [paired_len y1.1]; exact z2, rfl⟩⟩, y1.app y2⟩
    · rw [if_neg hb]
      exact ⟨o1, ⟨o1, _, z1, by rw [if_neg hb]; exact ⟨rfl, rfl⟩⟩, y1⟩
theorem sz_blk {g : List Stp → Prop} {s : Stp} (h : szS g s) : ∀ b ∈ blk s, g b := by
  cases s with
  | plain ws => intro b hb; cases hb
  | lend x y b => intro c hc; simp only [blk, List.mem_cons, List.mem_nil_iff, or_false] at hc; subst hc; exact h.2.2
  | ite n b c => intro e he; simp only [blk, List.mem_cons, List.mem_nil_iff, or_false] at he; rcases he with rfl | rfl; (· exact h.1); (· exact h.2)
  | whl n b => intro c hc; simp only [blk, List.mem_cons, List.mem_nil_iff, or_false] at hc; subst hc; exact h
theorem ok_any {g : List Stp → Prop} {s : Stp} (h : okNS g s) : okNS (fun _ => True) s := by
  cases s with
  | plain ws => exact h
  | lend x y b => trivial
  | ite n b c => exact ⟨trivial, trivial⟩
  | whl n b => trivial
theorem gl_of {G : Nat → Addr → List Addr → Bool → Prop} {G' : Nat → List Stp → List Stp × Bool} {H : Hp} {ar : Nat} {PA : Addr → List Stp → Prop} {g : List Stp → Prop} (hl : ∀ q b, PA q b → ∃ xs, H q = some (.lst xs))
    (h : ar ≤ 8 → ∀ n q b, PA q b → g b → ∃ out, G n q out (G' n b).2 ∧ GotAt H out (G' n b).1) :
    ∀ {as : List Addr} {T : List Stp}, Paired (stpAt PA H) as T → (∀ s ∈ T, szS g s) → ∀ n, ∃ out, GL G H ar (as.map V.ref) n out (gL G' ar T n).2 ∧ GotAt H out (gL G' ar T n).1
  | _, _, .nil, _, n => ⟨[], ⟨rfl, rfl⟩, .nil, fun s hs => by cases hs⟩
  | _, _, .cons (a := a) (b := s) (l₁ := as) (l₂ := T) z t, hg, n => by
    have hsz := hg s List.mem_cons_self
    have hlk := like_eq hl z hsz
    rw [List.map_cons]
    unfold gL GL
    rw [hlk]
    by_cases hc : ar > 8 ∨ n = 60 ∨ likeH s = false
    · rw [if_pos hc]
      exact ⟨[], by rw [if_pos hc]; exact ⟨rfl, rfl⟩, .nil, fun s hs => by cases hs⟩
    · rw [if_neg hc]
      obtain ⟨k, hs, bs, e1, e2, e3, e4⟩ := step_parts z (sz_ok hsz)
      obtain ⟨o1, z1, y1⟩ := gb_of (h (by omega)) e3 (sz_blk hsz) (n + 1)
      have hone : GotAt H [a] [s] := ⟨.cons (stpAt.imp (fun _ _ e => e) (fun _ _ _ => trivial) z) .nil, fun s' hs' => by rw [List.mem_singleton.mp hs']; exact ok_any (sz_ok hsz)⟩
      by_cases hb : (gB G' (blk s) (n + 1)).2 = true
      · rw [if_pos hb]
        obtain ⟨o2, z2, y2⟩ := gl_of hl h t (fun s hs => hg s (List.mem_cons_of_mem _ hs)) (n + 1 + (gB G' (blk s) (n + 1)).1.length)
        refine ⟨a :: (o1 ++ o2), ?_, hone.app (y1.app y2)⟩
        rw [if_neg hc]
        exact ⟨a, k, hs, bs, ⟨rfl, e1, e2⟩, o1, _, z1, by rw [if_pos hb]; exact ⟨o2, by rw [paired_len y1.1]; exact z2, rfl⟩⟩
      · rw [if_neg hb]
        refine ⟨a :: o1, ?_, hone.app y1⟩
        rw [if_neg hc]
        exact ⟨a, k, hs, bs, ⟨rfl, e1, e2⟩, o1, _, z1, by rw [if_neg hb]; exact ⟨rfl, rfl⟩⟩
theorem prog_lst {S : Addr → Prop} {D : Nat} {H : Hp} {q : Addr} {b : List Stp} (h : ProgAt S D H q b) : ∃ xs, H q = some (.lst xs) := by
  cases D with
  | zero => exact h.elim
  | succ D => obtain ⟨_, as, e, _⟩ := h; exact ⟨_, e⟩
theorem gth_of {S : Addr → Prop} {H : Hp} : ∀ (e D ar : Nat) {n : Nat} {p : Addr} {T : List Stp}, e + ar = 9 → ProgAt S D H p T → szT D T → ∃ out, Gth S (e + 1) H ar n p out (gT (e + 1) ar n T).2 ∧ GotAt H out (gT (e + 1) ar n T).1
  | e, 0, ar, n, p, T, _, h, _ => h.elim
  | e, D + 1, ar, n, p, T, he, ⟨hS, as, h1, h2⟩, hz => by
    have hth : ∀ x ∈ as.map V.ref, ThingT H x := fun x hx => by
      obtain ⟨a, ha, rfl⟩ := List.mem_map.mp hx
      obtain ⟨i, hi⟩ := List.getElem?_of_mem ha
      obtain ⟨s, hs, z⟩ := paired_at h2 hi
      exact thingT_of (fun q b z => prog_lst z) z (hz.2 s (List.mem_of_getElem? hs))
    obtain ⟨out, z, y⟩ := gl_of (G := Gth S e H (ar + 1)) (G' := gT e (ar + 1)) (ar := ar) (fun q b z => prog_lst z) (fun har n q b z y => by
      cases e with
      | zero => omega
      | succ e => exact gth_of e D (ar + 1) (by omega) z y) h2 hz.2 n
    exact ⟨out, ⟨hS, _, h1, hth, by rw [List.length_map, paired_len h2]; exact hz.1, z⟩, y⟩
def okG : Nat → Nat → List Stp → Bool
  | 0, _, _ => true
  | D + 1, ar, T => T.all fun s => decide (ar ≤ 8) && likeH s && (blk s).all (okG D (ar + 1))
/-- what a gathering is that tells what f tells, where it is ok -/
structure GoodG (G : Nat → List Stp → List Stp × Bool) (f : List Stp → List Stp) (ok : List Stp → Bool) (b : List Stp) : Prop where
  a : ∀ n, n ≤ 60 → (G n b).2 = true → ok b = true ∧ n + (f b).length ≤ 60 ∧ (G n b).1 = f b
  b : ∀ n, n ≤ 60 → ok b = true → n + (f b).length ≤ 60 → G n b = (f b, true)
theorem gb_a {G : Nat → List Stp → List Stp × Bool} {f : List Stp → List Stp} {ok : List Stp → Bool} : ∀ {Bs : List (List Stp)}, (∀ b ∈ Bs, GoodG G f ok b) → ∀ n, n ≤ 60 → (gB G Bs n).2 = true → Bs.all ok = true ∧ n + (Bs.flatMap f).length ≤ 60 ∧ (gB G Bs n).1 = Bs.flatMap f
  | [], _, n, hn, _ => ⟨rfl, hn, rfl⟩
  | b :: Bs, h, n, hn, hb => by
    unfold gB at hb ⊢
    by_cases c : (G n b).2 = true
    · rw [if_pos c] at hb ⊢
      obtain ⟨h1, h2, h3⟩ := (h b List.mem_cons_self).a n hn c
      rw [h3] at hb ⊢
      obtain ⟨k1, k2, k3⟩ := gb_a (fun b hb => h b (List.mem_cons_of_mem _ hb)) (n + (f b).length) h2 hb
      refine ⟨by rw [List.all_cons, h1, k1]; rfl, by rw [List.flatMap_cons, List.length_append]; omega, ?_⟩
      show f b ++ _ = _
      rw [k3, List.flatMap_cons]
    · rw [if_neg c] at hb; cases hb
theorem gb_b {G : Nat → List Stp → List Stp × Bool} {f : List Stp → List Stp} {ok : List Stp → Bool} : ∀ {Bs : List (List Stp)}, (∀ b ∈ Bs, GoodG G f ok b) → ∀ n, n ≤ 60 → Bs.all ok = true → n + (Bs.flatMap f).length ≤ 60 → gB G Bs n = (Bs.flatMap f, true)
  | [], _, n, hn, _, _ => rfl
  | b :: Bs, h, n, hn, ho, hl => by
    rw [List.all_cons, Bool.and_eq_true] at ho
    rw [List.flatMap_cons, List.length_append] at hl
    have e := (h b List.mem_cons_self).b n hn ho.1 (by omega)
    unfold gB
    rw [e]
    dsimp only
    rw [if_pos rfl, gb_b (fun b hb => h b (List.mem_cons_of_mem _ hb)) (n + (f b).length) (by omega) ho.2 (by omega), List.flatMap_cons]
theorem gl_a {G : Nat → List Stp → List Stp × Bool} {f : List Stp → List Stp} {ok : List Stp → Bool} {ar : Nat} : ∀ {T : List Stp}, (ar ≤ 8 → ∀ s ∈ T, ∀ b ∈ blk s, GoodG G f ok b) → ∀ n, n ≤ 60 → (gL G ar T n).2 = true → (T.all fun s => decide (ar ≤ 8) && likeH s && (blk s).all ok) = true ∧ n + (T.flatMap (preS f)).length ≤ 60 ∧ (gL G ar T n).1 = T.flatMap (preS f)
  | [], _, n, hn, _ => ⟨rfl, hn, rfl⟩
  | s :: T, h, n, hn, hb => by
    unfold gL at hb ⊢
    by_cases hc : ar > 8 ∨ n = 60 ∨ likeH s = false
    · rw [if_pos hc] at hb; cases hb
    · rw [if_neg hc] at hb ⊢
      by_cases c : (gB G (blk s) (n + 1)).2 = true
      · rw [if_pos c] at hb ⊢
        have har : ar ≤ 8 := by omega
        have hlk : likeH s = true := by cases e : likeH s with | true => rfl | false => exact absurd (.inr (.inr e)) hc
        obtain ⟨h1, h2, h3⟩ := gb_a (h har s List.mem_cons_self) (n + 1) (by omega) c
        rw [h3] at hb ⊢
        obtain ⟨k1, k2, k3⟩ := gl_a (fun har s hs => h har s (List.mem_cons_of_mem _ hs)) (n + 1 + ((blk s).flatMap f).length) h2 hb
        refine ⟨by rw [List.all_cons, k1, h1, hlk, decide_eq_true har]; rfl, by have hps : (preS f s).length = ((blk s).flatMap f).length + 1 := List.length_cons; rw [List.flatMap_cons, List.length_append, hps]; omega, ?_⟩
        show s :: (_ ++ _) = _
        rw [k3, List.flatMap_cons]; rfl
      · rw [if_neg c] at hb; cases hb
theorem gl_b {G : Nat → List Stp → List Stp × Bool} {f : List Stp → List Stp} {ok : List Stp → Bool} {ar : Nat} : ∀ {T : List Stp}, (ar ≤ 8 → ∀ s ∈ T, ∀ b ∈ blk s, GoodG G f ok b) → ∀ n, n ≤ 60 → (T.all fun s => decide (ar ≤ 8) && likeH s && (blk s).all ok) = true → n + (T.flatMap (preS f)).length ≤ 60 → gL G ar T n = (T.flatMap (preS f), true)
  | [], _, n, hn, _, _ => rfl
  | s :: T, h, n, hn, ho, hl => by
    rw [List.all_cons, Bool.and_eq_true, Bool.and_eq_true, Bool.and_eq_true] at ho
    obtain ⟨⟨⟨o1, o2⟩, o3⟩, o4⟩ := ho
    have har : ar ≤ 8 := of_decide_eq_true o1
    rw [List.flatMap_cons, List.length_append] at hl
    have hps : (preS f s).length = ((blk s).flatMap f).length + 1 := List.length_cons
    rw [hps] at hl
    have e := gb_b (h har s List.mem_cons_self) (n + 1) (by omega) o3 (by omega)
    unfold gL
    rw [if_neg (by rintro (z | z | z); · omega
                   · omega
                   · rw [o2] at z; cases z), e]
    dsimp only
    rw [if_pos rfl, gl_b (fun har s hs => h har s (List.mem_cons_of_mem _ hs)) (n + 1 + ((blk s).flatMap f).length) (by omega) o4 (by omega), List.flatMap_cons]; rfl
theorem gt_good : ∀ (e D ar : Nat) {T : List Stp}, e + ar = 9 → szT D T → GoodG (gT (e + 1) ar) (preT D) (okG D ar) T
  | e, 0, ar, T, _, hz => hz.elim
  | e, D + 1, ar, T, he, hz => by
    have h : ar ≤ 8 → ∀ s ∈ T, ∀ b ∈ blk s, GoodG (gT e (ar + 1)) (preT D) (okG D (ar + 1)) b := fun har s hs b hb => by
      cases e with
      | zero => omega
      | succ e => exact gt_good e D (ar + 1) (by omega) (sz_blk (hz.2 s hs) b hb)
    exact ⟨fun n hn hb => gl_a h n hn hb, fun n hn ho hl => gl_b h n hn ho hl⟩
def progB (D : Nat) (T : List Stp) : Bool := okG D 0 T && answer (preT D T)
theorem lines_ge : ∀ Ps : List Stp, (Ps.length : Int) ≤ linesN Ps
  | [] => by simp [linesN]
  | s :: Ps => by
    have := lines_ge Ps
    unfold linesN at this ⊢
    rw [List.map_cons, List.sum_cons, List.length_cons]
    omega
theorem gt_answer {D : Nat} {T : List Stp} (hz : szT D T) : ((gT 10 0 0 T).2 && answer (gT 10 0 0 T).1) = progB D T := by
  have g := gt_good 9 D 0 rfl hz
  cases hb : (gT 10 0 0 T).2 with
  | true =>
    obtain ⟨h1, h2, h3⟩ := g.a 0 (by decide) hb
    unfold progB
    have h3' : (gT 10 0 0 T).1 = preT D T := h3
    rw [h1, h3']
  | false =>
    rw [Bool.false_and]
    unfold progB
    cases ho : okG D 0 T with
    | false => rfl
    | true =>
      by_cases hl : (preT D T).length ≤ 60
      · have e := g.b 0 (by decide) ho (by omega)
        have e' : gT 10 0 0 T = (preT D T, true) := e
        rw [e'] at hb; cases hb
      · have := lines_ge (preT D T)
        unfold answer
        rw [decide_eq_false (by omega : ¬ linesN (preT D T) ≤ 60)]; rfl
theorem hdN_le {g : List Stp → Prop} : ∀ {s : Stp}, okNS g s → (hdN s).length ≤ 2
  | .plain ws, ok => by cases ok <;> (simp only [hdN]; split <;> simp)
  | .lend _ _ _, _ => Nat.le_refl 2
  | .ite _ _ _, _ => Nat.zero_le 2
  | .whl _ _, _ => Nat.zero_le 2
theorem hdNs_le {g : List Stp → Prop} : ∀ {Ps : List Stp}, (∀ s ∈ Ps, okNS g s) → (Ps.flatMap hdN).length ≤ 2 * Ps.length
  | [], _ => by simp
  | s :: Ps, h => by
    have h1 := hdN_le (h s List.mem_cons_self)
    have h2 := hdNs_le fun s hs => h s (List.mem_cons_of_mem _ hs)
    rw [List.flatMap_cons, List.length_append, List.length_cons]; omega
theorem isprog_of {S : Addr → Prop} {D : Nat} {H : Hp} {p : Addr} {T : List Stp} (hP : ProgAt S D H p T) (hz : szT D T) (hS : ∀ x, S x → ∃ o, H x = some o) {Q : V → Hp → Prop} {E : XK} (q : ∀ H', Same H H' → Q (.bl (progB D T)) H') : spIsProg [.ref p] H Q E := by
  obtain ⟨out, h1, h2⟩ := gth_of 9 D 0 (n := 0) rfl hP hz
  refine ⟨p, S, out, (gT 10 0 0 T).2, (gT 10 0 0 T).1, fun _ => True, rfl, h1, hS, fun _ => ⟨h2.1, h2.2, ?_⟩, fun H' sm => ?_⟩
  · have := Gth.le 10 (by decide) h1
    have e1 := hdNs_le h2.2
    have e2 := paired_len h2.1
    have e3 : ((gT 10 0 0 T).1.flatMap hdN).length ≤ 2 * (gT (9 + 1) 0 0 T).1.length := e1
    omega
  · rw [gt_answer hz]; exact q H' sm
/-! ### what is made -/
def lnS : Stp → Nat
  | .plain _ => 1
  | .lend _ _ _ => 2
  | .ite _ _ _ => 3
  | .whl _ _ => 2
def ldS : Stp → Nat
  | .lend _ _ _ => 1
  | _ => 0
theorem clos_kind {g : List Stp → Prop} : ∀ {s : Stp}, okNS g s → (closT (kindOf s)).length + 1 = lnS s ∧ (kindOf s == ("lend" : Str)) = (ldS s == 1)
  | .plain ws, ok => by cases ok <;> exact ⟨by simp only [kindOf, lnS, List.headD_cons]; decide, by simp only [kindOf, ldS, List.headD_cons]; decide⟩
  | .lend _ _ _, _ => ⟨by simp only [kindOf, lnS]; decide, by simp only [kindOf, ldS]; decide⟩
  | .ite _ _ _, _ => ⟨by simp only [kindOf, lnS]; decide, by simp only [kindOf, ldS]; decide⟩
  | .whl _ _, _ => ⟨by simp only [kindOf, lnS]; decide, by simp only [kindOf, ldS]; decide⟩
theorem ldS_le (s : Stp) : ldS s ≤ 1 := by cases s <;> simp [ldS]
/-- the three counts of what is gathered -/
theorem answer_of {g : List Stp → Prop} : ∀ {Ps : List Stp}, (∀ s ∈ Ps, okNS g s) → linesN Ps = (((Ps.map lnS).sum : Nat) : Int) ∧ (Ps.map kindOf).countP (· == ("lend" : Str)) = (Ps.map ldS).sum
  | [], _ => ⟨rfl, rfl⟩
  | s :: Ps, h => by
    obtain ⟨h1, h2⟩ := answer_of fun s hs => h s (List.mem_cons_of_mem _ hs)
    obtain ⟨k1, k2⟩ := clos_kind (h s List.mem_cons_self)
    have k3 := ldS_le s
    constructor
    · unfold linesN at h1 ⊢
      rw [List.map_cons, List.sum_cons, h1, List.map_cons, List.sum_cons]; omega
    · rw [List.map_cons, List.countP_cons, h2, List.map_cons, List.sum_cons]
      rw [show ((kindOf s == ("lend" : Str))) = (ldS s == 1) from k2]
      by_cases e : ldS s = 1
      · rw [e, if_pos (by decide)]; omega
      · rw [if_neg (by simpa using e)]; omega
theorem pre_ok : ∀ (D : Nat) {T : List Stp}, szT D T → ∀ s ∈ preT D T, okNS (fun _ => True) s
  | 0, _, h => h.elim
  | D + 1, T, h => fun s hs => by
    obtain ⟨t, ht, hs⟩ := List.mem_flatMap.mp hs
    rcases List.mem_cons.mp hs with rfl | hs
    · exact ok_any (sz_ok (h.2 _ ht))
    · obtain ⟨b, hb, hs⟩ := List.mem_flatMap.mp hs
      exact pre_ok D (sz_blk (h.2 t ht) b hb) s hs
def lnC (D : Nat) (T : List Stp) : Nat := ((preT D T).map lnS).sum
def ldC (D : Nat) (T : List Stp) : Nat := ((preT D T).map ldS).sum
def nmC (D : Nat) (T : List Stp) : List Str := (preT D T).flatMap hdN
theorem progB_of {D : Nat} {T : List Stp} (hz : szT D T) : progB D T = (okG D 0 T && (decide (lnC D T ≤ 60) && decide (ldC D T ≤ 3) && decide ((ded (nmC D T)).length ≤ 4))) := by
  obtain ⟨h1, h2⟩ := answer_of (pre_ok D hz)
  unfold progB answer
  rw [h1, h2]
  have e : decide ((((((preT D T).map lnS).sum : Nat) : Int)) ≤ 60) = decide (lnC D T ≤ 60) := by
    by_cases h : lnC D T ≤ 60
    · have h' : ((preT D T).map lnS).sum ≤ 60 := h
      rw [decide_eq_true h, decide_eq_true (by omega)]
    · have h' : ¬ ((preT D T).map lnS).sum ≤ 60 := h
      rw [decide_eq_false h, decide_eq_false (by omega)]
  rw [e]; rfl
theorem word_len {x : Str} (h : wordS x = true) : x.length ≤ 8 := by
  unfold wordS at h
  rw [Bool.and_eq_true] at h
  exact (of_decide_eq_true h.1).2
/-! ### how many names -/
theorem nodup_sub : ∀ {l m : List Str}, l.Nodup → (∀ x ∈ l, x ∈ m) → l.length ≤ m.length
  | [], _, _, _ => Nat.zero_le _
  | x :: l, m, hn, hs => by
    have hx := hs x List.mem_cons_self
    obtain ⟨h1, h2⟩ := List.nodup_cons.mp hn
    have h3 := nodup_sub (m := m.erase x) h2 (fun y hy => (List.mem_erase_of_ne (by rintro rfl; exact h1 hy)).mpr (hs y (List.mem_cons_of_mem _ hy)))
    rw [List.length_erase_of_mem hx] at h3
    have := List.length_pos_of_mem hx
    rw [List.length_cons]; omega
theorem addN_mem {acc : List Str} {x y : Str} : y ∈ addN acc x ↔ y ∈ acc ∨ y = x := by
  unfold addN
  split
  · rename_i h
    exact ⟨.inl, fun z => z.elim id fun e => e ▸ h⟩
  · simp
theorem addN_nodup {acc : List Str} {x : Str} (h : acc.Nodup) : (addN acc x).Nodup := by
  unfold addN
  split
  · exact h
  · rename_i hx
    rw [List.nodup_append]
    refine ⟨h, by simp, fun a ha b hb => ?_⟩
    rw [List.mem_singleton.mp hb]
    exact fun e => hx (e ▸ ha)
theorem fold_mem : ∀ (l acc : List Str) {y : Str}, y ∈ l.foldl addN acc ↔ y ∈ acc ∨ y ∈ l
  | [], acc, y => by simp
  | x :: l, acc, y => by rw [List.foldl_cons, fold_mem l, addN_mem, List.mem_cons]; exact or_assoc
theorem fold_nodup : ∀ (l : List Str) {acc : List Str}, acc.Nodup → (l.foldl addN acc).Nodup
  | [], _, h => h
  | x :: l, _, h => by rw [List.foldl_cons]; exact fold_nodup l (addN_nodup h)
theorem ded_le {l m : List Str} (h : ∀ x ∈ l, x ∈ m) : (ded l).length ≤ m.length := nodup_sub (fold_nodup l List.nodup_nil) fun x hx => h x (((fold_mem l []).mp hx).elim (fun z => by cases z) id)
theorem parts_ok {K : PySem.W.Frag} {a0 a1 a2 a3 a4 a5 a6 a7 : Addr} (q0 : ∀ H : Hp, SqT K H a0 [.str "name"]) (q1 : ∀ H : Hp, SqT K H a1 [.str "word", .str "name"]) (q2 : ∀ H : Hp, SqT K H a2 [.str "name", .str "name"]) (q3 : ∀ H : Hp, SqT K H a3 [.str "name"]) (q4 : ∀ H : Hp, SqT K H a4 [.str "name", .str "name"]) (q5 : ∀ H : Hp, SqT K H a5 [.str "name", .str "name", .str "steps"]) (q6 : ∀ H : Hp, SqT K H a6 [.str "bound", .str "steps", .str "steps"]) (q7 : ∀ H : Hp, SqT K H a7 [.str "bound", .str "steps"]) :
    ∀ kind ks, (kind, ks) ∈ kindsN → ∃ a, valV [(("open" : Str), V.ref a0), (("do" : Str), V.ref a1), (("copy" : Str), V.ref a2), (("drop" : Str), V.ref a3), (("tie" : Str), V.ref a4), (("lend" : Str), V.ref a5), (("if" : Str), V.ref a6), (("while" : Str), V.ref a7)] kind = some (.ref a) ∧ ∀ H : Hp, SqT K H a (ks.map V.str) := by
  intro kind ks h
  simp only [kindsN, List.mem_cons, Prod.mk.injEq, List.mem_nil_iff, or_false] at h
  rcases h with ⟨rfl, rfl⟩ | ⟨rfl, rfl⟩ | ⟨rfl, rfl⟩ | ⟨rfl, rfl⟩ | ⟨rfl, rfl⟩ | ⟨rfl, rfl⟩ | ⟨rfl, rfl⟩ | ⟨rfl, rfl⟩
  · exact ⟨a0, rfl, q0⟩
  · exact ⟨a1, rfl, q1⟩
  · exact ⟨a2, rfl, q2⟩
  · exact ⟨a3, rfl, q3⟩
  · exact ⟨a4, rfl, q4⟩
  · exact ⟨a5, rfl, q5⟩
  · exact ⟨a6, rfl, q6⟩
  · exact ⟨a7, rfl, q7⟩
theorem parts_pk {K : PySem.W.Frag} {a0 a1 a2 a3 a4 a5 a6 a7 : Addr} (q0 : ∀ H : Hp, SqT K H a0 [.str "name"]) (q1 : ∀ H : Hp, SqT K H a1 [.str "word", .str "name"]) (q2 : ∀ H : Hp, SqT K H a2 [.str "name", .str "name"]) (q3 : ∀ H : Hp, SqT K H a3 [.str "name"]) (q4 : ∀ H : Hp, SqT K H a4 [.str "name", .str "name"]) (q5 : ∀ H : Hp, SqT K H a5 [.str "name", .str "name", .str "steps"]) (q6 : ∀ H : Hp, SqT K H a6 [.str "bound", .str "steps", .str "steps"]) (q7 : ∀ H : Hp, SqT K H a7 [.str "bound", .str "steps"]) :
    ∀ kind, match valK kind with | some ks => ∃ a, valV [(("open" : Str), V.ref a0), (("do" : Str), V.ref a1), (("copy" : Str), V.ref a2), (("drop" : Str), V.ref a3), (("tie" : Str), V.ref a4), (("lend" : Str), V.ref a5), (("if" : Str), V.ref a6), (("while" : Str), V.ref a7)] kind = some (.ref a) ∧ ∀ H : Hp, SqT K H a (ks.map V.str) | none => valV [(("open" : Str), V.ref a0), (("do" : Str), V.ref a1), (("copy" : Str), V.ref a2), (("drop" : Str), V.ref a3), (("tie" : Str), V.ref a4), (("lend" : Str), V.ref a5), (("if" : Str), V.ref a6), (("while" : Str), V.ref a7)] kind = none := by
  intro kind
  by_cases h0 : ("open" : Str) = kind
  · subst h0; rw [val_open]; exact ⟨a0, rfl, q0⟩
  by_cases h1 : ("do" : Str) = kind
  · subst h1; rw [val_do]; exact ⟨a1, rfl, q1⟩
  by_cases h2 : ("copy" : Str) = kind
  · subst h2; rw [val_copy]; exact ⟨a2, rfl, q2⟩
  by_cases h3 : ("drop" : Str) = kind
  · subst h3; rw [val_drop]; exact ⟨a3, rfl, q3⟩
  by_cases h4 : ("tie" : Str) = kind
  · subst h4; rw [val_tie]; exact ⟨a4, rfl, q4⟩
  by_cases h5 : ("lend" : Str) = kind
  · subst h5; rw [val_lend]; exact ⟨a5, rfl, q5⟩
  by_cases h6 : ("if" : Str) = kind
  · subst h6; rw [val_if]; exact ⟨a6, rfl, q6⟩
  by_cases h7 : ("while" : Str) = kind
  · subst h7; rw [val_while]; exact ⟨a7, rfl, q7⟩
  have e : valK kind = none := by
    unfold valK kindsL
    simp [h0, h1, h2, h3, h4, h5, h6, h7]
  rw [e]
  simp [valV, h0, h1, h2, h3, h4, h5, h6, h7]
end
/-! ### a program that is being built: what is open -/
inductive Frm where
  | lend (x y : Str) (up : List Stp)
  | whl (n : Int) (up : List Stp)
  | inB (n : Int) (up : List Stp)
  | inC (n : Int) (b up : List Stp)
inductive Ctx (H : Hp) (S : Addr → Prop) (root : Addr) : List Frm → List (Str × Addr) → Nat → Addr → Prop
  | nil : Ctx H S root [] [] 9 root
  | lend {x y : Str} {us : List Stp} {r : List Frm} {pr : List (Str × Addr)} {d : Nat} {here up t : Addr} {as : List Addr} : H up = some (.lst (as.map V.ref ++ [.ref t])) → Paired (stpAt (ProgAt S (d + 1) H) H) as us → H t = some (.tup [.str "lend", .str x, .str y, .ref here]) → Ctx H S root r pr (d + 1) up → Ctx H S root (.lend x y us :: r) (("back", up) :: pr) d here
  | whl {n : Int} {us : List Stp} {r : List Frm} {pr : List (Str × Addr)} {d : Nat} {here up t : Addr} {as : List Addr} : H up = some (.lst (as.map V.ref ++ [.ref t])) → Paired (stpAt (ProgAt S (d + 1) H) H) as us → H t = some (.tup [.str "while", .int n, .ref here]) → Ctx H S root r pr (d + 1) up → Ctx H S root (.whl n us :: r) (("done", up) :: pr) d here
  | inB {n : Int} {us : List Stp} {r : List Frm} {pr : List (Str × Addr)} {d : Nat} {here up t oth : Addr} {as : List Addr} : H up = some (.lst (as.map V.ref ++ [.ref t])) → Paired (stpAt (ProgAt S (d + 1) H) H) as us → H t = some (.tup [.str "if", .int n, .ref here, .ref oth]) → H oth = some (.lst []) → Ctx H S root r pr (d + 1) up → Ctx H S root (.inB n us :: r) (("else", oth) :: ("fi", up) :: pr) d here
  | inC {n : Int} {b us : List Stp} {r : List Frm} {pr : List (Str × Addr)} {d : Nat} {here up t bq : Addr} {as : List Addr} : H up = some (.lst (as.map V.ref ++ [.ref t])) → Paired (stpAt (ProgAt S (d + 1) H) H) as us → H t = some (.tup [.str "if", .int n, .ref bq, .ref here]) → ProgAt S (d + 1) H bq b → Ctx H S root r pr (d + 1) up → Ctx H S root (.inC n b us :: r) (("fi", up) :: pr) d here
theorem Ctx.imp {H H' : Hp} {S S' : Addr → Prop} {root : Addr} (ht : ∀ b xs, H b = some (.tup xs) → H' b = some (.tup xs)) (hl : ∀ b xs, S b → H b = some (.lst xs) → H' b = some (.lst xs)) (hS : ∀ b, S b → S' b) {fs : List Frm} {pr : List (Str × Addr)} {d : Nat} {here : Addr}
    (h : Ctx H S root fs pr d here) : (∀ q ∈ pr, ∀ xs, H q.2 = some (.lst xs) → H' q.2 = some (.lst xs)) → Ctx H' S' root fs pr d here := by
  have st : ∀ {d : Nat} {as : List Addr} {us : List Stp}, Paired (stpAt (ProgAt S d H) H) as us → Paired (stpAt (ProgAt S' d H') H') as us := fun {d as us} h => Paired.imp' (fun a s z => z.imp ht fun q b y => y.imp ht hl hS d) h
  induction h with
  | nil => intro _; exact .nil
  | lend h1 h2 h3 _ ih => intro hu; exact .lend (hu _ List.mem_cons_self _ h1) (st h2) (ht _ _ h3) (ih fun q hq => hu q (List.mem_cons_of_mem _ hq))
  | whl h1 h2 h3 _ ih => intro hu; exact .whl (hu _ List.mem_cons_self _ h1) (st h2) (ht _ _ h3) (ih fun q hq => hu q (List.mem_cons_of_mem _ hq))
  | inB h1 h2 h3 h4 _ ih => intro hu; exact .inB (hu _ (List.mem_cons_of_mem _ List.mem_cons_self) _ h1) (st h2) (ht _ _ h3) (hu _ List.mem_cons_self _ h4) (ih fun q hq => hu q (List.mem_cons_of_mem _ (List.mem_cons_of_mem _ hq)))
  | inC h1 h2 h3 h4 _ ih => intro hu; exact .inC (hu _ List.mem_cons_self _ h1) (st h2) (ht _ _ h3) (h4.imp ht hl hS _) (ih fun q hq => hu q (List.mem_cons_of_mem _ hq))
def notEls (pr : List (Str × Addr)) : Nat := (pr.filter fun q => decide (q.1 ≠ ("else" : Str))).length
theorem els_pos {w : Str} (h : w ≠ "else") (a : Addr) (pr : List (Str × Addr)) : notEls ((w, a) :: pr) = notEls pr + 1 := by
  unfold notEls
  rw [List.filter_cons, if_pos (by simpa using h)]; rfl
theorem els_neg (a : Addr) (pr : List (Str × Addr)) : notEls (("else", a) :: pr) = notEls pr := by
  unfold notEls
  rw [List.filter_cons, if_neg (by simp)]
theorem Ctx.deep {H : Hp} {S : Addr → Prop} {root : Addr} {fs : List Frm} {pr : List (Str × Addr)} {d : Nat} {here : Addr} (h : Ctx H S root fs pr d here) : d + fs.length = 9 ∧ notEls pr = fs.length ∧ pr.length ≤ 2 * fs.length := by
  induction h with
  | nil => exact ⟨rfl, rfl, Nat.le_refl _⟩
  | lend _ _ _ _ ih => obtain ⟨a, b, c⟩ := ih; refine ⟨by rw [List.length_cons]; omega, by rw [els_pos (by decide), List.length_cons]; omega, by simp only [List.length_cons]; omega⟩
  | whl _ _ _ _ ih => obtain ⟨a, b, c⟩ := ih; refine ⟨by rw [List.length_cons]; omega, by rw [els_pos (by decide), List.length_cons]; omega, by simp only [List.length_cons]; omega⟩
  | inB _ _ _ _ _ ih => obtain ⟨a, b, c⟩ := ih; refine ⟨by rw [List.length_cons]; omega, by rw [els_neg, els_pos (by decide), List.length_cons]; omega, by simp only [List.length_cons]; omega⟩
  | inC _ _ _ _ _ ih => obtain ⟨a, b, c⟩ := ih; refine ⟨by rw [List.length_cons]; omega, by rw [els_pos (by decide), List.length_cons]; omega, by simp only [List.length_cons]; omega⟩
/-! what is built, in thought -/
structure BS where
  cur : List Stp
  stk : List Frm
  L : List Str
  left : Int
  lends : Int
def popB (st : BS) : BS := match st.stk with
  | [] => st
  | .lend x y up :: r => { st with cur := up ++ [.lend x y st.cur], stk := r, L := st.L ++ [("back" : Str)] }
  | .whl n up :: r => { st with cur := up ++ [.whl n st.cur], stk := r, L := st.L ++ [("done" : Str)] }
  | .inB n up :: r => { st with cur := [], stk := .inC n st.cur up :: r, L := st.L ++ [("else" : Str)] }
  | .inC n b up :: r => { st with cur := up ++ [.ite n b st.cur], stk := r, L := st.L ++ [("fi" : Str)] }
def preL : List Frm → Nat → List Str
  | [], _ => []
  | .lend x y up :: r, d => preL r (d + 1) ++ lnT (d + 2) up ++ [Txt.join " " ["lend", x, y]]
  | .whl n up :: r, d => preL r (d + 1) ++ lnT (d + 2) up ++ [Txt.join " " ["while", numT n]]
  | .inB n up :: r, d => preL r (d + 1) ++ lnT (d + 2) up ++ [Txt.join " " ["if", numT n]]
  | .inC n b up :: r, d => preL r (d + 1) ++ lnT (d + 2) up ++ [Txt.join " " ["if", numT n]] ++ lnT (d + 1) b ++ [("else" : Str)]
def okF : List Frm → Nat → Prop
  | [], _ => True
  | .lend x y up :: r, d => x.length ≤ 20 ∧ y.length ≤ 20 ∧ okT (d + 2) up ∧ okF r (d + 1)
  | .whl n up :: r, d => n.natAbs.log2 < 1920 ∧ okT (d + 2) up ∧ okF r (d + 1)
  | .inB n up :: r, d => n.natAbs.log2 < 1920 ∧ okT (d + 2) up ∧ okF r (d + 1)
  | .inC n b up :: r, d => n.natAbs.log2 < 1920 ∧ okT (d + 1) b ∧ okT (d + 2) up ∧ okF r (d + 1)
def upLen : Frm → Nat
  | .lend _ _ up => up.length
  | .whl _ up => up.length
  | .inB _ up => up.length
  | .inC _ _ up => up.length
structure BOk (st : BS) (d : Nat) : Prop where
  dep : d + st.stk.length = 9
  lines : st.L = preL st.stk d ++ lnT (d + 1) st.cur
  ok : okT (d + 1) st.cur
  okf : okF st.stk d
  size : st.cur.length + (st.stk.map upLen).sum ≤ st.L.length
/-! ### the heap of a program that is being built -/
def EntAt (H : Hp) (e : Addr) (q : Str × Addr) : Prop := H e = some (.tup [.str q.1, .ref q.2])
structure BInv (H0 H : Hp) (root lp pp here : Addr) (st : BS) (d : Nat) (pr : List (Str × Addr)) (S : Addr → Prop) (as es : List Addr) : Prop where
  ctx : Ctx H S root st.stk pr d here
  pile : H pp = some (.lst (es.map V.ref))
  ents : Paired (EntAt H) es pr.reverse
  cur : H here = some (.lst (as.map V.ref))
  steps : Paired (stpAt (ProgAt S d H) H) as st.cur
  lines : ∃ xs, H lp = some (.lst xs)
  nd : (here :: pr.map (·.2)).Nodup
  apart : ∀ a ∈ here :: pr.map (·.2), ¬ S a ∧ a ≠ lp ∧ a ≠ pp ∧ H0 a = none ∧ ∃ xs, H a = some (.lst xs)
  lpp : lp ≠ pp
  off : ¬ S lp ∧ ¬ S pp ∧ H0 lp = none ∧ H0 pp = none
  sin : ∀ b, S b → ∃ xs, H b = some (.lst xs)
  sm : Same H0 H
section
variable {H0 H H' : Hp} {root lp pp here : Addr} {st : BS} {d : Nat} {pr : List (Str × Addr)} {S : Addr → Prop} {as es : List Addr}
theorem BInv.fr (I : BInv H0 H root lp pp here st d pr S as es) (fr : ∀ b o, H b = some o → b ≠ here → b ≠ pp → b ≠ lp → H' b = some o) :
    (∀ b xs, H b = some (.tup xs) → H' b = some (.tup xs)) ∧ (∀ b xs, S b → H b = some (.lst xs) → H' b = some (.lst xs)) ∧ (∀ q ∈ pr, ∀ xs, H q.2 = some (.lst xs) → H' q.2 = some (.lst xs)) ∧ Same H0 H' := by
  have hh := I.apart here List.mem_cons_self
  refine ⟨fun b xs e => fr b _ e ?_ ?_ ?_, fun b xs hs e => fr b _ e ?_ ?_ ?_, fun q hq xs e => fr _ _ e ?_ ?_ ?_, fun b o e => fr b o (I.sm b o e) ?_ ?_ ?_⟩
  · rintro rfl; rw [I.cur] at e; cases e
  · rintro rfl; rw [I.pile] at e; cases e
  · rintro rfl; obtain ⟨_, z⟩ := I.lines; rw [z] at e; cases e
  · rintro rfl; exact hh.1 hs
  · rintro rfl; exact I.off.2.1 hs
  · rintro rfl; exact I.off.1 hs
  · intro z
    have := (List.nodup_cons.mp I.nd).1
    exact this (z ▸ List.mem_map_of_mem hq)
  · exact (I.apart _ (List.mem_cons_of_mem _ (List.mem_map_of_mem hq))).2.2.1
  · exact (I.apart _ (List.mem_cons_of_mem _ (List.mem_map_of_mem hq))).2.1
  · rintro rfl; rw [hh.2.2.2.1] at e; cases e
  · rintro rfl; rw [I.off.2.2.2] at e; cases e
  · rintro rfl; rw [I.off.2.2.1] at e; cases e
theorem BInv.new (I : BInv H0 H root lp pp here st d pr S as es) {a : Addr} (ha : H a = none) : a ≠ lp ∧ a ≠ pp ∧ ¬ S a ∧ H0 a = none ∧ a ∉ here :: pr.map (·.2) := by
  refine ⟨?_, ?_, fun z => ?_, I.sm.free ha, fun z => ?_⟩
  · rintro rfl; obtain ⟨_, z⟩ := I.lines; rw [z] at ha; cases ha
  · rintro rfl; rw [I.pile] at ha; cases ha
  · obtain ⟨xs, e⟩ := I.sin a z; rw [ha] at e; cases e
  · obtain ⟨_, _, _, _, xs, e⟩ := I.apart a z; rw [ha] at e; cases e
theorem BInv.alloc (I : BInv H0 H root lp pp here st d pr S as es) (sm : Same H H') : BInv H0 H' root lp pp here st d pr S as es :=
  ⟨I.ctx.imp (fun b xs e => sm _ _ e) (fun b xs _ e => sm _ _ e) (fun _ z => z) (fun q _ xs e => sm _ _ e), sm _ _ I.pile, Paired.imp' (fun e q z => sm _ _ z) I.ents, sm _ _ I.cur, Paired.imp' (fun a s z => z.imp (fun b xs e => sm _ _ e) fun q b y => y.mono sm) I.steps, (let ⟨_, z⟩ := I.lines; ⟨_, sm _ _ z⟩), I.nd,
    fun a ha => let ⟨z1, z2, z3, z4, xs, z5⟩ := I.apart a ha; ⟨z1, z2, z3, z4, xs, sm _ _ z5⟩, I.lpp, I.off, fun b hb => let ⟨xs, e⟩ := I.sin b hb; ⟨xs, sm _ _ e⟩, I.sm.trans sm⟩
theorem BInv.plain (I : BInv H0 H root lp pp here st d pr S as es) (fr : ∀ b o, H b = some o → b ≠ here → b ≠ pp → b ≠ lp → H' b = some o) {t : Addr} {ws : List Str} {L' : List Str} (hh : H' here = some (.lst ((as ++ [t]).map V.ref))) (ht : H' t = some (.tup (ws.map V.str)))
    (hl : ∃ xs, H' lp = some (.lst xs)) (hp : H' pp = some (.lst (es.map V.ref))) {lf ld : Int} : BInv H0 H' root lp pp here ⟨st.cur ++ [.plain ws], st.stk, L', lf, ld⟩ d pr S (as ++ [t]) es := by
  obtain ⟨f1, f2, f3, f4⟩ := I.fr fr
  refine ⟨I.ctx.imp f1 f2 (fun _ z => z) f3, hp, Paired.imp' (fun e q z => f1 _ _ z) I.ents, hh, paired_snoc (R := stpAt (ProgAt S d H') H') (show stpAt _ H' t (.plain ws) from ht) (Paired.imp' (fun a s z => stpAt.imp f1 (fun q b y => ProgAt.imp f1 f2 (fun _ z => z) d y) z) I.steps), hl, I.nd, fun a ha => ?_, I.lpp, I.off, fun b hb => let ⟨xs, e⟩ := I.sin b hb; ⟨xs, f2 _ _ hb e⟩, f4⟩
  obtain ⟨z1, z2, z3, z4, xs, z5⟩ := I.apart a ha
  refine ⟨z1, z2, z3, z4, ?_⟩
  rcases List.mem_cons.mp ha with rfl | ha
  · exact ⟨_, hh⟩
  · obtain ⟨q, hq, rfl⟩ := List.mem_map.mp ha
    exact ⟨xs, f3 q hq _ z5⟩
/-- one block is begun -/
theorem BInv.open1 (I : BInv H0 H root lp pp here st (d + 1) pr S as es) (fr : ∀ b o, H b = some o → b ≠ here → b ≠ pp → b ≠ lp → H' b = some o) {t e inner : Addr} {word : Str} {L' : List Str} {f : Frm} (hh : H' here = some (.lst ((as ++ [t]).map V.ref))) (hin : H inner = none) (hi : H' inner = some (.lst []))
    (hl : ∃ xs, H' lp = some (.lst xs)) (hp : H' pp = some (.lst ((es ++ [e]).map V.ref))) (he : H' e = some (.tup [.str word, .ref here]))
    (hc : Ctx H' S root st.stk pr (d + 1) here → Paired (stpAt (ProgAt S (d + 1) H') H') as st.cur → Ctx H' S root (f :: st.stk) ((word, here) :: pr) d inner) {lf ld : Int} :
    BInv H0 H' root lp pp inner ⟨[], f :: st.stk, L', lf, ld⟩ d ((word, here) :: pr) S [] (es ++ [e]) := by
  obtain ⟨f1, f2, f3, f4⟩ := I.fr fr
  obtain ⟨n1, n2, n3, n4, n5⟩ := I.new hin
  refine ⟨hc (I.ctx.imp f1 f2 (fun _ z => z) f3) (Paired.imp' (fun a s z => z.imp f1 fun q b y => y.imp f1 f2 (fun _ z => z) _) I.steps), hp, ?_, hi, .nil, hl, ?_, fun a ha => ?_, I.lpp, I.off, fun b hb => let ⟨xs, e⟩ := I.sin b hb; ⟨xs, f2 _ _ hb e⟩, f4⟩
  · rw [List.reverse_cons]
    exact paired_snoc (R := EntAt H') (show EntAt H' e (word, here) from he) (Paired.imp' (fun e q z => f1 _ _ z) I.ents)
  · rw [List.map_cons]
    exact List.nodup_cons.mpr ⟨n5, I.nd⟩
  · rw [List.map_cons] at ha
    rcases List.mem_cons.mp ha with rfl | ha
    · exact ⟨n3, n1, n2, n4, _, hi⟩
    obtain ⟨z1, z2, z3, z4, xs, z5⟩ := I.apart a ha
    refine ⟨z1, z2, z3, z4, ?_⟩
    rcases List.mem_cons.mp ha with rfl | ha
    · exact ⟨_, hh⟩
    · obtain ⟨q, hq, rfl⟩ := List.mem_map.mp ha
      exact ⟨xs, f3 q hq _ z5⟩
/-- an if is begun -/
theorem BInv.open2 (I : BInv H0 H root lp pp here st (d + 1) pr S as es) (fr : ∀ b o, H b = some o → b ≠ here → b ≠ pp → b ≠ lp → H' b = some o) {t e e2 inner oth : Addr} {L' : List Str} {n : Int} (hh : H' here = some (.lst ((as ++ [t]).map V.ref))) (hin : H inner = none) (hi : H' inner = some (.lst [])) (hon : H oth = none) (ho : H' oth = some (.lst [])) (hio : inner ≠ oth)
    (hl : ∃ xs, H' lp = some (.lst xs)) (hp : H' pp = some (.lst ((es ++ [e, e2]).map V.ref))) (he : H' e = some (.tup [.str "fi", .ref here])) (he2 : H' e2 = some (.tup [.str "else", .ref oth])) (ht : H' t = some (.tup [.str "if", .int n, .ref inner, .ref oth])) {lf ld : Int} :
    BInv H0 H' root lp pp inner ⟨[], .inB n st.cur :: st.stk, L', lf, ld⟩ d (("else", oth) :: ("fi", here) :: pr) S [] (es ++ [e, e2]) := by
  obtain ⟨f1, f2, f3, f4⟩ := I.fr fr
  obtain ⟨n1, n2, n3, n4, n5⟩ := I.new hin
  obtain ⟨m1, m2, m3, m4, m5⟩ := I.new hon
  refine ⟨.inB (by rw [hh, List.map_append]; rfl) (Paired.imp' (fun a s z => z.imp f1 fun q b y => y.imp f1 f2 (fun _ z => z) _) I.steps) ht ho (I.ctx.imp f1 f2 (fun _ z => z) f3), hp, ?_, hi, .nil, hl, ?_, fun a ha => ?_, I.lpp, I.off, fun b hb => let ⟨xs, e⟩ := I.sin b hb; ⟨xs, f2 _ _ hb e⟩, f4⟩
  · rw [List.reverse_cons, List.reverse_cons, show es ++ [e, e2] = (es ++ [e]) ++ [e2] by simp]
    exact paired_snoc (R := EntAt H') (show EntAt H' e2 ("else", oth) from he2) (paired_snoc (R := EntAt H') (show EntAt H' e ("fi", here) from he) (Paired.imp' (fun e q z => f1 _ _ z) I.ents))
  · rw [List.map_cons, List.map_cons]
    refine List.nodup_cons.mpr ⟨fun z => ?_, List.nodup_cons.mpr ⟨m5, I.nd⟩⟩
    rcases List.mem_cons.mp z with z | z
    · exact hio z
    · exact n5 z
  · rw [List.map_cons, List.map_cons] at ha
    rcases List.mem_cons.mp ha with rfl | ha
    · exact ⟨n3, n1, n2, n4, _, hi⟩
    rcases List.mem_cons.mp ha with rfl | ha
    · exact ⟨m3, m1, m2, m4, _, ho⟩
    obtain ⟨z1, z2, z3, z4, xs, z5⟩ := I.apart a ha
    refine ⟨z1, z2, z3, z4, ?_⟩
    rcases List.mem_cons.mp ha with rfl | ha
    · exact ⟨_, hh⟩
    · obtain ⟨q, hq, rfl⟩ := List.mem_map.mp ha
      exact ⟨xs, f3 q hq _ z5⟩
theorem paired_init {α β : Type} {R : α → β → Prop} {x : α} {y : β} : ∀ {xs : List α} {ys : List β}, Paired R (xs ++ [x]) (ys ++ [y]) → Paired R xs ys ∧ R x y
  | [], [], .cons h _ => ⟨.nil, h⟩
  | [], b :: ys, .cons h t => by have := paired_len t; simp at this
  | a :: xs, [], .cons h t => by have := paired_len t; simp at this
  | a :: xs, b :: ys, .cons h t => let ⟨z1, z2⟩ := paired_init t; ⟨.cons h z1, z2⟩
theorem BInv.pop {w : Str} {up e : Addr} {pr' : List (Str × Addr)} (I : BInv H0 H root lp pp here st d ((w, up) :: pr') S as (es ++ [e])) (fr : ∀ b o, H b = some o → b ≠ pp → b ≠ lp → H' b = some o) (hp : H' pp = some (.lst (es.map V.ref))) (hl : ∃ xs, H' lp = some (.lst xs)) :
    ∃ d' as', BInv H0 H' root lp pp up (popB st) d' pr' (fun b => S b ∨ b = here) as' es := by
  obtain ⟨f1, f2, f3, f4⟩ := I.fr fun b o e _ n1 n2 => fr b o e n1 n2
  have hh := I.apart here List.mem_cons_self
  have hcur : H' here = some (.lst (as.map V.ref)) := fr _ _ I.cur hh.2.2.1 hh.2.1
  have hS : ∀ b, S b → S b ∨ b = here := fun b z => .inl z
  have hents : Paired (EntAt H') es pr'.reverse := by
    have := I.ents
    rw [List.reverse_cons] at this
    exact Paired.imp' (fun e q z => f1 _ _ z) (paired_init this).1
  have hnd := I.nd
  rw [List.map_cons] at hnd
  have hnd2 := (List.nodup_cons.mp hnd).2
  have hnh := (List.nodup_cons.mp hnd).1
  have hap : ∀ a ∈ up :: pr'.map (·.2), ¬ (S a ∨ a = here) ∧ a ≠ lp ∧ a ≠ pp ∧ H0 a = none ∧ ∃ xs, H' a = some (.lst xs) := fun a ha => by
    obtain ⟨z1, z2, z3, z4, xs, z5⟩ := I.apart a (by rw [List.map_cons]; exact List.mem_cons_of_mem _ ha)
    refine ⟨fun z => z.elim z1 fun z => hnh (z ▸ ha), z2, z3, z4, xs, fr _ _ z5 z3 z2⟩
  have hoff : ¬ (S lp ∨ lp = here) ∧ ¬ (S pp ∨ pp = here) ∧ H0 lp = none ∧ H0 pp = none := ⟨fun z => z.elim I.off.1 fun z => hh.2.1 z.symm, fun z => z.elim I.off.2.1 fun z => hh.2.2.1 z.symm, I.off.2.2⟩
  have hsin : ∀ b, S b ∨ b = here → ∃ xs, H' b = some (.lst xs) := fun b z => by
    rcases z with z | rfl
    · obtain ⟨xs, e⟩ := I.sin b z; exact ⟨xs, f2 _ _ z e⟩
    · exact ⟨_, hcur⟩
  have hst : ∀ {d : Nat} {as : List Addr} {us : List Stp}, Paired (stpAt (ProgAt S d H) H) as us → Paired (stpAt (ProgAt (fun b => S b ∨ b = here) d H') H') as us := fun {d as us} h => Paired.imp' (fun a s z => stpAt.imp f1 (fun q b y => ProgAt.imp f1 f2 hS d y) z) h
  have hprog : ∀ d', d' = d → ProgAt (fun b => S b ∨ b = here) (d' + 1) H' here st.cur := fun d' e => by subst e; exact ⟨.inr rfl, as, hcur, hst I.steps⟩
  have f3' : ∀ q ∈ pr', ∀ xs, H q.2 = some (.lst xs) → H' q.2 = some (.lst xs) := fun q hq => f3 q (List.mem_cons_of_mem _ hq)
  have hup : ∀ xs, H up = some (.lst xs) → H' up = some (.lst xs) := fun xs => f3 (w, up) List.mem_cons_self xs
  have hctx := I.ctx
  have hsm := f4
  have hlpp := I.lpp
  clear I
  obtain ⟨cur, stk, L, left, lends⟩ := st
  dsimp only at hctx hl hprog
  cases hctx with
  | @lend x y us r _ _ _ _ t aus h1 h2 h3 h4 =>
    refine ⟨d + 1, aus ++ [t], ⟨h4.imp f1 f2 hS f3', hp, hents, by rw [hup _ h1, List.map_append]; rfl, ?_, hl, hnd2, hap, hlpp, hoff, hsin, hsm⟩⟩
    exact paired_snoc (R := stpAt (ProgAt (fun b => S b ∨ b = here) (d + 1) H') H') (x := t) (y := .lend x y cur) ⟨here, f1 _ _ h3, hprog d rfl⟩ (hst h2)
  | @whl n us r _ _ _ _ t aus h1 h2 h3 h4 =>
    refine ⟨d + 1, aus ++ [t], ⟨h4.imp f1 f2 hS f3', hp, hents, by rw [hup _ h1, List.map_append]; rfl, ?_, hl, hnd2, hap, hlpp, hoff, hsin, hsm⟩⟩
    exact paired_snoc (R := stpAt (ProgAt (fun b => S b ∨ b = here) (d + 1) H') H') (x := t) (y := .whl n cur) ⟨here, f1 _ _ h3, hprog d rfl⟩ (hst h2)
  | @inB n us r pr2 _ _ up2 t _ aus h1 h2 h3 h4 h5 =>
    refine ⟨d, [], ⟨.inC (f3' (_, up2) List.mem_cons_self _ h1) (hst h2) (f1 _ _ h3) (hprog d rfl) (h5.imp f1 f2 hS fun q hq => f3' q (List.mem_cons_of_mem _ hq)), hp, hents, hup _ h4, .nil, hl, hnd2, hap, hlpp, hoff, hsin, hsm⟩⟩
  | @inC n b us r _ _ _ _ t bq aus h1 h2 h3 h4 h5 =>
    refine ⟨d + 1, aus ++ [t], ⟨h5.imp f1 f2 hS f3', hp, hents, by rw [hup _ h1, List.map_append]; rfl, ?_, hl, hnd2, hap, hlpp, hoff, hsin, hsm⟩⟩
    exact paired_snoc (R := stpAt (ProgAt (fun b => S b ∨ b = here) (d + 1) H') H') (x := t) (y := .ite n b cur) ⟨bq, here, f1 _ _ h3, h4.imp f1 f2 hS _, hprog d rfl⟩ (hst h2)
theorem BInv.side (I : BInv H0 H root lp pp here st d pr S as es) (zs : List V) : BInv H0 (upd H lp (.lst zs)) root lp pp here st d pr S as es := by
  obtain ⟨_, hhl, hhp, _, _⟩ := I.apart here List.mem_cons_self
  have fr : ∀ b o, H b = some o → b ≠ lp → upd H lp (.lst zs) b = some o := fun b o e n => by rw [upd_ne n]; exact e
  obtain ⟨f1, f2, f3, f4⟩ := I.fr (H' := upd H lp (.lst zs)) fun b o e _ _ n => fr b o e n
  refine ⟨I.ctx.imp f1 f2 (fun _ z => z) f3, fr _ _ I.pile (Ne.symm I.lpp), Paired.imp' (fun e q z => f1 _ _ z) I.ents, fr _ _ I.cur hhl, Paired.imp' (fun a s z => stpAt.imp f1 (fun q b y => ProgAt.imp f1 f2 (fun _ z => z) d y) z) I.steps, ⟨_, upd_same⟩, I.nd, fun a ha => ?_, I.lpp, I.off, fun b hb => let ⟨xs, e⟩ := I.sin b hb; ⟨xs, f2 _ _ hb e⟩, f4⟩
  obtain ⟨z1, z2, z3, z4, xs, z5⟩ := I.apart a ha
  exact ⟨z1, z2, z3, z4, xs, fr _ _ z5 z2⟩
theorem BInv.relab (I : BInv H0 H root lp pp here st d pr S as es) (L' : List Str) (lf ld : Int) : BInv H0 H root lp pp here ⟨st.cur, st.stk, L', lf, ld⟩ d pr S as es := ⟨I.ctx, I.pile, I.ents, I.cur, I.steps, I.lines, I.nd, I.apart, I.lpp, I.off, I.sin, I.sm⟩
end
/-! ### drawn programs are programs -/
def gdS (nm : List Str) (f : List Stp → Prop) : Stp → Prop
  | .plain ws => PlainN ws ∧ (∀ x ∈ ws.drop 1, wordS x = true) ∧ ∀ x ∈ hdN (.plain ws), x ∈ nm
  | .lend x y b => x ∈ nm ∧ y ∈ nm ∧ wordS x = true ∧ wordS y = true ∧ f b
  | .ite n b c => boundV (.int n) = true ∧ f b ∧ f c
  | .whl n b => boundV (.int n) = true ∧ f b
def gdT (nm : List Str) : Nat → List Stp → Prop
  | 0, _ => False
  | 1, T => T = []
  | d + 2, T => ∀ s ∈ T, gdS nm (gdT nm (d + 1)) s
def wt (a i v p : Nat) : Stp → Nat
  | .plain _ => p
  | .lend _ _ _ => a
  | .ite _ _ _ => i
  | .whl _ _ => v
def cW (g : Stp → Nat) (D : Nat) (T : List Stp) : Nat := ((preT D T).map g).sum
theorem cW_nil (g : Stp → Nat) (d : Nat) : cW g (d + 1) [] = 0 := rfl
theorem cW_fm (g : Stp → Nat) (d : Nat) : ∀ bs : List (List Stp), ((bs.flatMap (preT d)).map g).sum = (bs.map (cW g d)).sum
  | [] => rfl
  | b :: bs => by rw [List.flatMap_cons, List.map_append, List.sum_append_nat, cW_fm g d bs, List.map_cons, List.sum_cons]; rfl
theorem cW_cons (g : Stp → Nat) (d : Nat) (s : Stp) (T : List Stp) : cW g (d + 1) (s :: T) = (g s + ((blk s).map (cW g d)).sum) + cW g (d + 1) T := by
  show (((s :: T).flatMap (preS (preT d))).map g).sum = _
  rw [List.flatMap_cons, List.map_append, List.sum_append_nat]
  show (((preS (preT d)) s).map g).sum + _ = _
  unfold preS
  rw [List.map_cons, List.sum_cons, cW_fm]; rfl
theorem cW_app (g : Stp → Nat) (d : Nat) : ∀ (T : List Stp) (s : Stp), cW g (d + 1) (T ++ [s]) = cW g (d + 1) T + (g s + ((blk s).map (cW g d)).sum)
  | [], s => by rw [List.nil_append, cW_cons, cW_nil]; omega
  | t :: T, s => by rw [List.cons_append, cW_cons, cW_cons, cW_app g d T s]; omega
theorem cW_app2 (g : Stp → Nat) (d : Nat) (T : List Stp) (s : Stp) : cW g (d + 2) (T ++ [s]) = cW g (d + 2) T + (g s + ((blk s).map (cW g (d + 1))).sum) := cW_app g (d + 1) T s
def wtF (a i v p : Nat) : List Frm → Nat → Nat
  | [], _ => 0
  | .lend _ _ up :: r, d => a + cW (wt a i v p) (d + 2) up + wtF a i v p r (d + 1)
  | .whl _ up :: r, d => v + cW (wt a i v p) (d + 2) up + wtF a i v p r (d + 1)
  | .inB _ up :: r, d => i + cW (wt a i v p) (d + 2) up + wtF a i v p r (d + 1)
  | .inC _ b up :: r, d => i + cW (wt a i v p) (d + 1) b + cW (wt a i v p) (d + 2) up + wtF a i v p r (d + 1)
def gdF (nm : List Str) : List Frm → Nat → Prop
  | [], _ => True
  | .lend x y up :: r, d => (x ∈ nm ∧ y ∈ nm ∧ wordS x = true ∧ wordS y = true) ∧ gdT nm (d + 2) up ∧ gdF nm r (d + 1)
  | .whl n up :: r, d => boundV (.int n) = true ∧ gdT nm (d + 2) up ∧ gdF nm r (d + 1)
  | .inB n up :: r, d => boundV (.int n) = true ∧ gdT nm (d + 2) up ∧ gdF nm r (d + 1)
  | .inC n b up :: r, d => boundV (.int n) = true ∧ gdT nm (d + 1) b ∧ gdT nm (d + 2) up ∧ gdF nm r (d + 1)
def totW (a i v p : Nat) (st : BS) (d : Nat) : Nat := cW (wt a i v p) (d + 1) st.cur + wtF a i v p st.stk d
structure GOk (nm : List Str) (st : BS) (d : Nat) : Prop where
  dep : d + st.stk.length = 9
  low : 1 ≤ d
  good : gdT nm (d + 1) st.cur
  goodf : gdF nm st.stk d
  ln : st.left + (totW 2 3 2 1 st d : Nat) ≤ 60
  l0 : 0 ≤ st.left
  ld : st.lends + (totW 1 0 0 0 st d : Nat) ≤ 3
  d0 : 0 ≤ st.lends
theorem popB_ll (st : BS) : (popB st).left = st.left ∧ (popB st).lends = st.lends := by
  obtain ⟨cur, stk, L, left, lends⟩ := st
  cases stk with
  | nil => exact ⟨rfl, rfl⟩
  | cons f r => cases f <;> exact ⟨rfl, rfl⟩
def pileLen : List Frm → Nat
  | [] => 0
  | .inB _ _ :: r => pileLen r + 2
  | _ :: r => pileLen r + 1
def popN : Nat → BS → BS
  | 0, st => st
  | n + 1, st => popB (popN n st)
theorem popN_succ (st : BS) : ∀ n, popN (n + 1) st = popN n (popB st)
  | 0 => rfl
  | n + 1 => by show popB (popN (n + 1) st) = popB (popN n (popB st)); rw [popN_succ st n]
theorem Ctx.pile {H : Hp} {S : Addr → Prop} {root : Addr} {fs : List Frm} {pr : List (Str × Addr)} {d : Nat} {here : Addr} (h : Ctx H S root fs pr d here) : pr.length = pileLen fs := by
  induction h with
  | nil => rfl
  | lend _ _ _ _ ih => rw [List.length_cons, ih]; rfl
  | whl _ _ _ _ ih => rw [List.length_cons, ih]; rfl
  | inB _ _ _ _ _ ih => rw [List.length_cons, List.length_cons, ih]; rfl
  | inC _ _ _ _ _ ih => rw [List.length_cons, ih]; rfl
theorem gd_app {nm : List Str} {d : Nat} {T : List Stp} {s : Stp} (h : gdT nm (d + 2) T) (hs : gdS nm (gdT nm (d + 1)) s) : gdT nm (d + 2) (T ++ [s]) := fun u hu => (List.mem_append.mp hu).elim (h u) (fun z => by rw [List.mem_singleton.mp z]; exact hs)
theorem gd_nil (nm : List Str) : ∀ d : Nat, gdT nm (d + 1) []
  | 0 => rfl
  | _ + 1 => fun s hs => by cases hs
theorem popB_tot (a i v p : Nat) {st : BS} {d : Nat} : ∃ d', d' + (popB st).stk.length = d + st.stk.length ∧ d ≤ d' ∧ totW a i v p (popB st) d' = totW a i v p st d := by
  obtain ⟨cur, stk, L, left, lends⟩ := st
  cases stk with
  | nil => exact ⟨d, rfl, Nat.le_refl _, rfl⟩
  | cons f r =>
    cases f with
    | lend x y up =>
      refine ⟨d + 1, by show d + 1 + r.length = d + (r.length + 1); omega, by omega, ?_⟩
      show cW _ (d + 2) (up ++ [.lend x y cur]) + wtF a i v p r (d + 1) = cW _ (d + 1) cur + (a + cW _ (d + 2) up + wtF a i v p r (d + 1))
      rw [cW_app2]
      show cW _ (d + 2) up + (a + (cW _ (d + 1) cur + 0)) + _ = _
      omega
    | whl n up =>
      refine ⟨d + 1, by show d + 1 + r.length = d + (r.length + 1); omega, by omega, ?_⟩
      show cW _ (d + 2) (up ++ [.whl n cur]) + wtF a i v p r (d + 1) = cW _ (d + 1) cur + (v + cW _ (d + 2) up + wtF a i v p r (d + 1))
      rw [cW_app2]
      show cW _ (d + 2) up + (v + (cW _ (d + 1) cur + 0)) + _ = _
      omega
    | inB n up =>
      refine ⟨d, rfl, Nat.le_refl _, ?_⟩
      show cW _ (d + 1) [] + (i + cW _ (d + 1) cur + cW _ (d + 2) up + wtF a i v p r (d + 1)) = cW _ (d + 1) cur + (i + cW _ (d + 2) up + wtF a i v p r (d + 1))
      rw [cW_nil]; omega
    | inC n b up =>
      refine ⟨d + 1, by show d + 1 + r.length = d + (r.length + 1); omega, by omega, ?_⟩
      show cW _ (d + 2) (up ++ [.ite n b cur]) + wtF a i v p r (d + 1) = cW _ (d + 1) cur + (i + cW _ (d + 1) b + cW _ (d + 2) up + wtF a i v p r (d + 1))
      rw [cW_app2]
      show cW _ (d + 2) up + (i + (cW _ (d + 1) b + (cW _ (d + 1) cur + 0))) + _ = _
      omega
theorem popB_gd {nm : List Str} {st : BS} {d d' : Nat} (hd : d' + (popB st).stk.length = d + st.stk.length) (low : 1 ≤ d) (h2 : gdT nm (d + 1) st.cur) (h3 : gdF nm st.stk d) : gdT nm (d' + 1) (popB st).cur ∧ gdF nm (popB st).stk d' := by
  obtain ⟨cur, stk, L, left, lends⟩ := st
  dsimp only at h2 h3
  cases stk with
  | nil => have : d' = d := by simpa [popB] using hd
           subst this; exact ⟨h2, h3⟩
  | cons f r =>
    cases f with
    | lend x y up =>
      have : d' = d + 1 := by simp [popB] at hd; omega
      subst this
      obtain ⟨⟨k1, k2, k3, k4⟩, k5, k6⟩ := h3
      exact ⟨gd_app (s := .lend x y cur) k5 ⟨k1, k2, k3, k4, h2⟩, k6⟩
    | whl n up =>
      have : d' = d + 1 := by simp [popB] at hd; omega
      subst this
      obtain ⟨k1, k5, k6⟩ := h3
      exact ⟨gd_app (s := .whl n cur) k5 ⟨k1, h2⟩, k6⟩
    | inB n up =>
      have : d' = d := by simpa [popB] using hd
      subst this
      obtain ⟨k1, k5, k6⟩ := h3
      exact ⟨gd_nil nm _, k1, h2, k5, k6⟩
    | inC n b up =>
      have : d' = d + 1 := by simp [popB] at hd; omega
      subst this
      obtain ⟨k1, k2, k5, k6⟩ := h3
      exact ⟨gd_app (s := .ite n b cur) k5 ⟨k1, k2, h2⟩, k6⟩
theorem popB_gok {nm : List Str} {st : BS} {d : Nat} (h : GOk nm st d) : ∃ d', GOk nm (popB st) d' := by
  obtain ⟨d', e1, e2, e3⟩ := popB_tot 2 3 2 1 (st := st) (d := d)
  obtain ⟨d2, f1, f2, f3⟩ := popB_tot 1 0 0 0 (st := st) (d := d)
  have : d2 = d' := by omega
  subst this
  obtain ⟨g1, g2⟩ := popB_gd (nm := nm) e1 h.low h.good h.goodf
  obtain ⟨l1, l2⟩ := popB_ll st
  have hd := h.dep
  have h1 := h.ln
  have h2 := h.l0
  have h3 := h.ld
  have h4 := h.d0
  have h5 := h.low
  exact ⟨d2, by omega, by omega, g1, g2, by rw [l1, e3]; exact h1, by rw [l1]; exact h2, by rw [l2, f3]; exact h3, by rw [l2]; exact h4⟩
theorem popN_gok {nm : List Str} : ∀ (n : Nat) (st : BS), (∃ d, GOk nm st d) → ∃ d, GOk nm (popN n st) d
  | 0, _, h => h
  | n + 1, st, h => by obtain ⟨d, z⟩ := popN_gok n st h; exact popB_gok z
theorem ln_wt : lnS = wt 2 3 2 1 := funext fun s => by cases s <;> rfl
theorem ld_wt : ldS = wt 1 0 0 0 := funext fun s => by cases s <;> rfl
structure Good (nm : List Str) (T : List Stp) : Prop where
  gd : gdT nm 10 T
  ln : lnC 10 T ≤ 60
  ld : ldC 10 T ≤ 3
theorem gok_good {nm : List Str} {st : BS} (h : ∃ d, GOk nm st d) (e : st.stk = []) : Good nm st.cur := by
  obtain ⟨d, h⟩ := h
  have h1 := h.dep
  rw [e] at h1
  have : d = 9 := by simpa using h1
  subst this
  have hl : st.left + ((cW (wt 2 3 2 1) 10 st.cur + wtF 2 3 2 1 st.stk 9 : Nat) : Int) ≤ 60 := h.ln
  have hd : st.lends + ((cW (wt 1 0 0 0) 10 st.cur + wtF 1 0 0 0 st.stk 9 : Nat) : Int) ≤ 3 := h.ld
  have l0 := h.l0
  have d0 := h.d0
  rw [e] at hl hd
  refine ⟨h.good, ?_, ?_⟩
  · show cW lnS 10 _ ≤ 60
    rw [ln_wt]
    have : wtF 2 3 2 1 [] 9 = 0 := rfl
    rw [this] at hl; omega
  · show cW ldS 10 _ ≤ 3
    rw [ld_wt]
    have : wtF 1 0 0 0 [] 9 = 0 := rfl
    rw [this] at hd; omega
/-- a block is begun -/
theorem gok_open {nm : List Str} {st : BS} {d : Nat} {f : Frm} {lf ld : Int} (h : GOk nm st (d + 1)) (hd : 1 ≤ d) (hf : gdF nm (f :: st.stk) d) (w1 : lf + (wtF 2 3 2 1 (f :: st.stk) d : Nat) ≤ 60) (l0 : 0 ≤ lf) (w2 : ld + (wtF 1 0 0 0 (f :: st.stk) d : Nat) ≤ 3) (d0 : 0 ≤ ld) : GOk nm ⟨[], f :: st.stk, st.L, lf, ld⟩ d := by
  have h1 := h.dep
  refine ⟨by show d + (st.stk.length + 1) = 9; omega, hd, gd_nil nm _, hf, ?_, l0, ?_, d0⟩
  · show lf + ((0 + wtF 2 3 2 1 (f :: st.stk) d : Nat) : Int) ≤ 60; omega
  · show ld + ((0 + wtF 1 0 0 0 (f :: st.stk) d : Nat) : Int) ≤ 3; omega
theorem gok_plain {nm : List Str} {st : BS} {d : Nat} {ws : List Str} (h : GOk nm st d) (hw : gdS nm (fun _ => True) (.plain ws)) (hl : 0 < st.left) : GOk nm ⟨st.cur ++ [.plain ws], st.stk, st.L, st.left - 1, st.lends⟩ d := by
  obtain ⟨d', rfl⟩ : ∃ d', d = d' + 1 := ⟨d - 1, by have := h.low; omega⟩
  obtain ⟨cur, stk, L, left, lends⟩ := st
  obtain ⟨e1, e2, e3, e4, e5, e6, e7, e8⟩ := h
  dsimp only at e1 e3 e4 e5 e6 e7 e8 hl
  have t1 : totW 2 3 2 1 ⟨cur, stk, L, left, lends⟩ (d' + 1) = cW (wt 2 3 2 1) (d' + 2) cur + wtF 2 3 2 1 stk (d' + 1) := rfl
  have t2 : totW 1 0 0 0 ⟨cur, stk, L, left, lends⟩ (d' + 1) = cW (wt 1 0 0 0) (d' + 2) cur + wtF 1 0 0 0 stk (d' + 1) := rfl
  rw [t1] at e5
  rw [t2] at e7
  refine ⟨e1, e2, gd_app (s := .plain ws) e3 hw, e4, ?_, ?_, ?_, e8⟩
  · show (left - 1) + ((cW (wt 2 3 2 1) (d' + 2) (cur ++ [.plain ws]) + wtF 2 3 2 1 stk (d' + 1) : Nat) : Int) ≤ 60
    rw [cW_app2]
    show (left - 1) + ((cW (wt 2 3 2 1) (d' + 2) cur + (1 + 0) + _ : Nat) : Int) ≤ 60
    omega
  · show 0 ≤ left - 1; omega
  · show lends + ((cW (wt 1 0 0 0) (d' + 2) (cur ++ [.plain ws]) + wtF 1 0 0 0 stk (d' + 1) : Nat) : Int) ≤ 3
    rw [cW_app2]
    show lends + ((cW (wt 1 0 0 0) (d' + 2) cur + (0 + 0) + _ : Nat) : Int) ≤ 3
    omega
theorem ln_mem (d : Nat) : ∀ {T : List Stp} {s : Stp}, s ∈ T → lnS s + ((blk s).map (lnC d)).sum ≤ lnC (d + 1) T
  | t :: T, s, h => by
    have e : lnC (d + 1) (t :: T) = _ := cW_cons lnS d t T
    rw [e]
    rcases List.mem_cons.mp h with rfl | h
    · show lnS s + ((blk s).map (cW lnS d)).sum ≤ _; omega
    · have := ln_mem d h
      have e2 : lnC (d + 1) T = cW lnS (d + 1) T := rfl
      omega
theorem ln_ge (d : Nat) : ∀ T : List Stp, T.length ≤ lnC (d + 1) T
  | [] => Nat.zero_le _
  | t :: T => by
    have e : lnC (d + 1) (t :: T) = _ := cW_cons lnS d t T
    have := ln_ge d T
    have e2 : lnC (d + 1) T = cW lnS (d + 1) T := rfl
    have : 1 ≤ lnS t := by cases t <;> simp [lnS]
    rw [e, List.length_cons]; omega
theorem gd_sz {nm : List Str} : ∀ (D : Nat) {T : List Stp}, gdT nm D T → lnC D T ≤ 60 → szT D T
  | 0, _, h, _ => h.elim
  | 1, T, h, _ => by
    have h' : T = [] := h
    subst h'
    exact ⟨by decide, fun s hs => by cases hs⟩
  | D + 2, T, h, hl => by
    have hg : T.length ≤ lnC (D + 2) T := ln_ge (D + 1) T
    refine ⟨by omega, fun s hs => ?_⟩
    have hm : lnS s + ((blk s).map (lnC (D + 1))).sum ≤ lnC (D + 2) T := ln_mem (D + 1) hs
    have g := h s hs
    cases s with
    | plain ws =>
      refine ⟨g.1, fun y hy => ?_⟩
      obtain ⟨g1, g2, _⟩ := g
      have one : ∀ (k : Str) (us : List Str), ws = k :: us → k.length ≤ 20 → y.length ≤ 20 := fun k us e hk => by
        rw [e] at hy g2
        rcases List.mem_cons.mp hy with rfl | z
        · exact hk
        · have := word_len (g2 y z); omega
      cases g1 with
      | opn x => exact one _ _ rfl (by decide)
      | drp x => exact one _ _ rfl (by decide)
      | cpy x y => exact one _ _ rfl (by decide)
      | tie x y => exact one _ _ rfl (by decide)
      | doo u x => exact one _ _ rfl (by decide)
    | lend x y b =>
      obtain ⟨_, _, w1, w2, gb⟩ := g
      have : lnC (D + 1) b ≤ 60 := by simp [blk] at hm; omega
      exact ⟨by have := word_len w1; omega, by have := word_len w2; omega, gd_sz (D + 1) gb this⟩
    | ite n b c =>
      obtain ⟨_, gb, gc⟩ := g
      have h1 : lnC (D + 1) b ≤ 60 := by simp [blk] at hm; omega
      have h2 : lnC (D + 1) c ≤ 60 := by simp [blk] at hm; omega
      exact ⟨gd_sz (D + 1) gb h1, gd_sz (D + 1) gc h2⟩
    | whl n b =>
      obtain ⟨_, gb⟩ := g
      have : lnC (D + 1) b ≤ 60 := by simp [blk] at hm; omega
      exact gd_sz (D + 1) gb this
theorem gd_ok {nm : List Str} : ∀ (D ar : Nat) {T : List Stp}, D + ar = 10 → gdT nm D T → okG D ar T = true
  | 0, _, _, _, h => h.elim
  | 1, ar, T, _, h => by
    have h' : T = [] := h
    subst h'; rfl
  | D + 2, ar, T, hd, h => by
    show (T.all fun s => decide (ar ≤ 8) && likeH s && (blk s).all (okG (D + 1) (ar + 1))) = true
    rw [List.all_eq_true]
    intro s hs
    have g := h s hs
    have rcb : ∀ b, gdT nm (D + 1) b → okG (D + 1) (ar + 1) b = true := fun b hb => gd_ok (D + 1) (ar + 1) (by omega) hb
    rw [decide_eq_true (show ar ≤ 8 by omega), Bool.true_and]
    cases s with
    | plain ws =>
      show ((ws.drop 1).all wordS && true) = true
      rw [Bool.and_true, List.all_eq_true]; exact g.2.1
    | lend x y b =>
      obtain ⟨_, _, w1, w2, gb⟩ := g
      simp [likeH, blk, w1, w2, rcb b gb]
    | ite n b c =>
      obtain ⟨k, gb, gc⟩ := g
      simp [likeH, blk, k, rcb b gb, rcb c gc]
    | whl n b =>
      obtain ⟨k, gb⟩ := g
      simp [likeH, blk, k, rcb b gb]
theorem gd_nm {nm : List Str} : ∀ (D : Nat) {T : List Stp}, gdT nm D T → ∀ x ∈ nmC D T, x ∈ nm
  | 0, _, h => h.elim
  | 1, T, h => by
    have h' : T = [] := h
    subst h'
    intro x hx; cases hx
  | D + 2, T, h => fun x hx => by
    obtain ⟨t, ht, hx⟩ := List.mem_flatMap.mp hx
    obtain ⟨s, hs, ht⟩ := List.mem_flatMap.mp ht
    have g := h s hs
    rcases List.mem_cons.mp ht with rfl | ht
    · cases t with
      | plain ws => exact g.2.2 x hx
      | lend u v b =>
        have e : x = u ∨ x = v := by simpa [hdN] using hx
        rcases e with e | e <;> rw [e]
        · exact g.1
        · exact g.2.1
      | ite n b c => cases hx
      | whl n b => cases hx
    · obtain ⟨b, hb, ht⟩ := List.mem_flatMap.mp ht
      refine gd_nm (D + 1) (T := b) ?_ x (List.mem_flatMap.mpr ⟨t, ht, hx⟩)
      cases s with
      | plain ws => cases hb
      | lend u v c => rw [List.mem_singleton.mp hb]; exact g.2.2.2.2
      | ite n c e =>
        have z : b = c ∨ b = e := by simpa [blk] using hb
        rcases z with z | z <;> rw [z]
        · exact g.2.1
        · exact g.2.2
      | whl n c => rw [List.mem_singleton.mp hb]; exact g.2
theorem good_prog {nm : List Str} (n4 : nm.length ≤ 4) {T : List Stp} (h : Good nm T) : szT 10 T ∧ progB 10 T = true := by
  have hz := gd_sz 10 h.gd h.ln
  refine ⟨hz, ?_⟩
  rw [progB_of hz, gd_ok 10 0 rfl h.gd, decide_eq_true h.ln, decide_eq_true h.ld, decide_eq_true (Nat.le_trans (ded_le (gd_nm 10 h.gd)) n4)]; rfl
section
variable {P : Program} {w : World} {K : PySem.W.Frag} {mg : Str → Option Value} {base : Heap}
theorem app_cps (x y : Str) : (x ++ y).cps.toList = x.cps.toList ++ y.cps.toList := by
  show (x.cps ++ y.cps).toList = _
  simp
theorem slice_mem {x : Str} {lo hi : Option Int} {P : Nat → Prop} (h : ∀ c ∈ x.cps.toList, P c) : ∀ c ∈ (Txt.slice x lo hi).cps.toList, P c := fun c hc => by
  rw [slice_cps] at hc
  exact h c (List.mem_of_mem_drop (List.mem_of_mem_take hc))
theorem sIx_int {n d : Nat} {z : Int} (h : 0 ≤ z) : HT.sIx n d (some z) = min z.toNat n := by
  have e := HT.sIx_nat n d z.toNat
  rwa [show ((z.toNat : Nat) : Int) = z by omega] at e
theorem slice_to_len {x : Str} {z : Int} (h0 : 0 ≤ z) (h : z ≤ x.length) : (Txt.slice x none (some z)).length = z.toNat := by
  have e := congrArg List.length (slice_cps x none (some z))
  have hn : x.cps.toList.length = x.length := by simp [Str.length]
  rw [List.length_take, List.length_drop, hn] at e
  have e2 : (Txt.slice x none (some z)).length = (Txt.slice x none (some z)).cps.toList.length := by simp [Str.length]
  rw [e2, e, sIx_int h0, HT.sIx_none, Nat.min_eq_left (show z.toNat ≤ x.length by omega), Nat.sub_zero, Nat.sub_zero, Nat.min_eq_left (show z.toNat ≤ x.length by omega)]
theorem word_of {y : Str} (h1 : 1 ≤ y.length) (h2 : y.length ≤ 8) (h3 : ∀ c ∈ y.cps.toList, c ∈ letters.cps.toList) : wordS y = true := by
  unfold wordS
  rw [decide_eq_true ⟨h1, h2⟩, Bool.true_and, List.all_eq_true]
  exact fun c hc => decide_eq_true (h3 c hc)
theorem slice_from_len {x : Str} {y : Int} (h0 : 0 ≤ y) (h : y ≤ x.length) : (Txt.slice x (some y) none).length = x.length - y.toNat := by
  have e := congrArg List.length (slice_cps x (some y) none)
  have hn : x.cps.toList.length = x.length := by simp [Str.length]
  rw [List.length_take, List.length_drop, hn] at e
  have e2 : (Txt.slice x (some y) none).length = (Txt.slice x (some y) none).cps.toList.length := by simp [Str.length]
  rw [e2, e, sIx_int h0, HT.sIx_none]; omega
def spNames24 : Sp := fun vs H Q _ => ∃ c : Int, vs = [.int c] ∧ ∀ (L : Addr) (H' : Hp) (ns : List Str), Same H H' → H L = none → H' L = some (.lst (ns.map V.str)) → ns.length = 4 → (∀ x ∈ ns, wordS x = true) → Q (.ref L) H'
theorem ok_names (D : DefAt K mg "_law_names" s_law_names) (z_range : mg "range" = none) : Cal P w K mg base 1 "_law_names" ["_law_cell"] spNames24 := by
  refine D.cal sc_law_names (fun _ _ _ _ _ _ us hl => match us, hl with | [_], _ => rfl) (fun vs H Q E h => by obtain ⟨c, rfl, _⟩ := h; rfl) (fun f cdv A outer s H vs Q E hr h => ?_)
  obtain ⟨c, rfl, q⟩ := h
  refine ⟨_, (pss_cons (ps_let 1 sc_law_names.nd pe_str (hx := l_law_names__law_letters))
      (pss_cons (ps_let 2 sc_law_names.nd (pe_op op_addA pe_int (pe_op op_mod (pv 0 (hv := v_law_names__law_cell)) pe_int)) (hx := l_law_names__law_size))
      (pss_cons (ps_let 3 sc_law_names.nd (pe_bmK K PySem.F.plainAttrs_str PySem.F.slot_str_join PySem.F.type_str_join (mt_joinK K) pe_str (pa_cons (pe_comp (CompSc.to (fsc := (defScope s_law_names)) (N := ["_law_cell", "_law_letters", "_law_size", "_law_base", "_law_at"]) (N0 := ["_law_cell", "_law_letters", "_law_size", "_law_base", "_law_at"]) (T := ["_law_k"]) ⟨by decide +kernel, by decide +kernel, by decide +kernel, by decide +kernel, by decide +kernel, by decide +kernel, by decide +kernel⟩ rfl rfl) rfl (pi_range1 gl_law_names_range z_range (pa_cons (pv 2 (hv := v_law_names__law_size)) pa_nil)) (fun _ _ _ _ => (pg_let 5 (show (["_law_cell", "_law_letters", "_law_size", "_law_base", "_law_at", "_law_k"] : List Str).Nodup from by decide +kernel) (hx := (locC (defScope s_law_names) (by decide +kernel))) (hf := fnC (defScope s_law_names) (by decide +kernel)))) (gfr_name (show (["_law_cell", "_law_letters", "_law_size", "_law_base", "_law_at"] : List Str).length ≤ 5 from by decide)) (fun _ _ _ _ => pifs_nil) (fun _ _ _ _ => (pe_ix (ix_K K) (pv 1 (hv := (visC (defScope s_law_names) (by decide +kernel)))) (pe_op op_mod (pe_op op_addA (pe_op op_fdiv (pv 0 (hv := (visC (defScope s_law_names) (by decide +kernel)))) (pe_op op_addA (pv 5 (hv := (visC (defScope s_law_names) (by decide +kernel)))) pe_int)) (pe_op op_mulB (pe_op op_mulB (pv 5 (hv := (visC (defScope s_law_names) (by decide +kernel)))) (pv 5 (hv := (visC (defScope s_law_names) (by decide +kernel))))) (pv 0 (hv := (visC (defScope s_law_names) (by decide +kernel)))))) pe_int) (fun _ _ => rfl)))) pa_nil)) (hx := l_law_names__law_base))
      (pss_cons (ps_let 4 sc_law_names.nd (pe_op op_mod (pe_op op_fdiv (pv 0 (hv := v_law_names__law_cell)) pe_int) (pv 2 (hv := v_law_names__law_size))) (hx := l_law_names__law_at))
      (pss_one (ps_ret (pe_comp (CompSc.to (fsc := (defScope s_law_names)) (N := ["_law_cell", "_law_letters", "_law_size", "_law_base", "_law_at"]) (N0 := ["_law_cell", "_law_letters", "_law_size", "_law_base", "_law_at"]) (T := ["_law_k"]) ⟨by decide +kernel, by decide +kernel, by decide +kernel, by decide +kernel, by decide +kernel, by decide +kernel, by decide +kernel⟩ rfl rfl) rfl (pi_range1 gl_law_names_range z_range (pa_cons pe_int pa_nil)) (fun _ _ _ _ => (pg_let 5 (show (["_law_cell", "_law_letters", "_law_size", "_law_base", "_law_at", "_law_k"] : List Str).Nodup from by decide +kernel) (hx := (locC (defScope s_law_names) (by decide +kernel))) (hf := fnC (defScope s_law_names) (by decide +kernel)))) (gfr_name (show (["_law_cell", "_law_letters", "_law_size", "_law_base", "_law_at"] : List Str).length ≤ 5 from by decide)) (fun _ _ _ _ => pifs_nil) (fun _ _ _ _ => (pe_op op_addA (pe_op op_addA (pe_slice sl_str (pv 3 (hv := (visC (defScope s_law_names) (by decide +kernel)))) po_none (po_some (pv 4 (hv := (visC (defScope s_law_names) (by decide +kernel)))))) (pe_ix (ix_K K) (pv 1 (hv := (visC (defScope s_law_names) (by decide +kernel)))) (pe_op op_mod (pe_op op_addA (pe_op op_fdiv (pv 0 (hv := (visC (defScope s_law_names) (by decide +kernel)))) pe_int) (pe_op op_mulB pe_int (pv 5 (hv := (visC (defScope s_law_names) (by decide +kernel)))))) pe_int) (fun _ _ => rfl))) (pe_slice sl_str (pv 3 (hv := (visC (defScope s_law_names) (by decide +kernel)))) (po_some (pe_op op_addA (pv 4 (hv := (visC (defScope s_law_names) (by decide +kernel)))) pe_int)) po_none)))))))))), ?_⟩
  walk_at "rd1"
  walk_at "nx"
  refine ⟨by decide, ?_⟩
  have s1 : 1 ≤ 1 + c % 8 := by omega
  have s8 : 1 + c % 8 ≤ 8 := by omega
  generalize 1 + c % 8 = sz at s1 s8
  walk_at "nx"
  refine ⟨by omega, by omega, fun C hC => ?_⟩
  refine compW_range (fun i ys H' => Same H H' ∧ H' C = some (.lst ys) ∧ ∃ cs : List Nat, ys = cs.map (fun c => V.str ⟨#[c]⟩) ∧ cs.length = i ∧ ∀ c ∈ cs, c ∈ letters.cps.toList) ⟨same_new hC _, upd_same, [], rfl, rfl, by simp⟩ ?_ ?_
  · rintro i ys H' hi ⟨sm, hl, cs, rfl, hn, hm⟩
    have hi8 : i < 8 := by omega
    walk_at "rd1"
    obtain ⟨c', z1, z2, z3⟩ := letter_at (c / (0 + (i : Int) + 2) + (0 + (i : Int)) * (0 + (i : Int)) * c)
    have h49 : (0 + (i : Int)) * (0 + (i : Int)) ≤ 49 := by
      have := Nat.mul_le_mul (show i ≤ 7 by omega) (show i ≤ 7 by omega)
      have e : (0 + (i : Int)) * (0 + (i : Int)) = ((i * i : Nat) : Int) := by rw [Int.zero_add]; push_cast; rfl
      rw [e]; omega
    have h0 : 0 ≤ (0 + (i : Int)) * (0 + (i : Int)) := Int.mul_nonneg (by omega) (by omega)
    refine ⟨⟨by omega, by omega⟩, .inl ⟨by omega, by omega⟩, .inl ⟨by omega, by omega⟩, by decide, c', z1, z2, ?_⟩
    refine cstep hi (by rw [List.length_map]; exact hn) (smallL (by omega)) hl ⟨sm.upd hC _, upd_same, cs ++ [c'], by rw [List.map_append]; rfl, by simp [hn], fun c hc => (List.mem_append.mp hc).elim (hm c) (fun z => by rw [List.mem_singleton.mp z]; exact z3)⟩
  · rintro ys H1 ⟨sm1, hl1, cs, rfl, hn, hm⟩
    have hn8 : (cs.length : Int) = sz := by omega
    walk_at "rd1"
    have hmm : cs.map (fun c => V.str ⟨#[c]⟩) = (cs.map fun c => (⟨#[c]⟩ : Str)).map V.str := by rw [List.map_map]; rfl
    rw [hmm] at hl1
    have h1l : (Str.ofString "").length = 0 := by decide
    refine ⟨_, SqL.of hl1, ?_, ?_⟩
    · rw [h1l]
      have := sum_len_le 1 (cs.map fun c => (⟨#[c]⟩ : Str)) (fun s hs => by obtain ⟨c, _, rfl⟩ := List.mem_map.mp hs; exact Nat.le_refl _)
      rw [List.length_map] at this ⊢
      omega
    have hbl : ((Txt.join "" (cs.map fun c => (⟨#[c]⟩ : Str))).length : Int) = sz := by rw [join_len]; exact hn8
    have hbm : ∀ c ∈ (Txt.join "" (cs.map fun c => (⟨#[c]⟩ : Str))).cps.toList, c ∈ letters.cps.toList := by rw [join_cps]; exact hm
    generalize Txt.join "" (cs.map fun c => (⟨#[c]⟩ : Str)) = bs at hbl hbm ⊢
    have bsz : bs.length ≤ sizeLine := smallL (by omega)
    walk_at "nx"
    refine ⟨⟨by decide, by decide⟩, by omega, ?_⟩
    have a0 : 0 ≤ c / 8 % sz := Int.emod_nonneg _ (by omega)
    have a1 : c / 8 % sz < sz := Int.emod_lt_of_pos _ (by omega)
    generalize c / 8 % sz = at9 at a0 a1
    walk_at "nx"
    refine ⟨by decide, by decide, fun fp hfp => ?_⟩
    have l1 : (Txt.slice bs none (some at9)).length = at9.toNat := slice_to_len a0 (by omega)
    have l2 : (Txt.slice bs (some (at9 + 1)) none).length = bs.length - (at9 + 1).toNat := slice_from_len (by omega) (by omega)
    refine compW_range (fun i ys H' => Same H1 H' ∧ H' fp = some (.lst ys) ∧ ∃ ss : List Str, ys = ss.map V.str ∧ ss.length = i ∧ ∀ x ∈ ss, wordS x = true) ⟨same_new hfp _, upd_same, [], rfl, rfl, by simp⟩ ?_ ?_
    · rintro i ys H' hi ⟨sm, hl, ss, rfl, hn', hb⟩
      have hi4 : i < 4 := hi
      walk_at "rd1"
      obtain ⟨c', z1, z2, z3⟩ := letter_at (c / 64 + 9 * (0 + (i : Int)))
      refine ⟨bsz, ⟨by decide, by decide⟩, .inl ⟨by decide, by decide⟩, by decide, c', z1, z2, ?_⟩
      have la : ((Txt.slice bs none (some at9)) ++ (⟨#[c']⟩ : Str)).length ≤ 9 := by rw [len_app1]; omega
      have lb : ((Txt.slice bs none (some at9)) ++ (⟨#[c']⟩ : Str) ++ Txt.slice bs (some (at9 + 1)) none).length ≤ 17 := by rw [Str.length_append]; omega
      walk_at "rd1"
      refine ⟨?_, bsz, ?_, ?_⟩
      · rw [Str.length_append] at la; exact smallL (by omega)
      · rw [Str.length_append] at lb; exact smallL (by omega)
      refine cstep hi (by rw [List.length_map]; exact hn') (smallL (by show 4 ≤ 1000000; decide)) hl ⟨sm.upd hfp _, upd_same, ss ++ [_], by rw [List.map_append]; rfl, by simp [hn'], fun x hx => ?_⟩
      rcases List.mem_append.mp hx with z | z
      · exact hb x z
      · rw [List.mem_singleton.mp z]
        refine word_of (by rw [Str.length_append, len_app1]; omega) (by rw [Str.length_append, len_app1]; omega) (fun c hc => ?_)
        rw [app_cps, app_cps] at hc
        rcases List.mem_append.mp hc with z | z
        · rcases List.mem_append.mp z with z | z
          · exact slice_mem hbm c z
          · rw [List.mem_singleton.mp z]; exact z3
        · exact slice_mem hbm c z
    · rintro ys H' ⟨sm, hl, ss, rfl, hn', hb⟩
      exact q fp H' ss (sm1.trans sm) (sm1.free hfp) hl hn' hb
def spStep24 : Sp := fun vs H Q _ => ∃ (c : Int) (x y : Str) (nm : List Str), vs = [.int c, .str x, .str y] ∧ x ∈ nm ∧ y ∈ nm ∧ (∀ u ∈ nm, wordS u = true) ∧ ∀ (t : Addr) (H' : Hp) (ws : List Str), Same H H' → H t = none → H' t = some (.tup (ws.map V.str)) → gdS nm (fun _ => True) (.plain ws) → Q (.ref t) H'
theorem ok_step (D : DefAt K mg "_law_step" s_law_step) : Cal P w K mg base 1 "_law_step" ["_law_cell", "_law_x", "_law_y"] spStep24 := by
  refine D.cal sc_law_step (fun _ _ _ _ _ _ us hl => match us, hl with | [_, _, _], _ => rfl) (fun vs H Q E h => by obtain ⟨c, x, y, nm, rfl, _⟩ := h; rfl) (fun f cdv A outer s H vs Q E hr h => ?_)
  obtain ⟨c, x, y, nm, rfl, hx, hy, hw, q⟩ := h
  have wx := hw x hx
  have wy := hw y hy
  have w1 : ∀ k : Str, ∀ u ∈ ([k, x] : List Str).drop 1, wordS u = true := fun k u hu => by
    have e : u = x := by simpa using hu
    rw [e]; exact wx
  have w2 : ∀ k v u : Str, wordS v = true → wordS u = true → ∀ z ∈ ([k, v, u] : List Str).drop 1, wordS z = true := fun k v u hv hu z hz => by
    have e : z = v ∨ z = u := by simpa using hz
    rcases e with e | e <;> rw [e] <;> assumption
  refine ⟨_, (pss_cons (ps_let 3 sc_law_step.nd (pe_op op_mod (pv 0 (hv := v_law_step__law_cell)) pe_int) (hx := l_law_step__law_kind))
      (pss_cons (ps_if (pt_cmpR op_ltA (pv 3 (hv := v_law_step__law_kind)) pe_int (nomark _)) (pss_one (ps_ret (pe_tup (pa_cons pe_str (pa_cons (pv 1 (hv := v_law_step__law_x)) pa_nil))))) pss_nil)
      (pss_cons (ps_if (pt_cmpR op_eqA (pv 3 (hv := v_law_step__law_kind)) pe_int (nomark _)) (pss_one (ps_ret (pe_tup (pa_cons pe_str (pa_cons (pv 1 (hv := v_law_step__law_x)) (pa_cons (pv 2 (hv := v_law_step__law_y)) pa_nil)))))) pss_nil)
      (pss_cons (ps_if (pt_cmpR op_eqA (pv 3 (hv := v_law_step__law_kind)) pe_int (nomark _)) (pss_one (ps_ret (pe_tup (pa_cons pe_str (pa_cons (pv 1 (hv := v_law_step__law_x)) pa_nil))))) pss_nil)
      (pss_cons (ps_if (pt_cmpR op_eqA (pv 3 (hv := v_law_step__law_kind)) pe_int (nomark _)) (pss_one (ps_ret (pe_tup (pa_cons pe_str (pa_cons (pv 1 (hv := v_law_step__law_x)) (pa_cons (pv 2 (hv := v_law_step__law_y)) pa_nil)))))) pss_nil)
      (pss_one (ps_ret (pe_tup (pa_cons pe_str (pa_cons (pe_ix (ix_K K) (pe_lst (pa_cons pe_str (pa_cons pe_str (pa_cons pe_str (pa_cons pe_str (pa_cons (pv 2 (hv := v_law_step__law_y)) (pa_cons (pv 1 (hv := v_law_step__law_x)) pa_nil))))))) (pe_op op_mod (pe_op op_fdiv (pv 0 (hv := v_law_step__law_cell)) pe_int) pe_int) (fun _ _ => rfl)) (pa_cons (pv 1 (hv := v_law_step__law_x)) pa_nil))))))))))), ?_⟩
  walk_at "rd1"
  refine ⟨by decide, ?_⟩
  walk_at "nx"
  refine ite2 (fun c1 => ?_) (fun c1 => ?_)
  · exact ⟨by decide, fun p hp => q p _ ["open", x] (same_new hp _) hp upd_same ⟨.opn _, w1 _, fun u hu => by
      have e : u ∈ (if (("open" : Str)) = "do" then [] else [x]) := hu
      rw [if_neg (by decide)] at e
      rw [List.mem_singleton.mp e]; exact hx⟩⟩
  walk_at "nx"
  refine ite2 (fun c2 => ?_) (fun c2 => ?_)
  · exact ⟨by decide, fun p hp => q p _ ["copy", x, y] (same_new hp _) hp upd_same ⟨.cpy _ _, w2 _ _ _ wx wy, fun u hu => by
      have e : u ∈ (if (("copy" : Str)) = "do" then [y] else [x, y]) := hu
      rw [if_neg (by decide)] at e
      simp only [List.mem_cons, List.not_mem_nil, or_false] at e
      rcases e with e | e <;> rw [e] <;> assumption⟩⟩
  walk_at "nx"
  refine ite2 (fun c3 => ?_) (fun c3 => ?_)
  · exact ⟨by decide, fun p hp => q p _ ["drop", x] (same_new hp _) hp upd_same ⟨.drp _, w1 _, fun u hu => by
      have e : u ∈ (if (("drop" : Str)) = "do" then [] else [x]) := hu
      rw [if_neg (by decide)] at e
      rw [List.mem_singleton.mp e]; exact hx⟩⟩
  walk_at "nx"
  refine ite2 (fun c4 => ?_) (fun c4 => ?_)
  · exact ⟨by decide, fun p hp => q p _ ["tie", x, y] (same_new hp _) hp upd_same ⟨.tie _ _, w2 _ _ _ wx wy, fun u hu => by
      have e : u ∈ (if (("tie" : Str)) = "do" then [y] else [x, y]) := hu
      rw [if_neg (by decide)] at e
      simp only [List.mem_cons, List.not_mem_nil, or_false] at e
      rcases e with e | e <;> rw [e] <;> assumption⟩⟩
  walk_at "nx"
  refine ⟨by decide, fun lp hlp => ?_⟩
  have s1 := same_new hlp (.lst [V.str "read", .str "lend", .str "end", .str "open", .str y, .str x])
  have e1 : upd H lp (.lst [V.str "read", .str "lend", .str "end", .str "open", .str y, .str x]) lp = some (.lst ((["read", "lend", "end", "open", y, x] : List Str).map V.str)) := upd_same
  generalize upd H lp (.lst [V.str "read", .str "lend", .str "end", .str "open", .str y, .str x]) = H1 at s1 e1 ⊢
  have hix : (c / 13 % 6).toNat < 6 := by omega
  refine ⟨⟨by decide, by decide⟩, by decide, _, _, .inl (SqL.of e1), at_map (by omega) (List.getElem?_eq_getElem (show (c / 13 % 6).toNat < (["read", "lend", "end", "open", y, x] : List Str).length from hix)), ?_⟩
  have hwu : wordS ((["read", "lend", "end", "open", y, x] : List Str)[(c / 13 % 6).toNat]'hix) = true := by
    have hm := List.getElem_mem (l := (["read", "lend", "end", "open", y, x] : List Str)) hix
    simp only [List.mem_cons, List.not_mem_nil, or_false] at hm
    rcases hm with e | e | e | e | e | e <;> rw [e]
    · decide
    · decide
    · decide
    · decide
    · exact wy
    · exact wx
  generalize (["read", "lend", "end", "open", y, x] : List Str)[(c / 13 % 6).toNat]'hix = u at hwu ⊢
  refine ⟨by decide, fun p hp => q p _ ["do", u, x] (s1.trans (same_new hp _)) (s1.free hp) upd_same ⟨.doo _ _, w2 _ _ _ hwu wx, fun z hz => ?_⟩⟩
  have e : z ∈ (if (("do" : Str)) = "do" then [x] else [u, x]) := hz
  rw [if_pos rfl] at e
  rw [List.mem_singleton.mp e]; exact hx
end
/-! ### where a list stands in a program -/
inductive Occ (pp lp : Addr) (H : Hp) : Addr → Addr → Prop
  | here (a : Addr) : Occ pp lp H a a
  | down {p t q a : Addr} {xs ys : List V} : p ≠ pp → p ≠ lp → H p = some (.lst xs) → V.ref t ∈ xs → H t = some (.tup ys) → V.ref q ∈ ys → Occ pp lp H q a → Occ pp lp H p a
structure Grow (pp lp : Addr) (H H' : Hp) : Prop where
  lst : ∀ b xs, H b = some (.lst xs) → b ≠ pp → b ≠ lp → ∃ ys, H' b = some (.lst (xs ++ ys))
  tup : ∀ b xs, H b = some (.tup xs) → H' b = some (.tup xs)
theorem Occ.mono {pp lp : Addr} {H H' : Hp} (g : Grow pp lp H H') {p a : Addr} (h : Occ pp lp H p a) : Occ pp lp H' p a := by
  induction h with
  | here a => exact .here a
  | down n1 n2 h1 h2 h3 h4 _ ih =>
    obtain ⟨ys, e⟩ := g.lst _ _ h1 n1 n2
    exact .down n1 n2 e (List.mem_append.mpr (.inl h2)) (g.tup _ _ h3) h4 ih
theorem Occ.trans {pp lp : Addr} {H : Hp} {p q a : Addr} (h : Occ pp lp H p q) (h' : Occ pp lp H q a) : Occ pp lp H p a := by
  induction h with
  | here _ => exact h'
  | down n1 n2 h1 h2 h3 h4 _ ih => exact .down n1 n2 h1 h2 h3 h4 (ih h')
theorem Grow.of {pp lp : Addr} {H H' : Hp} (s : Same H H') : Grow pp lp H H' := ⟨fun b xs e _ _ => ⟨[], by rw [List.append_nil]; exact s _ _ e⟩, fun b xs e => s _ _ e⟩
theorem grow_of {pp lp here : Addr} {H H' : Hp} {xs ys ps ls : List V} (fr : ∀ b o, H b = some o → b ≠ here → b ≠ pp → b ≠ lp → H' b = some o) (h1 : H here = some (.lst xs)) (h2 : H' here = some (.lst (xs ++ ys))) (hp : H pp = some (.lst ps)) (hl : H lp = some (.lst ls)) : Grow pp lp H H' := by
  refine ⟨fun b zs e n1 n2 => ?_, fun b zs e => fr b _ e ?_ ?_ ?_⟩
  · by_cases hb : b = here
    · subst hb
      rw [h1] at e; cases e
      exact ⟨ys, h2⟩
    · exact ⟨[], by rw [List.append_nil]; exact fr b _ e hb n1 n2⟩
  · rintro rfl; rw [h1] at e; cases e
  · rintro rfl; rw [hp] at e; cases e
  · rintro rfl; rw [hl] at e; cases e
theorem Ctx.occ {pp lp : Addr} {H : Hp} {S : Addr → Prop} {root : Addr} {fs : List Frm} {pr : List (Str × Addr)} {d : Nat} {here : Addr} (h : Ctx H S root fs pr d here) : (∀ q ∈ pr, q.2 ≠ pp ∧ q.2 ≠ lp) → ∀ o ∈ here :: pr.map (·.2), Occ pp lp H root o := by
  induction h with
  | nil =>
    intro _ o ho
    have e : o = root := by simpa using ho
    rw [e]; exact .here _
  | @lend x y us r pr d here up t as h1 h2 h3 _ ih =>
    intro hq o ho
    have ih' := ih fun q hm => hq q (List.mem_cons_of_mem _ hm)
    rw [List.map_cons] at ho
    rcases List.mem_cons.mp ho with rfl | ho
    · obtain ⟨n1, n2⟩ := hq _ List.mem_cons_self
      exact (ih' up List.mem_cons_self).trans (.down n1 n2 h1 (by simp) h3 (by simp) (.here _))
    · exact ih' o ho
  | @whl n us r pr d here up t as h1 h2 h3 _ ih =>
    intro hq o ho
    have ih' := ih fun q hm => hq q (List.mem_cons_of_mem _ hm)
    rw [List.map_cons] at ho
    rcases List.mem_cons.mp ho with rfl | ho
    · obtain ⟨n1, n2⟩ := hq _ List.mem_cons_self
      exact (ih' up List.mem_cons_self).trans (.down n1 n2 h1 (by simp) h3 (by simp) (.here _))
    · exact ih' o ho
  | @inB n us r pr d here up t oth as h1 h2 h3 h4 _ ih =>
    intro hq o ho
    have ih' := ih fun q hm => hq q (List.mem_cons_of_mem _ (List.mem_cons_of_mem _ hm))
    rw [List.map_cons, List.map_cons] at ho
    obtain ⟨n1, n2⟩ := hq _ (List.mem_cons_of_mem _ List.mem_cons_self)
    rcases List.mem_cons.mp ho with rfl | ho
    · exact (ih' up List.mem_cons_self).trans (.down n1 n2 h1 (by simp) h3 (by simp) (.here _))
    · rcases List.mem_cons.mp ho with rfl | ho
      · exact (ih' up List.mem_cons_self).trans (.down n1 n2 h1 (by simp) h3 (by simp) (.here _))
      · exact ih' o ho
  | @inC n b us r pr d here up t bq as h1 h2 h3 h4 _ ih =>
    intro hq o ho
    have ih' := ih fun q hm => hq q (List.mem_cons_of_mem _ hm)
    rw [List.map_cons] at ho
    rcases List.mem_cons.mp ho with rfl | ho
    · obtain ⟨n1, n2⟩ := hq _ List.mem_cons_self
      exact (ih' up List.mem_cons_self).trans (.down n1 n2 h1 (by simp) h3 (by simp) (.here _))
    · exact ih' o ho
/-- the lists that were begun stand in those that are open -/
def JOk (pp lp : Addr) (H : Hp) (here : Addr) (pr : List (Str × Addr)) (lv : List Addr) : Prop := ∀ a ∈ lv, ∃ o ∈ here :: pr.map (·.2), Occ pp lp H o a
theorem JOk.step {pp lp : Addr} {H H' : Hp} {here here' : Addr} {pr pr' : List (Str × Addr)} {lv : List Addr} (h : JOk pp lp H here pr lv) (g : Grow pp lp H H') (ho : ∀ o ∈ here :: pr.map (·.2), o ∈ here' :: pr'.map (·.2)) : JOk pp lp H' here' pr' lv := fun a ha => by
  obtain ⟨o, h1, h2⟩ := h a ha
  exact ⟨o, ho o h1, h2.mono g⟩
/-- what was open last stands in one that is open still -/
theorem Ctx.last {pp lp : Addr} {H : Hp} {S : Addr → Prop} {root : Addr} {fs : List Frm} {w : Str} {up : Addr} {pr : List (Str × Addr)} {d : Nat} {here : Addr} (h : Ctx H S root fs ((w, up) :: pr) d here) (hq : ∀ q ∈ (w, up) :: pr, q.2 ≠ pp ∧ q.2 ≠ lp) : ∃ o ∈ up :: pr.map (·.2), Occ pp lp H o here := by
  cases h with
  | lend h1 h2 h3 _ =>
    obtain ⟨n1, n2⟩ := hq _ List.mem_cons_self
    exact ⟨up, List.mem_cons_self, .down n1 n2 h1 (by simp) h3 (by simp) (.here _)⟩
  | whl h1 h2 h3 _ =>
    obtain ⟨n1, n2⟩ := hq _ List.mem_cons_self
    exact ⟨up, List.mem_cons_self, .down n1 n2 h1 (by simp) h3 (by simp) (.here _)⟩
  | @inB n us r pr2 _ _ up2 t _ aus h1 h2 h3 h4 _ =>
    obtain ⟨n1, n2⟩ := hq _ (List.mem_cons_of_mem _ List.mem_cons_self)
    exact ⟨up2, by simp, .down n1 n2 h1 (by simp) h3 (by simp) (.here _)⟩
  | inC h1 h2 h3 h4 _ =>
    obtain ⟨n1, n2⟩ := hq _ List.mem_cons_self
    exact ⟨up, List.mem_cons_self, .down n1 n2 h1 (by simp) h3 (by simp) (.here _)⟩
theorem JOk.pop {pp lp : Addr} {H H' : Hp} {S : Addr → Prop} {root here : Addr} {fs : List Frm} {w : Str} {up : Addr} {pr : List (Str × Addr)} {d : Nat} {lv : List Addr} (h : JOk pp lp H here ((w, up) :: pr) lv) (c : Ctx H S root fs ((w, up) :: pr) d here) (hq : ∀ q ∈ (w, up) :: pr, q.2 ≠ pp ∧ q.2 ≠ lp) (g : Grow pp lp H H') : JOk pp lp H' up pr lv := fun a ha => by
  obtain ⟨o, h1, h2⟩ := h a ha
  rw [List.map_cons] at h1
  rcases List.mem_cons.mp h1 with rfl | h1
  · obtain ⟨o', k1, k2⟩ := c.last hq
    exact ⟨o', k1, (k2.trans h2).mono g⟩
  · exact ⟨o, h1, h2.mono g⟩
/-- what is open is closed in thought -/
theorem popAll {H0 : Hp} {root lp pp : Addr} : ∀ (n : Nat) {H : Hp} {here : Addr} {st : BS} {d : Nat} {pr : List (Str × Addr)} {S : Addr → Prop} {as es : List Addr}, pr.length = n → BInv H0 H root lp pp here st d pr S as es →
    ∃ S' as', (popN n st).stk = [] ∧ ¬ S' lp ∧ ¬ S' pp ∧ H root = some (.lst (as'.map V.ref)) ∧ Paired (stpAt (ProgAt S' 9 H) H) as' (popN n st).cur ∧ root ≠ lp ∧ root ≠ pp
  | 0, H, here, st, d, pr, S, as, es, hn, I => by
    have : pr = [] := List.length_eq_zero_iff.mp hn
    subst this
    have hc : st.stk = [] ∧ d = 9 ∧ here = root := by
      have hcx := I.ctx
      generalize st.stk = fs at hcx ⊢
      cases hcx
      exact ⟨rfl, rfl, rfl⟩
    obtain ⟨k1, k2, k3⟩ := hc
    subst k2 k3
    obtain ⟨y1, y2, y3, y4, _⟩ := I.apart here List.mem_cons_self
    exact ⟨S, as, k1, I.off.1, I.off.2.1, I.cur, I.steps, y2, y3⟩
  | n + 1, H, here, st, d, pr, S, as, es, hn, I => by
    rcases pr with _ | ⟨⟨wd, up⟩, pr'⟩
    · simp at hn
    have hes := paired_len I.ents
    rw [List.length_reverse] at hes
    rcases List.eq_nil_or_concat es with z | ⟨es0, e, z⟩
    · rw [z] at hes; simp at hes
    rw [List.concat_eq_append] at z
    subst z
    obtain ⟨ls, hls⟩ := I.lines
    obtain ⟨d', as', I4⟩ := I.pop (H' := upd H pp (.lst (es0.map V.ref))) (fun b o eb n1 n2 => by rw [upd_ne n1]; exact eb) upd_same ⟨ls, by rw [upd_ne I.lpp]; exact hls⟩
    obtain ⟨S', as2, z2, z5, z6, z7, z8, z10, z11⟩ := popAll n (by simpa using hn) I4
    have back : ∀ b o, upd H pp (.lst (es0.map V.ref)) b = some o → b ≠ pp → H b = some o := fun b o e n2 => by rw [upd_ne n2] at e; exact e
    have ht : ∀ b xs, upd H pp (.lst (es0.map V.ref)) b = some (.tup xs) → H b = some (.tup xs) := fun b xs e => back b _ e (fun z => by rw [z, upd_same] at e; cases e)
    have hl : ∀ b xs, S' b → upd H pp (.lst (es0.map V.ref)) b = some (.lst xs) → H b = some (.lst xs) := fun b xs hb e => back b _ e (fun z => z6 (z ▸ hb))
    refine ⟨S', as2, by rw [popN_succ]; exact z2, z5, z6, back _ _ z7 z11, ?_, z10, z11⟩
    rw [popN_succ]
    exact Paired.imp' (fun a s z => stpAt.imp ht (fun q b y => ProgAt.imp ht hl (fun _ z => z) 9 y) z) z8
section
variable {P : Program} {w : World} {K : PySem.W.Frag} {mg : Str → Option Value} {base : Heap}
theorem none_split {H : Hp} {a b : Addr} {o : HO} (h : upd H a o b = none) : b ≠ a ∧ H b = none := by
  have n : b ≠ a := fun z => by rw [z, upd_same] at h; cases h
  exact ⟨n, by rw [upd_ne n] at h; exact h⟩
theorem heapA {H1 : Hp} {t here e pp : Addr} {T L1 E L2 : HO} (ht : H1 t = none) (he : H1 e = none) (hht : here ≠ t) (hpt : pp ≠ t) (e1 : e ≠ here) (e2 : e ≠ t) (e3 : e ≠ pp) (hhp : here ≠ pp) :
    let H' := upd (upd (upd (upd H1 t T) here L1) e E) pp L2
    H' t = some T ∧ H' here = some L1 ∧ H' e = some E ∧ H' pp = some L2 ∧ ∀ b o, H1 b = some o → b ≠ here → b ≠ pp → H' b = some o := by
  refine ⟨?_, ?_, ?_, upd_same, fun b o eb n1 n2 => ?_⟩
  · rw [upd_ne hpt.symm, upd_ne e2.symm, upd_ne hht.symm, upd_same]
  · rw [upd_ne hhp, upd_ne e1.symm, upd_same]
  · rw [upd_ne e3, upd_same]
  · rw [upd_ne n2, upd_ne (ne_of_none eb he), upd_ne n1, upd_ne (ne_of_none eb ht)]; exact eb
theorem heapB {H1 : Hp} {t here e e' pp : Addr} {T L1 E L2 E' L2' : HO} (ht : H1 t = none) (he : H1 e = none) (he' : H1 e' = none) (hht : here ≠ t) (hpt : pp ≠ t) (e1 : e ≠ here) (e2 : e ≠ t) (e3 : e ≠ pp) (d1 : e' ≠ here) (d2 : e' ≠ t) (d3 : e' ≠ pp) (d5 : e' ≠ e) (hhp : here ≠ pp) :
    let H' := upd (upd (upd (upd (upd (upd H1 t T) here L1) e E) pp L2) e' E') pp L2'
    H' t = some T ∧ H' here = some L1 ∧ H' e = some E ∧ H' e' = some E' ∧ H' pp = some L2' ∧ ∀ b o, H1 b = some o → b ≠ here → b ≠ pp → H' b = some o := by
  refine ⟨?_, ?_, ?_, ?_, upd_same, fun b o eb n1 n2 => ?_⟩
  · rw [upd_ne hpt.symm, upd_ne d2.symm, upd_ne hpt.symm, upd_ne e2.symm, upd_ne hht.symm, upd_same]
  · rw [upd_ne hhp, upd_ne d1.symm, upd_ne hhp, upd_ne e1.symm, upd_same]
  · rw [upd_ne e3, upd_ne d5.symm, upd_ne e3, upd_same]
  · rw [upd_ne d3, upd_same]
  · rw [upd_ne n2, upd_ne (ne_of_none eb he'), upd_ne n2, upd_ne (ne_of_none eb he), upd_ne n1, upd_ne (ne_of_none eb ht)]; exact eb
def openF4 (x y : Str) (c : Int) (cur : List Stp) : Frm := if c % 13 = 8 then .lend x y cur else if c % 13 = 9 then .inB (c % 10 ^ 60) cur else .whl (0 - c % 10 ^ 60) cur
def spBegun : Sp := fun vs H Q _ => ∃ (here pp lp : Addr) (c : Int) (x y : Str) (H0 : Hp) (root : Addr) (st : BS) (d : Nat) (pr : List (Str × Addr)) (S : Addr → Prop) (as es : List Addr), vs = [.ref here, .ref pp, .int c, .str x, .str y] ∧
  BInv H0 H root lp pp here st (d + 1) pr S as es ∧ as.length ≤ 1000 ∧ es.length ≤ 1000 ∧
  ∀ (inner t : Addr) (H' : Hp) (pr' : List (Str × Addr)) (es' : List Addr), BInv H0 H' root lp pp inner ⟨[], openF4 x y c st.cur :: st.stk, st.L, st.left, st.lends⟩ d pr' S [] es' → (∀ b o, H b = some o → b ≠ here → b ≠ pp → H' b = some o) → H' here = some (.lst (as.map V.ref ++ [.ref t])) → (∀ o ∈ here :: pr.map (·.2), o ∈ inner :: pr'.map (·.2)) → Q (.ref inner) H'
theorem ok_begun (D : DefAt K mg "_law_begun" s_law_begun) : Cal P w K mg base 1 "_law_begun" ["_law_here", "_law_pile", "_law_cell", "_law_x", "_law_y"] spBegun := by
  refine D.cal sc_law_begun (fun _ _ _ _ _ _ us hl => match us, hl with | [_, _, _, _, _], _ => rfl) (fun vs H Q E h => by obtain ⟨_, _, _, _, _, _, _, _, _, _, _, _, _, _, rfl, _⟩ := h; rfl) (fun f cdv A outer s H vs Q E hr h => ?_)
  obtain ⟨here, pp, lp, c, x, y, H0, root, st, d, pr, S, as, es, rfl, I, ha1, he1, q⟩ := h
  refine ⟨_, (pss_cons (ps_let 5 sc_law_begun.nd (pe_lst pa_nil) (hx := l_law_begun__law_inner))
      (pss_cons (ps_let 6 sc_law_begun.nd (pe_lst pa_nil) (hx := l_law_begun__law_others))
      (pss_cons (ps_if (pt_cmpR op_eqA (pe_op op_mod (pv 2 (hv := v_law_begun__law_cell)) pe_int) pe_int (nomark _)) (pss_cons (ps_expr (pe_bmK K PySem.F.plainAttrs_list PySem.F.slot_list_append PySem.F.type_list_append mt_appendA (pv 0 (hv := v_law_begun__law_here)) (pa_cons (pe_tup (pa_cons pe_str (pa_cons (pv 3 (hv := v_law_begun__law_x)) (pa_cons (pv 4 (hv := v_law_begun__law_y)) (pa_cons (pv 5 (hv := v_law_begun__law_inner)) pa_nil))))) pa_nil)))
      (pss_one (ps_expr (pe_bmK K PySem.F.plainAttrs_list PySem.F.slot_list_append PySem.F.type_list_append mt_appendA (pv 1 (hv := v_law_begun__law_pile)) (pa_cons (pe_tup (pa_cons pe_str (pa_cons (pv 0 (hv := v_law_begun__law_here)) pa_nil))) pa_nil))))) (pss_one (ps_if (pt_cmpR op_eqA (pe_op op_mod (pv 2 (hv := v_law_begun__law_cell)) pe_int) pe_int (nomark _)) (pss_cons (ps_expr (pe_bmK K PySem.F.plainAttrs_list PySem.F.slot_list_append PySem.F.type_list_append mt_appendA (pv 0 (hv := v_law_begun__law_here)) (pa_cons (pe_tup (pa_cons pe_str (pa_cons (pe_op op_mod (pv 2 (hv := v_law_begun__law_cell)) (pe_op op_pow pe_int pe_int)) (pa_cons (pv 5 (hv := v_law_begun__law_inner)) (pa_cons (pv 6 (hv := v_law_begun__law_others)) pa_nil))))) pa_nil)))
      (pss_cons (ps_expr (pe_bmK K PySem.F.plainAttrs_list PySem.F.slot_list_append PySem.F.type_list_append mt_appendA (pv 1 (hv := v_law_begun__law_pile)) (pa_cons (pe_tup (pa_cons pe_str (pa_cons (pv 0 (hv := v_law_begun__law_here)) pa_nil))) pa_nil)))
      (pss_one (ps_expr (pe_bmK K PySem.F.plainAttrs_list PySem.F.slot_list_append PySem.F.type_list_append mt_appendA (pv 1 (hv := v_law_begun__law_pile)) (pa_cons (pe_tup (pa_cons pe_str (pa_cons (pv 6 (hv := v_law_begun__law_others)) pa_nil))) pa_nil)))))) (pss_cons (ps_expr (pe_bmK K PySem.F.plainAttrs_list PySem.F.slot_list_append PySem.F.type_list_append mt_appendA (pv 0 (hv := v_law_begun__law_here)) (pa_cons (pe_tup (pa_cons pe_str (pa_cons (pe_op op_sub pe_int (pe_op op_mod (pv 2 (hv := v_law_begun__law_cell)) (pe_op op_pow pe_int pe_int))) (pa_cons (pv 5 (hv := v_law_begun__law_inner)) pa_nil)))) pa_nil)))
      (pss_one (ps_expr (pe_bmK K PySem.F.plainAttrs_list PySem.F.slot_list_append PySem.F.type_list_append mt_appendA (pv 1 (hv := v_law_begun__law_pile)) (pa_cons (pe_tup (pa_cons pe_str (pa_cons (pv 0 (hv := v_law_begun__law_here)) pa_nil))) pa_nil))))))))
      (pss_one (ps_ret (pv 5 (hv := v_law_begun__law_inner))))))), ?_⟩
  walk_at "rd1"
  refine ⟨by decide, fun inn hinn => ?_⟩
  have sm1 := same_new hinn (.lst [])
  have ei : upd H inn (.lst []) inn = some (.lst []) := upd_same
  generalize upd H inn (.lst []) = H1 at sm1 ei ⊢
  have I1 := I.alloc sm1
  obtain ⟨_, hhl, hhp, _, _⟩ := I.apart here List.mem_cons_self
  have hph := Ne.symm hhp
  have hlh := Ne.symm hhl
  have hlp := I.lpp
  have hpl := Ne.symm hlp
  obtain ⟨i1, i2, i3, i4, i5⟩ := I.new hinn
  have i6 : inn ≠ here := fun z => i5 (z ▸ List.mem_cons_self)
  walk_at "nx"
  refine ⟨by decide, fun oth hoth => ?_⟩
  have sm2 := same_new hoth (.lst [])
  have eo : upd H1 oth (.lst []) oth = some (.lst []) := upd_same
  generalize upd H1 oth (.lst []) = H2 at sm2 eo ⊢
  have I2 := I1.alloc sm2
  have ei2 := sm2 _ _ ei
  obtain ⟨o1, o2, o3, o4, o5⟩ := I1.new hoth
  have o6 : oth ≠ here := fun z => o5 (z ▸ List.mem_cons_self)
  have hio : inn ≠ oth := ne_of_none ei hoth
  have sm12 := sm1.trans sm2
  obtain ⟨lsv, hlsv⟩ := I2.lines
  refine seq_by (fun σ' H' => ∃ (t : Addr) (pr' : List (Str × Addr)) (es' : List Addr), σ' = [some (.ref here), some (.ref pp), some (.int c), some (.str x), some (.str y), some (.ref inn), some (.ref oth)] ∧ BInv H0 H' root lp pp inn ⟨[], openF4 x y c st.cur :: st.stk, st.L, st.left, st.lends⟩ d pr' S [] es' ∧ (∀ b o, H b = some o → b ≠ here → b ≠ pp → H' b = some o) ∧ H' here = some (.lst (as.map V.ref ++ [.ref t])) ∧ (∀ o ∈ here :: pr.map (·.2), o ∈ inn :: pr'.map (·.2))) (fun k hk => ?_) ?_
  · unfold openF4 at hk
    walk_at "rd1"
    refine ⟨by decide, ite2 (fun c1 => ?_) (fun c1 => ?_)⟩
    · rw [if_pos c1] at hk
      refine ⟨⟨_, SqL.of I2.cur⟩, by decide, fun t ht => ⟨_, by rw [upd_ne (ne_of_none I2.cur ht)]; exact I2.cur, by rw [List.length_map]; exact small' (by omega), ?_⟩⟩
      walk_at "nx"
      have hpt := ne_of_none I2.pile ht
      have hht := ne_of_none I2.cur ht
      have pile3 : ∀ o1 o2, upd (upd H2 t o1) here o2 pp = some (.lst (es.map V.ref)) := fun o1 o2 => by rw [upd_ne hph, upd_ne hpt]; exact I2.pile
      refine ⟨⟨_, SqL.of (pile3 _ _)⟩, by decide, fun e he => ?_⟩
      obtain ⟨e1, he⟩ := none_split he
      obtain ⟨e2, he⟩ := none_split he
      have e3 := Ne.symm (ne_of_none I2.pile he)
      refine ⟨_, by rw [upd_ne (Ne.symm e3)]; exact pile3 _ _, by rw [List.length_map]; exact small' (by omega), ?_⟩
      obtain ⟨g1, g2, g3, g4, g6⟩ := heapA (T := .tup [.str "lend", .str x, .str y, .ref inn]) (L1 := .lst (as.map V.ref ++ [.ref t])) (E := .tup [.str "back", .ref here]) (L2 := .lst (es.map V.ref ++ [.ref e])) ht he hht hpt e1 e2 e3 hhp
      generalize upd (upd (upd (upd H2 t (.tup [.str "lend", .str x, .str y, .ref inn])) here (.lst (as.map V.ref ++ [.ref t]))) e (.tup [.str "back", .ref here])) pp (.lst (es.map V.ref ++ [.ref e])) = H5 at g1 g2 g3 g4 g6 ⊢
      refine hk _ _ ⟨t, ("back", here) :: pr, es ++ [e], rfl, ?_, fun b o eb n1 n2 => g6 b o (sm12 _ _ eb) n1 n2, g2, fun o ho => List.mem_cons_of_mem _ (by rw [List.map_cons]; exact ho)⟩
      exact BInv.open1 (e := e) (L' := st.L) I (fun b o eb n1 n2 n3 => g6 b o (sm12 _ _ eb) n1 n2) (t := t) (by rw [List.map_append]; exact g2) hinn (g6 _ _ ei2 i6 i2) ⟨_, g6 _ _ hlsv hlh hlp⟩ (by rw [List.map_append]; exact g4) g3 (fun z1 z2 => .lend g2 z2 g1 z1)
    rw [if_neg c1] at hk
    refine ⟨by decide, ite2 (fun c2 => ?_) (fun c2 => ?_)⟩
    · rw [if_pos c2] at hk
      refine ⟨⟨_, SqL.of I2.cur⟩, ?_⟩
      rw [show Int.toNat 60 = 60 from rfl]
      refine ⟨⟨by decide, by decide, by decide⟩, by decide, by decide, fun t ht => ⟨_, by rw [upd_ne (ne_of_none I2.cur ht)]; exact I2.cur, by rw [List.length_map]; exact small' (by omega), ?_⟩⟩
      walk_at "nx"
      have hpt := ne_of_none I2.pile ht
      have hht := ne_of_none I2.cur ht
      have pile3 : ∀ o1 o2, upd (upd H2 t o1) here o2 pp = some (.lst (es.map V.ref)) := fun o1 o2 => by rw [upd_ne hph, upd_ne hpt]; exact I2.pile
      refine ⟨⟨_, SqL.of (pile3 _ _)⟩, by decide, fun e he => ?_⟩
      obtain ⟨e1, he⟩ := none_split he
      obtain ⟨e2, he⟩ := none_split he
      have e3 := Ne.symm (ne_of_none I2.pile he)
      refine ⟨_, by rw [upd_ne (Ne.symm e3)]; exact pile3 _ _, by rw [List.length_map]; exact small' (by omega), ?_⟩
      walk_at "nx"
      refine ⟨⟨_, SqL.of upd_same⟩, by decide, fun e' he' => ?_⟩
      obtain ⟨d3, he'⟩ := none_split he'
      obtain ⟨d5, he'⟩ := none_split he'
      obtain ⟨d1, he'⟩ := none_split he'
      obtain ⟨d2, he'⟩ := none_split he'
      refine ⟨_, by rw [upd_ne (Ne.symm d3)]; exact upd_same, by rw [List.length_append, List.length_map]; exact small' (by simp only [List.length_cons, List.length_nil]; omega), ?_⟩
      obtain ⟨g1, g2, g3, g3', g4, g6⟩ := heapB (T := .tup [.str "if", .int (c % 10 ^ 60), .ref inn, .ref oth]) (L1 := .lst (as.map V.ref ++ [.ref t])) (E := .tup [.str "fi", .ref here]) (L2 := .lst (es.map V.ref ++ [.ref e])) (E' := .tup [.str "else", .ref oth]) (L2' := .lst (es.map V.ref ++ [.ref e] ++ [.ref e'])) ht he he' hht hpt e1 e2 e3 d1 d2 d3 d5 hhp
      generalize upd (upd (upd (upd (upd (upd H2 t (.tup [.str "if", .int (c % 10 ^ 60), .ref inn, .ref oth])) here (.lst (as.map V.ref ++ [.ref t]))) e (.tup [.str "fi", .ref here])) pp (.lst (es.map V.ref ++ [.ref e]))) e' (.tup [.str "else", .ref oth])) pp (.lst (es.map V.ref ++ [.ref e] ++ [.ref e'])) = H5 at g1 g2 g3 g3' g4 g6 ⊢
      refine hk _ _ ⟨t, ("else", oth) :: ("fi", here) :: pr, es ++ [e, e'], rfl, ?_, fun b o eb n1 n2 => g6 b o (sm12 _ _ eb) n1 n2, g2, fun o ho => List.mem_cons_of_mem _ (by rw [List.map_cons, List.map_cons]; exact List.mem_cons_of_mem _ ho)⟩
      exact BInv.open2 (e := e) (e2 := e') (oth := oth) (L' := st.L) I (fun b o eb n1 n2 n3 => g6 b o (sm12 _ _ eb) n1 n2) (t := t) (by rw [List.map_append]; exact g2) hinn (g6 _ _ ei2 i6 i2) (sm1.free hoth) (g6 _ _ eo o6 o2) hio ⟨_, g6 _ _ hlsv hlh hlp⟩ (by rw [List.map_append]; rw [g4, List.append_assoc]; rfl) g3 g3' g1
    · rw [if_neg c2] at hk
      refine ⟨⟨_, SqL.of I2.cur⟩, ?_⟩
      rw [show Int.toNat 60 = 60 from rfl]
      refine ⟨⟨by decide, by decide, by decide⟩, by decide, by decide, fun t ht => ⟨_, by rw [upd_ne (ne_of_none I2.cur ht)]; exact I2.cur, by rw [List.length_map]; exact small' (by omega), ?_⟩⟩
      walk_at "nx"
      have hpt := ne_of_none I2.pile ht
      have hht := ne_of_none I2.cur ht
      have pile3 : ∀ o1 o2, upd (upd H2 t o1) here o2 pp = some (.lst (es.map V.ref)) := fun o1 o2 => by rw [upd_ne hph, upd_ne hpt]; exact I2.pile
      refine ⟨⟨_, SqL.of (pile3 _ _)⟩, by decide, fun e he => ?_⟩
      obtain ⟨e1, he⟩ := none_split he
      obtain ⟨e2, he⟩ := none_split he
      have e3 := Ne.symm (ne_of_none I2.pile he)
      refine ⟨_, by rw [upd_ne (Ne.symm e3)]; exact pile3 _ _, by rw [List.length_map]; exact small' (by omega), ?_⟩
      obtain ⟨g1, g2, g3, g4, g6⟩ := heapA (T := .tup [.str "while", .int (0 - c % 10 ^ 60), .ref inn]) (L1 := .lst (as.map V.ref ++ [.ref t])) (E := .tup [.str "done", .ref here]) (L2 := .lst (es.map V.ref ++ [.ref e])) ht he hht hpt e1 e2 e3 hhp
      generalize upd (upd (upd (upd H2 t (.tup [.str "while", .int (0 - c % 10 ^ 60), .ref inn])) here (.lst (as.map V.ref ++ [.ref t]))) e (.tup [.str "done", .ref here])) pp (.lst (es.map V.ref ++ [.ref e])) = H5 at g1 g2 g3 g4 g6 ⊢
      refine hk _ _ ⟨t, ("done", here) :: pr, es ++ [e], rfl, ?_, fun b o eb n1 n2 => g6 b o (sm12 _ _ eb) n1 n2, g2, fun o ho => List.mem_cons_of_mem _ (by rw [List.map_cons]; exact ho)⟩
      exact BInv.open1 (e := e) (L' := st.L) I (fun b o eb n1 n2 n3 => g6 b o (sm12 _ _ eb) n1 n2) (t := t) (by rw [List.map_append]; exact g2) hinn (g6 _ _ ei2 i6 i2) ⟨_, g6 _ _ hlsv hlh hlp⟩ (by rw [List.map_append]; exact g4) g3 (fun z1 z2 => .whl g2 z2 g1 z1)
  · rintro σ' H' ⟨t, pr', es', rfl, I5, fr, hh, ho⟩
    walk_at "nx"
    exact q inn t H' pr' es' I5 fr hh ho
theorem nm4_at {nm : List Str} (hn : nm.length = 4) (z : Int) : ∃ x ∈ nm, atI (nm.map V.str) (z % 4) = some (.str x) := by
  have hi : (z % 4).toNat < nm.length := by omega
  exact ⟨nm[(z % 4).toNat], List.getElem_mem hi, at_map (by omega) (List.getElem?_eq_getElem hi)⟩
theorem gok_len {nm : List Str} {st : BS} {d : Nat} (h : GOk nm st d) : st.cur.length ≤ 60 := by
  have h1 := h.ln
  have h2 := h.l0
  have h3 := ln_ge d st.cur
  have e : lnC (d + 1) st.cur = cW (wt 2 3 2 1) (d + 1) st.cur := by show cW lnS _ _ = _; rw [ln_wt]
  have t : totW 2 3 2 1 st d = cW (wt 2 3 2 1) (d + 1) st.cur + wtF 2 3 2 1 st.stk d := rfl
  rw [t] at h1
  omega
theorem grow_side {pp lp : Addr} {H : Hp} {xs : List V} (hl : H lp = some (.lst xs)) (zs : List V) : Grow pp lp H (upd H lp (.lst zs)) := ⟨fun b ys eb n1 n2 => ⟨[], by rw [upd_ne n2, List.append_nil]; exact eb⟩, fun b ys eb => by rw [upd_ne (ne_of eb hl (fun z => nomatch z))]; exact eb⟩
theorem gok_begun {nm : List Str} {st : BS} {d : Nat} {x y : Str} {c : Int} (h : GOk nm st (d + 1)) (hd : 1 ≤ d) (hx : x ∈ nm) (hy : y ∈ nm) (hw : ∀ u ∈ nm, wordS u = true) (hl : st.left > 2) (h8 : c % 13 = 8 → 0 < st.lends) : GOk nm ⟨[], openF4 x y c st.cur :: st.stk, st.L, st.left - 3, st.lends - (if c % 13 = 8 then 1 else 0)⟩ d := by
  have e5 : st.left + ((cW (wt 2 3 2 1) (d + 2) st.cur + wtF 2 3 2 1 st.stk (d + 1) : Nat) : Int) ≤ 60 := h.ln
  have e7 : st.lends + ((cW (wt 1 0 0 0) (d + 2) st.cur + wtF 1 0 0 0 st.stk (d + 1) : Nat) : Int) ≤ 3 := h.ld
  have e8 := h.d0
  have e3 : gdT nm (d + 2) st.cur := h.good
  have e4 : gdF nm st.stk (d + 1) := h.goodf
  have b1 : boundV (.int (c % 10 ^ 60)) = true := by
    show decide ((if c % 10 ^ 60 < 0 then -(c % 10 ^ 60) else c % 10 ^ 60) < 10 ^ 60) = true
    refine decide_eq_true ?_
    split <;> omega
  have b2 : boundV (.int (0 - c % 10 ^ 60)) = true := by
    show decide ((if 0 - c % 10 ^ 60 < 0 then -(0 - c % 10 ^ 60) else 0 - c % 10 ^ 60) < 10 ^ 60) = true
    refine decide_eq_true ?_
    split <;> omega
  unfold openF4
  by_cases c8 : c % 13 = 8
  · rw [if_pos c8, if_pos c8]
    refine gok_open (f := .lend x y st.cur) h hd ⟨⟨hx, hy, hw x hx, hw y hy⟩, e3, e4⟩ ?_ (by omega) ?_ (by have := h8 c8; omega)
    · show st.left - 3 + ((2 + cW (wt 2 3 2 1) (d + 2) st.cur + wtF 2 3 2 1 st.stk (d + 1) : Nat) : Int) ≤ 60; omega
    · show st.lends - 1 + ((1 + cW (wt 1 0 0 0) (d + 2) st.cur + wtF 1 0 0 0 st.stk (d + 1) : Nat) : Int) ≤ 3; omega
  · rw [if_neg c8, if_neg c8]
    by_cases c9 : c % 13 = 9
    · rw [if_pos c9]
      refine gok_open (f := .inB (c % 10 ^ 60) st.cur) h hd ⟨b1, e3, e4⟩ ?_ (by omega) ?_ (by omega)
      · show st.left - 3 + ((3 + cW (wt 2 3 2 1) (d + 2) st.cur + wtF 2 3 2 1 st.stk (d + 1) : Nat) : Int) ≤ 60; omega
      · show st.lends - 0 + ((0 + cW (wt 1 0 0 0) (d + 2) st.cur + wtF 1 0 0 0 st.stk (d + 1) : Nat) : Int) ≤ 3; omega
    · rw [if_neg c9]
      refine gok_open (f := .whl (0 - c % 10 ^ 60) st.cur) h hd ⟨b2, e3, e4⟩ ?_ (by omega) ?_ (by omega)
      · show st.left - 3 + ((2 + cW (wt 2 3 2 1) (d + 2) st.cur + wtF 2 3 2 1 st.stk (d + 1) : Nat) : Int) ≤ 60; omega
      · show st.lends - 0 + ((0 + cW (wt 1 0 0 0) (d + 2) st.cur + wtF 1 0 0 0 st.stk (d + 1) : Nat) : Int) ≤ 3; omega
def spProgram : Sp := fun vs H Q _ => ∃ (ca na : Addr) (cs : List Int) (nm : List Str), vs = [.ref ca, .ref na] ∧ H ca = some (.lst (cs.map V.int)) ∧ H na = some (.lst (nm.map V.str)) ∧ nm.length = 4 ∧ (∀ u ∈ nm, wordS u = true) ∧ cs.length ≤ 63 ∧
  ∀ (lp pp root : Addr) (H' : Hp) (S : Addr → Prop) (T : List Stp) (lv : List Addr), Same H H' → H' lp = some (.lst (lv.map V.ref)) → lv[0]? = some root → lv.length ≤ 200 → ProgAt S 10 H' root T → Good nm T → ¬ S lp → (∀ a ∈ lv, Occ pp lp H' root a) → H lp = none → Q (.ref lp) H'
theorem ok_program (D : DefAt K mg "_law_program" s_law_program) (z_len : mg "len" = none) (z_int : mg "int" = none) (c_law_begun : Cal P w K mg base 1 "_law_begun" ["_law_here", "_law_pile", "_law_cell", "_law_x", "_law_y"] spBegun) (c_law_step : Cal P w K mg base 1 "_law_step" ["_law_cell", "_law_x", "_law_y"] spStep24) : Cal P w K mg base 2 "_law_program" ["_law_cells", "_law_names_here"] spProgram := by
  refine D.cal sc_law_program (fun _ _ _ _ _ _ us hl => match us, hl with | [_, _], _ => rfl) (fun vs H Q E h => by obtain ⟨_, _, _, _, rfl, _⟩ := h; rfl) (fun f cdv A outer s H vs Q E hr h => ?_)
  obtain ⟨ca, na, cs, nm, rfl, hca, hna, hn4, hnw, h63, q⟩ := h
  refine ⟨_, (pss_cons (ps_let 2 sc_law_program.nd (pe_lst (pa_cons (pe_lst pa_nil) pa_nil)) (hx := l_law_program__law_lists))
      (pss_cons (ps_let 3 sc_law_program.nd (pe_lst pa_nil) (hx := l_law_program__law_pile))
      (pss_cons (ps_let 4 sc_law_program.nd (pe_ix (ix_K K) (pv 2 (hv := v_law_program__law_lists)) pe_int (fun _ _ => rfl)) (hx := l_law_program__law_here))
      (pss_cons (ps_let 5 sc_law_program.nd pe_int (hx := l_law_program__law_left))
      (pss_cons (ps_let 6 sc_law_program.nd pe_int (hx := l_law_program__law_lends))
      (pss_cons (ps_for PassesOwn.never rfl (pi_listK K (pv 0 (hv := v_law_program__law_cells))) (pg_let 7 sc_law_program.nd (hx := l_law_program__law_cell)) (pss_cons (ps_let 8 sc_law_program.nd (pe_op op_mod (pv 7 (hv := v_law_program__law_cell)) pe_int) (hx := l_law_program__law_kind))
      (pss_cons (ps_let 9 sc_law_program.nd (pe_ix (ix_K K) (pv 1 (hv := v_law_program__law_names_here)) (pe_op op_mod (pe_op op_mod (pe_op op_mulB (pv 7 (hv := v_law_program__law_cell)) pe_int) pe_int) pe_int) (fun _ _ => rfl)) (hx := l_law_program__law_x))
      (pss_cons (ps_let 10 sc_law_program.nd (pe_ix (ix_K K) (pv 1 (hv := v_law_program__law_names_here)) (pe_op op_mod (pe_op op_mod (pe_op op_mulB (pv 7 (hv := v_law_program__law_cell)) pe_int) pe_int) pe_int) (fun _ _ => rfl)) (hx := l_law_program__law_y))
      (pss_cons (ps_let 11 sc_law_program.nd (pe_blt (call_lenK K) z_len bt_len (pa_cons (pe_comp (CompSc.to (fsc := (defScope s_law_program)) (N := ["_law_cells", "_law_names_here", "_law_lists", "_law_pile", "_law_here", "_law_left", "_law_lends", "_law_cell", "_law_kind", "_law_x", "_law_y", "_law_deep", "_law_word"]) (N0 := ["_law_cells", "_law_names_here", "_law_lists", "_law_pile", "_law_here", "_law_left", "_law_lends", "_law_cell", "_law_kind", "_law_x", "_law_y", "_law_deep", "_law_word"]) (T := ["_law_one"]) ⟨by decide +kernel, by decide +kernel, by decide +kernel, by decide +kernel, by decide +kernel, by decide +kernel, by decide +kernel⟩ rfl rfl) rfl (pi_listK K (pv 3 (hv := v_law_program__law_pile))) (fun _ _ _ _ => (pg_let 13 (show (["_law_cells", "_law_names_here", "_law_lists", "_law_pile", "_law_here", "_law_left", "_law_lends", "_law_cell", "_law_kind", "_law_x", "_law_y", "_law_deep", "_law_word", "_law_one"] : List Str).Nodup from by decide +kernel) (hx := (locC (defScope s_law_program) (by decide +kernel))) (hf := fnC (defScope s_law_program) (by decide +kernel)))) (gfr_name (show (["_law_cells", "_law_names_here", "_law_lists", "_law_pile", "_law_here", "_law_left", "_law_lends", "_law_cell", "_law_kind", "_law_x", "_law_y", "_law_deep", "_law_word"] : List Str).length ≤ 13 from by decide)) (fun _ _ _ _ => (pifs_one (pt_cmpR op_neA (pe_ix (ix_K K) (pv 13 (hv := (visC (defScope s_law_program) (by decide +kernel)))) pe_int (fun _ _ => rfl)) pe_str (nomark _)))) (fun _ _ _ _ => (pv 13 (hv := (visC (defScope s_law_program) (by decide +kernel)))))) pa_nil) (hg := gl_law_program_len)) (hx := l_law_program__law_deep))
      (pss_one (ps_if (PW.pt' (pw_and (pt_cmpR op_gt (pv 8 (hv := v_law_program__law_kind)) pe_int (nomark _)) (pw_and1 (pt_cmpR (op_neKD K hr) (pv 3 (hv := v_law_program__law_pile)) (pe_lst pa_nil) (nomark _))))) (pss_cons (ps_asg (pe_bm0K K PySem.F.plainAttrs_list PySem.F.slot_list_pop PySem.F.type_list_pop mt_popA (pv 3 (hv := v_law_program__law_pile))) (pg_tupK K (n := 2) (pgs_cons (pg_let 12 sc_law_program.nd (hx := l_law_program__law_word)) (pgs_cons (pg_let 4 sc_law_program.nd (hx := l_law_program__law_here)) pgs_nil))))
      (pss_one (ps_if (pt_cmpR op_eqA (pv 12 (hv := v_law_program__law_word)) pe_str (nomark _)) (pss_one (ps_expr (pe_bmK K PySem.F.plainAttrs_list PySem.F.slot_list_append PySem.F.type_list_append mt_appendA (pv 2 (hv := v_law_program__law_lists)) (pa_cons (pv 4 (hv := v_law_program__law_here)) pa_nil)))) pss_nil))) (pss_one (ps_if (PW.pt' (pw_and (pt_chain op_le op_le pe_int (pv 8 (hv := v_law_program__law_kind)) pe_int) (pw_and (pt_cmpR op_gt (pv 5 (hv := v_law_program__law_left)) pe_int (nomark _)) (pw_and (pt_cmpR op_ltA (pv 11 (hv := v_law_program__law_deep)) pe_int (nomark _)) (pw_and1 (PW.pt' (pw_or (pt_cmpR op_neA (pv 8 (hv := v_law_program__law_kind)) pe_int (nomark _)) (pw_or1 (pt_cmpR op_gt (pv 6 (hv := v_law_program__law_lends)) pe_int (nomark _)))))))))) (pss_cons (ps_let 5 sc_law_program.nd (pe_op op_sub (pv 5 (hv := v_law_program__law_left)) pe_int) (hx := l_law_program__law_left))
      (pss_cons (ps_let 6 sc_law_program.nd (pe_op op_sub (pv 6 (hv := v_law_program__law_lends)) (pe_bty call_intA z_int bt_int (pa_cons (pe_cmpR op_eqA (pv 8 (hv := v_law_program__law_kind)) pe_int (nomark _)) pa_nil) (hg := gl_law_program_int))) (hx := l_law_program__law_lends))
      (pss_cons (ps_let 4 sc_law_program.nd (pe_cal c_law_begun hr (pa_cons (pv 4 (hv := v_law_program__law_here)) (pa_cons (pv 3 (hv := v_law_program__law_pile)) (pa_cons (pv 7 (hv := v_law_program__law_cell)) (pa_cons (pv 9 (hv := v_law_program__law_x)) (pa_cons (pv 10 (hv := v_law_program__law_y)) pa_nil))))) (hg := gl_law_program__law_begun)) (hx := l_law_program__law_here))
      (pss_one (ps_expr (pe_bmK K PySem.F.plainAttrs_list PySem.F.slot_list_append PySem.F.type_list_append mt_appendA (pv 2 (hv := v_law_program__law_lists)) (pa_cons (pv 4 (hv := v_law_program__law_here)) pa_nil))))))) (pss_one (ps_if (PW.pt' (pw_and (pt_cmpR op_ltA (pv 8 (hv := v_law_program__law_kind)) pe_int (nomark _)) (pw_and1 (pt_cmpR op_gt (pv 5 (hv := v_law_program__law_left)) pe_int (nomark _))))) (pss_cons (ps_let 5 sc_law_program.nd (pe_op op_sub (pv 5 (hv := v_law_program__law_left)) pe_int) (hx := l_law_program__law_left))
      (pss_one (ps_expr (pe_bmK K PySem.F.plainAttrs_list PySem.F.slot_list_append PySem.F.type_list_append mt_appendA (pv 4 (hv := v_law_program__law_here)) (pa_cons (pe_cal c_law_step hr (pa_cons (pv 7 (hv := v_law_program__law_cell)) (pa_cons (pv 9 (hv := v_law_program__law_x)) (pa_cons (pv 10 (hv := v_law_program__law_y)) pa_nil))) (hg := gl_law_program__law_step)) pa_nil))))) pss_nil)))))))))))
      (pss_one (ps_ret (pv 2 (hv := v_law_program__law_lists)))))))))), ?_⟩
  walk_at "rd1"
  refine ⟨by decide, fun root hroot => ⟨by decide, fun lp hlp => ?_⟩⟩
  walk_at "nx"
  refine ⟨by decide, fun pp hpp => ?_⟩
  obtain ⟨p1, hpp⟩ := none_split hpp
  obtain ⟨p2, hpp⟩ := none_split hpp
  obtain ⟨l1, hlp⟩ := none_split hlp
  have elp : upd (upd (upd H root (.lst [])) lp (.lst [.ref root])) pp (.lst []) lp = some (.lst ([root].map V.ref)) := by rw [upd_ne (Ne.symm p1)]; exact upd_same
  have I0 : BInv H (upd (upd (upd H root (.lst [])) lp (.lst [.ref root])) pp (.lst [])) root lp pp root ⟨[], [], [], 60, 3⟩ 9 [] (fun _ => False) [] [] := by
    refine ⟨.nil, upd_same, .nil, by rw [upd_ne (Ne.symm p2), upd_ne (Ne.symm l1)]; exact upd_same, .nil, ⟨_, elp⟩, by simp, fun a ha => ?_, Ne.symm p1, ⟨id, id, hlp, hpp⟩, fun b hb => hb.elim, ?_⟩
    · have : a = root := by simpa using ha
      subst this
      exact ⟨id, Ne.symm l1, Ne.symm p2, hroot, _, by rw [upd_ne (Ne.symm p2), upd_ne (Ne.symm l1)]; exact upd_same⟩
    · exact (((same_new hroot _).upd hlp _).upd hpp _)
  have G0 : GOk nm ⟨[], [], [], 60, 3⟩ 9 := ⟨rfl, by decide, gd_nil nm _, trivial, by decide, by decide, by decide, by decide⟩
  generalize upd (upd (upd H root (.lst [])) lp (.lst [.ref root])) pp (.lst []) = H1 at I0 elp ⊢
  walk_at "nx"
  refine ⟨_, _, .inl (SqL.of elp), at0, ?_⟩
  walk_at "nx"
  walk_at "nx"
  walk_at "nx"
  refine ⟨⟨_, SqL.of (I0.sm _ _ hca)⟩, ?_⟩
  refine forW_list (xs := cs.map V.int) (fun i σ H' => ∃ (here : Addr) (d : Nat) (pr : List (Str × Addr)) (S : Addr → Prop) (as es : List Addr) (st : BS) (lv : List Addr) (o7 o8 o9 o10 o11 o12 : Option V), σ = [some (.ref ca), some (.ref na), some (.ref lp), some (.ref pp), some (.ref here), some (.int st.left), some (.int st.lends), o7, o8, o9, o10, o11, o12] ∧
      BInv H H' root lp pp here st d pr S as es ∧ GOk nm st d ∧ H' lp = some (.lst (lv.map V.ref)) ∧ JOk pp lp H' here pr lv ∧ lv[0]? = some root ∧ lv.length ≤ i + 1)
    ⟨root, 9, [], _, [], [], ⟨[], [], [], 60, 3⟩, [root], none, none, none, none, none, none, rfl, I0, G0, elp, fun a ha => ⟨root, by simp, by rw [List.mem_singleton.mp ha]; exact .here _⟩, rfl, by simp⟩ (fun i σ H' _ h => by obtain ⟨_, _, _, _, _, _, _, _, _, _, _, _, _, _, _, I, _⟩ := h; exact SqL.of (I.sm _ _ hca)) ?_ ?_
  · rintro i v σ H' hv ⟨here, d, pr, S, as, es, st, lv, o7, o8, o9, o10, o11, o12, rfl, I, G, hlv, hJ, hlv0, hlvn⟩
    have hi : i < cs.length := by have := (List.getElem?_eq_some_iff.mp hv).1; simpa using this
    rw [List.getElem?_map, List.getElem?_eq_getElem hi] at hv
    cases hv
    generalize cs[i] = c
    obtain ⟨dd1, dd2, dd3⟩ := I.ctx.deep
    have hes := paired_len I.ents
    rw [List.length_reverse] at hes
    have hal := paired_len I.steps
    have hcl := gok_len G
    have ha := I.sm _ _ hna
    walk_at "rd1"
    refine ⟨by decide, ?_⟩
    walk_at "nx"
    obtain ⟨x, hxm, hxa⟩ := nm4_at hn4 (c * 48271 % 1009)
    refine ⟨.inr ⟨by decide, by decide⟩, by decide, by decide, _, _, .inl (SqL.of ha), hxa, ?_⟩
    walk_at "nx"
    obtain ⟨y, hym, hya⟩ := nm4_at hn4 (c * 69621 % 2003)
    refine ⟨.inr ⟨by decide, by decide⟩, by decide, by decide, _, _, .inl (SqL.of ha), hya, ?_⟩
    walk_at "nx"
    refine ⟨⟨_, SqL.of I.pile⟩, fun C hC => ?_⟩
    refine compT_list (xs := es.map V.ref) (fun j ys H2 => Same H' H2 ∧ H2 C = some (.lst ys) ∧ ys.length = notEls (pr.reverse.take j)) ⟨same_new hC _, upd_same, rfl⟩ (fun j ys H2 _ h => SqL.of (h.1 _ _ I.pile)) ?_ ?_
    · rintro j ys H2 x hx hj ⟨sm2, hl2, hn2⟩
      rw [List.length_map] at hj
      rw [List.getElem?_map, List.getElem?_eq_getElem hj] at hx
      cases hx
      obtain ⟨qq, hqq, hent⟩ := paired_at I.ents (List.getElem?_eq_getElem hj)
      have htk : pr.reverse.take (j + 1) = pr.reverse.take j ++ [qq] := by rw [List.take_add_one, hqq]; rfl
      have hns : notEls (pr.reverse.take j ++ [qq]) = notEls (pr.reverse.take j) + notEls [qq] := by unfold notEls; rw [List.filter_append, List.length_append]
      have hle : notEls (pr.reverse.take j) ≤ j := by
        unfold notEls
        have := List.length_filter_le (fun q : Str × Addr => decide (q.1 ≠ ("else" : Str))) (pr.reverse.take j)
        rw [List.length_take] at this
        omega
      walk_at "rd1"
      refine ⟨_, _, .inr (SqT.of (sm2 _ _ hent)), at0, ?_⟩
      walk_at "rd1"
      refine ite2 (fun c1 => ?_) (fun c1 => ?_)
      · have hq1 : qq.1 ≠ "else" := by simpa using c1
        refine cstepT (by rw [List.length_map]; exact hj) (by rw [hn2]; exact hle) (by rw [List.length_map]; exact smallL (by omega)) hl2 ⟨sm2.upd hC _, upd_same, ?_⟩
        obtain ⟨q1, q2⟩ := qq
        rw [htk, hns, els_pos hq1, List.length_append, hn2]; rfl
      · have hq1 : qq.1 = "else" := by simpa using c1
        refine cskip (by rw [List.length_map]; exact hj) ⟨sm2, hl2, ?_⟩
        obtain ⟨q1, q2⟩ := qq
        dsimp only at hq1
        subst hq1
        rw [htk, hns, els_neg, hn2]; rfl
    rintro ys H2 ⟨sm2, hl2, hn2⟩
    have hdeep : ys.length = st.stk.length := by
      rw [hn2, List.length_map, List.take_of_length_le (by rw [List.length_reverse]; omega), ← dd2]
      unfold notEls
      rw [List.filter_reverse, List.length_reverse]
    have I2 := I.alloc sm2
    have hlv2 := sm2 _ _ hlv
    have hJ2 : JOk pp lp H2 here pr lv := hJ.step (Grow.of sm2) (fun _ z => z)
    walk_at "rd1"
    refine ⟨_, .inl (SqL.of hl2), ?_⟩
    rw [hdeep]
    walk_at "nx"
    obtain ⟨_, hhl, hhp, _, _⟩ := I.apart here List.mem_cons_self
    refine ite2 (fun c1 => ?_) (fun c1 => ?_)
    · refine ⟨by decide, fun np hnp => ?_⟩
      have sm3 := same_new hnp (.lst [])
      have e3 : upd H2 np (.lst []) np = some (.lst []) := upd_same
      generalize upd H2 np (.lst []) = H3 at sm3 e3 ⊢
      have I3 := I2.alloc sm3
      have hlv3 := sm3 _ _ hlv2
      have hJ3 : JOk pp lp H3 here pr lv := hJ2.step (Grow.of sm3) (fun _ z => z)
      rcases pr with _ | ⟨⟨wd, up⟩, pr'⟩
      · have hes0 : es = [] := List.length_eq_zero_iff.mp hes
        subst hes0
        refine ⟨0, true, by decide, EqN.seqFlat (.inl ⟨SqL.of I3.pile, SqL.of e3⟩) (by simp), ?_⟩
        walk_at "rd1"
        refine ite2 (fun c2 => ?_) (fun c2 => absurd c2 (by omega))
        refine ite2 (fun c3 => absurd c3 (by omega)) (fun c3 => ?_)
        refine ite2 (fun c4 => absurd c4 (by omega)) (fun c4 => ?_)
        exact ⟨here, d, _, S, as, _, st, lv, _, _, _, _, _, _, rfl, I3, G, hlv3, hJ3, hlv0, by omega⟩
      · rcases List.eq_nil_or_concat es with z | ⟨es0, e, z⟩
        · rw [z] at hes; simp at hes
        rw [List.concat_eq_append] at z
        subst z
        have hent : H3 e = some (.tup [.str wd, .ref up]) := by
          have := I3.ents
          rw [List.reverse_cons] at this
          exact (paired_init this).2
        have npe : e ≠ pp := ne_of hent I3.pile (fun z => nomatch z)
        refine ⟨0, false, by decide, .inr ⟨pp, np, _, _, rfl, rfl, .inl ⟨SqL.of I3.pile, SqL.of e3⟩, .inr ⟨SqL.of I3.pile, SqL.of e3, by simp, rfl⟩⟩, ?_⟩
        walk_at "rd1"
        refine ⟨⟨_, SqL.of I3.pile⟩, _, .ref e, I3.pile, by simp, e, [.str wd, .ref up], rfl, SqT.of (by rw [upd_ne npe]; exact hent), rfl, _, _, rfl, _, _, rfl, rfl, ?_⟩
        have hdl : (List.map V.ref (es0 ++ [e])).dropLast = es0.map V.ref := by rw [List.map_append]; exact List.dropLast_concat
        rw [hdl]
        have hl4 : upd H3 pp (.lst (es0.map V.ref)) lp = some (.lst (lv.map V.ref)) := by rw [upd_ne I.lpp]; exact hlv3
        obtain ⟨d', as', I4⟩ := I3.pop (H' := upd H3 pp (.lst (es0.map V.ref))) (fun b o eb n1 n2 => by rw [upd_ne n1]; exact eb) upd_same ⟨_, hl4⟩
        obtain ⟨d2, G4⟩ := popB_gok G
        have hdd : d2 = d' := by have h1 := G4.dep; have h2 := I4.ctx.deep.1; omega
        subst hdd
        have hap : ∀ q ∈ (wd, up) :: pr', q.2 ≠ pp ∧ q.2 ≠ lp := fun q hq => by
          obtain ⟨_, y2, y3, _⟩ := I.apart q.2 (List.mem_cons_of_mem _ (List.mem_map_of_mem hq))
          exact ⟨y3, y2⟩
        have g1 : Grow pp lp H3 (upd H3 pp (.lst (es0.map V.ref))) := ⟨fun b xs eb n1 n2 => ⟨[], by rw [upd_ne n1, List.append_nil]; exact eb⟩, fun b xs eb => by rw [upd_ne (ne_of eb I3.pile (fun z => nomatch z))]; exact eb⟩
        have hJ4 := hJ3.pop I3.ctx hap g1
        generalize upd H3 pp (.lst (es0.map V.ref)) = H4 at hl4 I4 hJ4 ⊢
        obtain ⟨ll1, ll2⟩ := popB_ll st
        walk_at "nx"
        refine ite2 (fun c2 => ?_) (fun c2 => ?_)
        · refine ⟨⟨_, SqL.of hl4⟩, _, hl4, by rw [List.length_map]; exact small' (by omega), ?_⟩
          have g2 : Grow pp lp H4 (upd H4 lp (.lst (lv.map V.ref ++ [.ref up]))) := grow_side hl4 _
          refine ⟨up, d2, pr', _, as', es0, popB st, lv ++ [up], some (.int c), some (.int (c % 13)), some (.str x), some (.str y), some (.int (st.stk.length : Int)), some (.str wd), by rw [ll1, ll2], I4.side _, G4, by rw [upd_same, List.map_append]; rfl, fun a ha => ?_, ?_, by rw [List.length_append]; simp; omega⟩
          · rcases List.mem_append.mp ha with z | z
            · exact (hJ4.step g2 (fun _ z => z)) a z
            · rw [List.mem_singleton.mp z]; exact ⟨up, List.mem_cons_self, .here _⟩
          · rw [List.getElem?_append_left (by have := (List.getElem?_eq_some_iff.mp hlv0).1; exact this)]; exact hlv0
        · exact ⟨up, d2, pr', _, as', es0, popB st, lv, some (.int c), some (.int (c % 13)), some (.str x), some (.str y), some (.int (st.stk.length : Int)), some (.str wd), by rw [ll1, ll2], I4, G4, hl4, hJ4, hlv0, by omega⟩
    · refine ite2 (fun c2 => ?_) (fun c2 => ?_)
      · refine ite2 (fun c3 => ?_) (fun c3 => absurd c3 (by omega))
        refine ite2 (fun c4 => ?_) (fun c4 => ?_)
        rotate_left
        · refine ite2 (fun c9 => absurd c9 (by omega)) (fun c9 => ?_)
          exact ⟨here, d, pr, S, as, es, st, lv, _, _, _, _, _, _, rfl, I2, G, hlv2, hJ2, hlv0, by omega⟩
        refine ite2 (fun c5 => ?_) (fun c5 => ?_)
        rotate_left
        · refine ite2 (fun c9 => absurd c9 (by omega)) (fun c9 => ?_)
          exact ⟨here, d, pr, S, as, es, st, lv, _, _, _, _, _, _, rfl, I2, G, hlv2, hJ2, hlv0, by omega⟩
        obtain ⟨d', rfl⟩ : ∃ d', d = d' + 1 := ⟨d - 1, by omega⟩
        refine ite2 (fun c6 => ?_) (fun c6 => ?_)
        · have c6' : c % 13 ≠ 8 := by simpa using c6
          walk_at "nx"
          walk_at "nx"
          refine ⟨here, pp, lp, c, x, y, H, root, ⟨st.cur, st.stk, st.L, st.left - 3, st.lends - (if c % 13 = 8 then 1 else 0)⟩, d', pr, S, as, es, rfl, I2.relab _ _ _, by omega, by omega, fun inner t H3 pr3 es3 I3 fr3 hh3 ho3 => ?_⟩
          have hl3 : H3 lp = some (.lst (lv.map V.ref)) := fr3 _ _ hlv2 (Ne.symm hhl) I.lpp
          walk_at "nx"
          refine ⟨⟨_, SqL.of hl3⟩, _, hl3, by rw [List.length_map]; exact small' (by omega), ?_⟩
          have g1 : Grow pp lp H2 H3 := grow_of (fun b o e n1 n2 n3 => fr3 b o e n1 n2) I2.cur hh3 I2.pile hlv2
          have g2 : Grow pp lp H3 (upd H3 lp (.lst (lv.map V.ref ++ [.ref inner]))) := grow_side hl3 _
          refine ⟨inner, d', pr3, S, [], es3, ⟨[], openF4 x y c st.cur :: st.stk, st.L, st.left - 3, st.lends - (if c % 13 = 8 then 1 else 0)⟩, lv ++ [inner], _, _, _, _, _, _, rfl, I3.side _, gok_begun G (by omega) hxm hym hnw c4 (fun z => absurd z c6'), by rw [upd_same, List.map_append]; rfl, fun a ha => ?_, ?_, by rw [List.length_append]; simp; omega⟩
          · rcases List.mem_append.mp ha with z | z
            · exact ((hJ2.step g1 ho3).step g2 (fun _ z => z)) a z
            · rw [List.mem_singleton.mp z]; exact ⟨inner, List.mem_cons_self, .here _⟩
          · rw [List.getElem?_append_left (by have := (List.getElem?_eq_some_iff.mp hlv0).1; exact this)]; exact hlv0
        have c8 : c % 13 = 8 := by simpa using c6
        refine ite2 (fun c7 => ?_) (fun c7 => ?_)
        · have c7' : 0 < st.lends := by omega
          walk_at "nx"
          walk_at "nx"
          refine ⟨here, pp, lp, c, x, y, H, root, ⟨st.cur, st.stk, st.L, st.left - 3, st.lends - (if c % 13 = 8 then 1 else 0)⟩, d', pr, S, as, es, rfl, I2.relab _ _ _, by omega, by omega, fun inner t H3 pr3 es3 I3 fr3 hh3 ho3 => ?_⟩
          have hl3 : H3 lp = some (.lst (lv.map V.ref)) := fr3 _ _ hlv2 (Ne.symm hhl) I.lpp
          walk_at "nx"
          refine ⟨⟨_, SqL.of hl3⟩, _, hl3, by rw [List.length_map]; exact small' (by omega), ?_⟩
          have g1 : Grow pp lp H2 H3 := grow_of (fun b o e n1 n2 n3 => fr3 b o e n1 n2) I2.cur hh3 I2.pile hlv2
          have g2 : Grow pp lp H3 (upd H3 lp (.lst (lv.map V.ref ++ [.ref inner]))) := grow_side hl3 _
          refine ⟨inner, d', pr3, S, [], es3, ⟨[], openF4 x y c st.cur :: st.stk, st.L, st.left - 3, st.lends - (if c % 13 = 8 then 1 else 0)⟩, lv ++ [inner], _, _, _, _, _, _, rfl, I3.side _, gok_begun G (by omega) hxm hym hnw c4 (fun _ => c7'), by rw [upd_same, List.map_append]; rfl, fun a ha => ?_, ?_, by rw [List.length_append]; simp; omega⟩
          · rcases List.mem_append.mp ha with z | z
            · exact ((hJ2.step g1 ho3).step g2 (fun _ z => z)) a z
            · rw [List.mem_singleton.mp z]; exact ⟨inner, List.mem_cons_self, .here _⟩
          · rw [List.getElem?_append_left (by have := (List.getElem?_eq_some_iff.mp hlv0).1; exact this)]; exact hlv0
        refine ite2 (fun c9 => absurd c9 (by omega)) (fun c9 => ?_)
        exact ⟨here, d' + 1, pr, S, as, es, st, lv, _, _, _, _, _, _, rfl, I2, G, hlv2, hJ2, hlv0, by omega⟩
      · refine ite2 (fun c3 => ?_) (fun c3 => absurd c3 (by omega))
        refine ite2 (fun c4 => ?_) (fun c4 => ?_)
        rotate_left
        · exact ⟨here, d, pr, S, as, es, st, lv, _, _, _, _, _, _, rfl, I2, G, hlv2, hJ2, hlv0, by omega⟩
        walk_at "nx"
        refine ⟨⟨_, SqL.of I2.cur⟩, c, x, y, nm, rfl, hxm, hym, hnw, fun t H3 ws sm3 ht hat hgw => ?_⟩
        have I3 := I2.alloc sm3
        have hlv3 := sm3 _ _ hlv2
        have nth : t ≠ here := ne_of hat I3.cur (fun z => nomatch z)
        refine ⟨_, I3.cur, by rw [List.length_map]; exact small' (by omega), ?_⟩
        have hll : upd H3 here (.lst (as.map V.ref ++ [.ref t])) lp = some (.lst (lv.map V.ref)) := by rw [upd_ne (Ne.symm hhl)]; exact hlv3
        have I5 := I3.plain (H' := upd H3 here (.lst (as.map V.ref ++ [.ref t]))) (t := t) (ws := ws) (L' := st.L) (lf := st.left - 1) (ld := st.lends) (fun b o eb n1 n2 n3 => by rw [upd_ne n1]; exact eb) (by rw [upd_same, List.map_append]; rfl) (by rw [upd_ne nth]; exact hat) ⟨_, hll⟩ (by rw [upd_ne (Ne.symm hhp)]; exact I3.pile)
        have g1 : Grow pp lp H3 (upd H3 here (.lst (as.map V.ref ++ [.ref t]))) := grow_of (fun b o e n1 n2 n3 => by rw [upd_ne n1]; exact e) I3.cur upd_same I3.pile hlv3
        exact ⟨here, d, pr, S, as ++ [t], es, _, lv, _, _, _, _, _, _, rfl, I5, gok_plain G hgw c4, hll, (hJ2.step (Grow.of sm3) (fun _ z => z)).step g1 (fun _ z => z), hlv0, by omega⟩
  · rintro σ H' ⟨here, d, pr, S, as, es, st, lv, o7, o8, o9, o10, o11, o12, rfl, I, G, hlv, hJ, hlv0, hlvn⟩
    rw [List.length_map] at hlvn
    walk_at "nx"
    obtain ⟨S', as', z2, z5, z6, z7, z8, z10, z11⟩ := popAll pr.length rfl I
    have hgood := gok_good (popN_gok pr.length st ⟨d, G⟩) z2
    have hap : ∀ q ∈ pr, q.2 ≠ pp ∧ q.2 ≠ lp := fun q hq => by
      obtain ⟨_, y2, y3, _⟩ := I.apart q.2 (List.mem_cons_of_mem _ (List.mem_map_of_mem hq))
      exact ⟨y3, y2⟩
    refine q lp pp root H' (fun b => S' b ∨ b = root) (popN pr.length st).cur lv I.sm hlv hlv0 (by omega) ⟨.inr rfl, as', z7, Paired.imp' (fun a s z => stpAt.imp (fun _ _ e => e) (fun q b y => ProgAt.imp (fun _ _ e => e) (fun _ _ _ e => e) (fun b z => .inl z) 9 y) z) z8⟩ hgood (fun z => z.elim z5 (fun z => z10 z.symm)) (fun a ha => ?_) I.off.2.2.1
    obtain ⟨o, ho1, ho2⟩ := hJ a ha
    exact (I.ctx.occ hap o ho1).trans ho2
end
/-! ### what gathers fails -/
def FineQ (G : Nat → Addr → List Addr → Bool → Prop) (q : Addr) : Prop := ∀ n, ∃ o b, G n q o b
def FailQ (G : Nat → Addr → List Addr → Bool → Prop) (q : Addr) : Prop := ∀ n, ∃ o, G n q o false
theorem FailQ.fine {G : Nat → Addr → List Addr → Bool → Prop} {q : Addr} (h : FailQ G q) : FineQ G q := fun n => let ⟨o, z⟩ := h n; ⟨o, false, z⟩
theorem gb_fine {G : Nat → Addr → List Addr → Bool → Prop} : ∀ {bs : List Addr}, (∀ q ∈ bs, FineQ G q) → ∀ n, ∃ o b, GB G bs n o b
  | [], _, n => ⟨[], true, rfl, rfl⟩
  | q :: bs, h, n => by
    obtain ⟨o1, b1, z⟩ := h q List.mem_cons_self n
    cases b1 with
    | true =>
      obtain ⟨o2, b2, z2⟩ := gb_fine (fun q hq => h q (List.mem_cons_of_mem _ hq)) (n + o1.length)
      exact ⟨o1 ++ o2, b2, o1, true, z, by rw [if_pos rfl]; exact ⟨o2, z2, rfl⟩⟩
    | false => exact ⟨o1, false, o1, false, z, by rw [if_neg (by decide)]; exact ⟨rfl, rfl⟩⟩
theorem gb_fail {G : Nat → Addr → List Addr → Bool → Prop} : ∀ {bs : List Addr}, (∀ q ∈ bs, FineQ G q) → (∃ q ∈ bs, FailQ G q) → ∀ n, ∃ o, GB G bs n o false
  | [], _, ⟨q, hm, _⟩, n => by cases hm
  | q :: bs, h, ⟨q', hm, hf⟩, n => by
    by_cases hq : q' = q
    · subst hq
      obtain ⟨o1, z⟩ := hf n
      exact ⟨o1, o1, false, z, by rw [if_neg (by decide)]; exact ⟨rfl, rfl⟩⟩
    · have hm' : q' ∈ bs := (List.mem_cons.mp hm).resolve_left hq
      obtain ⟨o1, b1, z⟩ := h q List.mem_cons_self n
      cases b1 with
      | true =>
        obtain ⟨o2, z2⟩ := gb_fail (fun q hq => h q (List.mem_cons_of_mem _ hq)) ⟨q', hm', hf⟩ (n + o1.length)
        exact ⟨o1 ++ o2, o1, true, z, by rw [if_pos rfl]; exact ⟨o2, z2, rfl⟩⟩
      | false => exact ⟨o1, o1, false, z, by rw [if_neg (by decide)]; exact ⟨rfl, rfl⟩⟩
def StepFine (G : Nat → Addr → List Addr → Bool → Prop) (H : Hp) (x : V) : Prop := likeV H x = true → ∃ a k hs bs, StepP H x a k hs bs ∧ ∀ q ∈ bs, FineQ G q
def StepFail (G : Nat → Addr → List Addr → Bool → Prop) (H : Hp) (x : V) : Prop := likeV H x = false ∨ ∃ a k hs bs, StepP H x a k hs bs ∧ (∀ q ∈ bs, FineQ G q) ∧ ∃ q ∈ bs, FailQ G q
theorem StepFail.fine {G : Nat → Addr → List Addr → Bool → Prop} {H : Hp} {x : V} (h : StepFail G H x) : StepFine G H x := fun hl => by
  rcases h with z | ⟨a, k, hs, bs, sp, hf, _⟩
  · rw [hl] at z; cases z
  · exact ⟨a, k, hs, bs, sp, hf⟩
theorem like_not {H : Hp} {x : V} {ar n : Nat} (hc : ¬ (ar > 8 ∨ n = 60 ∨ likeV H x = false)) : ar ≤ 8 ∧ likeV H x = true := by
  refine ⟨by omega, ?_⟩
  cases e : likeV H x with
  | true => rfl
  | false => exact absurd (.inr (.inr e)) hc
theorem gl_fine {G : Nat → Addr → List Addr → Bool → Prop} {H : Hp} {ar : Nat} : ∀ {xs : List V}, (ar ≤ 8 → ∀ x ∈ xs, StepFine G H x) → ∀ n, ∃ o b, GL G H ar xs n o b
  | [], _, n => ⟨[], true, rfl, rfl⟩
  | x :: xs, h, n => by
    by_cases hc : ar > 8 ∨ n = 60 ∨ likeV H x = false
    · exact ⟨[], false, by unfold GL; rw [if_pos hc]; exact ⟨rfl, rfl⟩⟩
    · obtain ⟨har, hlk⟩ := like_not hc
      obtain ⟨a, k, hs, bs, sp, hf⟩ := h har x List.mem_cons_self hlk
      obtain ⟨o1, b1, z1⟩ := gb_fine hf (n + 1)
      cases b1 with
      | true =>
        obtain ⟨o2, b2, z2⟩ := gl_fine (xs := xs) (fun har y hy => h har y (List.mem_cons_of_mem _ hy)) (n + 1 + o1.length)
        refine ⟨a :: (o1 ++ o2), b2, ?_⟩
        unfold GL
        rw [if_neg hc]
        exact ⟨a, k, hs, bs, sp, o1, true, z1, by rw [if_pos rfl]; exact ⟨o2, z2, rfl⟩⟩
      | false =>
        refine ⟨a :: o1, false, ?_⟩
        unfold GL
        rw [if_neg hc]
        exact ⟨a, k, hs, bs, sp, o1, false, z1, by rw [if_neg (by decide)]; exact ⟨rfl, rfl⟩⟩
theorem gl_fail {G : Nat → Addr → List Addr → Bool → Prop} {H : Hp} {ar : Nat} {x : V} {post : List V} : ∀ {pre : List V}, (ar ≤ 8 → ∀ y ∈ pre, StepFine G H y) → (ar ≤ 8 → StepFail G H x) → ∀ n, ∃ o, GL G H ar (pre ++ x :: post) n o false
  | [], _, hx, n => by
    rw [List.nil_append]
    by_cases hc : ar > 8 ∨ n = 60 ∨ likeV H x = false
    · exact ⟨[], by unfold GL; rw [if_pos hc]; exact ⟨rfl, rfl⟩⟩
    · obtain ⟨har, hlk⟩ := like_not hc
      rcases hx har with z | ⟨a, k, hs, bs, sp, hf, hq⟩
      · rw [hlk] at z; cases z
      · obtain ⟨o1, z1⟩ := gb_fail hf hq (n + 1)
        refine ⟨a :: o1, ?_⟩
        unfold GL
        rw [if_neg hc]
        exact ⟨a, k, hs, bs, sp, o1, false, z1, by rw [if_neg (by decide)]; exact ⟨rfl, rfl⟩⟩
  | y :: pre, h, hx, n => by
    rw [List.cons_append]
    by_cases hc : ar > 8 ∨ n = 60 ∨ likeV H y = false
    · exact ⟨[], by unfold GL; rw [if_pos hc]; exact ⟨rfl, rfl⟩⟩
    · obtain ⟨har, hlk⟩ := like_not hc
      obtain ⟨a, k, hs, bs, sp, hf⟩ := h har y List.mem_cons_self hlk
      obtain ⟨o1, b1, z1⟩ := gb_fine hf (n + 1)
      cases b1 with
      | true =>
        obtain ⟨o2, z2⟩ := gl_fail (pre := pre) (fun har y hy => h har y (List.mem_cons_of_mem _ hy)) hx (n + 1 + o1.length)
        refine ⟨a :: (o1 ++ o2), ?_⟩
        unfold GL
        rw [if_neg hc]
        exact ⟨a, k, hs, bs, sp, o1, true, z1, by rw [if_pos rfl]; exact ⟨o2, z2, rfl⟩⟩
      | false =>
        refine ⟨a :: o1, ?_⟩
        unfold GL
        rw [if_neg hc]
        exact ⟨a, k, hs, bs, sp, o1, false, z1, by rw [if_neg (by decide)]; exact ⟨rfl, rfl⟩⟩
/-! a thing put into a list of a program -/
structure Put (S : Addr → Prop) (H H' : Hp) (a : Addr) (x : V) (k : Nat) : Prop where
  keep : ∀ b o, H b = some o → b ≠ a → H' b = some o
  was : ∃ xs, H a = some (.lst xs)
  now : ∀ xs, H a = some (.lst xs) → H' a = some (.lst (xs.take k ++ x :: xs.drop k))
  all : ∀ b o, H' b = some o → S b
  thing : ThingT H' x
  fail : ∀ e ar, e + ar = 9 → ar ≤ 8 → StepFail (Gth S e H' (ar + 1)) H' x
theorem Put.tup {S : Addr → Prop} {H H' : Hp} {a : Addr} {x : V} {k : Nat} (P : Put S H H' a x k) {b : Addr} {xs : List V} (h : H b = some (.tup xs)) : H' b = some (.tup xs) := P.keep b _ h (fun z => by obtain ⟨ys, e⟩ := P.was; rw [z, e] at h; cases h)
theorem Put.lst {S : Addr → Prop} {H H' : Hp} {a : Addr} {x : V} {k : Nat} (P : Put S H H' a x k) {b : Addr} {xs : List V} (h : H b = some (.lst xs)) : ∃ ys, H' b = some (.lst ys) := by
  by_cases hb : b = a
  · subst hb; exact ⟨_, P.now xs h⟩
  · exact ⟨_, P.keep b _ h hb⟩
theorem ln_blk {d : Nat} {T : List Stp} {s : Stp} (hs : s ∈ T) {b : List Stp} (hb : b ∈ blk s) : lnC d b ≤ lnC (d + 1) T := by
  have h1 := ln_mem d hs
  have h2 : lnC d b ≤ ((blk s).map (lnC d)).sum := by
    have : ∀ (l : List (List Stp)), b ∈ l → lnC d b ≤ (l.map (lnC d)).sum := by
      intro l
      induction l with
      | nil => intro h; cases h
      | cons c l ih =>
        intro h
        rw [List.map_cons, List.sum_cons]
        rcases List.mem_cons.mp h with rfl | h
        · omega
        · have := ih h; omega
    exact this _ hb
  omega
section
variable {S S0 : Addr → Prop} {H H' : Hp} {a : Addr} {x : V} {k : Nat}
/-- the things of a list of steps, in the new heap -/
theorem put_thing (P : Put S H H' a x k) {d : Nat} {T : List Stp} {as : List Addr} (h2 : Paired (stpAt (ProgAt S0 d H) H) as T) (hz : ∀ s ∈ T, szS (szT d) s) : ∀ t ∈ as, ThingT H' (.ref t) := fun t ht => by
  obtain ⟨i, hi⟩ := List.getElem?_of_mem ht
  obtain ⟨s, hs, z⟩ := paired_at h2 hi
  exact thingT_of (PA := fun q _ => ∃ xs, H' q = some (.lst xs)) (fun q b z => z) (stpAt.imp (fun b xs e => P.tup e) (fun q b y => by obtain ⟨ys, e⟩ := prog_lst y; exact P.lst e) z) (hz s (List.mem_of_getElem? hs))
theorem put_fine (P : Put S H H' a x k) : ∀ (d e ar : Nat) {p : Addr} {T : List Stp}, e + ar = 9 → ProgAt S0 d H p T → szT d T → lnC d T ≤ 60 → FineQ (Gth S (e + 1) H' ar) p
  | 0, _, _, _, _, _, h, _, _ => h.elim
  | d + 1, e, ar, p, T, hea, ⟨_, as, h1, h2⟩, hz, hl => fun n => by
    have hal := paired_len h2
    have hTl := ln_ge d T
    have hth := put_thing P h2 hz.2
    have el : ar ≤ 8 → ∀ t ∈ as, StepFine (Gth S e H' (ar + 1)) H' (.ref t) := fun har t ht _ => by
      obtain ⟨i, hi⟩ := List.getElem?_of_mem ht
      obtain ⟨s, hs, z⟩ := paired_at h2 hi
      have hsm := List.mem_of_getElem? hs
      have hsz := hz.2 s hsm
      obtain ⟨kd, hs', bs, e1, e2, e3, _⟩ := step_parts z (sz_ok hsz)
      refine ⟨t, kd, hs', bs, ⟨rfl, P.tup e1, e2⟩, fun q hq => ?_⟩
      obtain ⟨j, hj⟩ := List.getElem?_of_mem hq
      obtain ⟨b, hb, y⟩ := paired_at e3 hj
      have hbm := List.mem_of_getElem? hb
      cases e with
      | zero => omega
      | succ e => exact put_fine P d e (ar + 1) (by omega) y (sz_blk hsz b hbm) (Nat.le_trans (ln_blk hsm hbm) hl)
    by_cases hp : p = a
    · subst hp
      have hnow := P.now _ h1
      obtain ⟨o, b, z⟩ := gl_fine (G := Gth S e H' (ar + 1)) (H := H') (ar := ar) (xs := (as.map V.ref).take k ++ x :: (as.map V.ref).drop k) (fun har y hy => by
        rcases List.mem_append.mp hy with z | z
        · obtain ⟨t, ht, rfl⟩ := List.mem_map.mp (List.mem_of_mem_take z)
          exact el har t ht
        · rcases List.mem_cons.mp z with rfl | z
          · exact (P.fail e ar hea har).fine
          · obtain ⟨t, ht, rfl⟩ := List.mem_map.mp (List.mem_of_mem_drop z)
            exact el har t ht) n
      refine ⟨o, b, P.all _ _ hnow, _, hnow, fun y hy => ?_, ?_, z⟩
      · rcases List.mem_append.mp hy with z | z
        · obtain ⟨t, ht, rfl⟩ := List.mem_map.mp (List.mem_of_mem_take z)
          exact hth t ht
        · rcases List.mem_cons.mp z with rfl | z
          · exact P.thing
          · obtain ⟨t, ht, rfl⟩ := List.mem_map.mp (List.mem_of_mem_drop z)
            exact hth t ht
      · rw [List.length_append, List.length_cons, List.length_take, List.length_drop, List.length_map]; omega
    · have hk := P.keep _ _ h1 hp
      obtain ⟨o, b, z⟩ := gl_fine (G := Gth S e H' (ar + 1)) (H := H') (ar := ar) (xs := as.map V.ref) (fun har y hy => by
        obtain ⟨t, ht, rfl⟩ := List.mem_map.mp hy
        exact el har t ht) n
      exact ⟨o, b, P.all _ _ hk, _, hk, (fun y hy => by obtain ⟨t, ht, rfl⟩ := List.mem_map.mp hy; exact hth t ht), by rw [List.length_map]; omega, z⟩
theorem put_step (P : Put S H H' a x k) {d e ar : Nat} {T : List Stp} {as : List Addr} (hea : e + ar = 9) (h2 : Paired (stpAt (ProgAt S0 d H) H) as T) (hz : ∀ s ∈ T, szS (szT d) s) (hl : lnC (d + 1) T ≤ 60) : ar ≤ 8 → ∀ t ∈ as, StepFine (Gth S e H' (ar + 1)) H' (.ref t) := fun har t ht _ => by
  obtain ⟨i, hi⟩ := List.getElem?_of_mem ht
  obtain ⟨s, hs, z⟩ := paired_at h2 hi
  have hsm := List.mem_of_getElem? hs
  have hsz := hz s hsm
  obtain ⟨kd, hs', bs, e1, e2, e3, _⟩ := step_parts z (sz_ok hsz)
  refine ⟨t, kd, hs', bs, ⟨rfl, P.tup e1, e2⟩, fun q hq => ?_⟩
  obtain ⟨j, hj⟩ := List.getElem?_of_mem hq
  obtain ⟨b, hb, y⟩ := paired_at e3 hj
  have hbm := List.mem_of_getElem? hb
  cases e with
  | zero => omega
  | succ e => exact put_fine P d e (ar + 1) (by omega) y (sz_blk hsz b hbm) (Nat.le_trans (ln_blk hsm hbm) hl)
theorem put_here (P : Put S H H' a x k) {d e ar : Nat} {T : List Stp} (hea : e + ar = 9) (hp : ProgAt S0 d H a T) (hz : szT d T) (hl : lnC d T ≤ 60) : FailQ (Gth S (e + 1) H' ar) a := by
  cases d with
  | zero => exact hp.elim
  | succ d =>
    obtain ⟨_, as, h1, h2⟩ := hp
    intro n
    have hal := paired_len h2
    have hTl := ln_ge d T
    have hth := put_thing P h2 hz.2
    have el := put_step P hea h2 hz.2 hl
    have hnow := P.now _ h1
    obtain ⟨o, z⟩ := gl_fail (G := Gth S e H' (ar + 1)) (H := H') (ar := ar) (x := x) (post := (as.map V.ref).drop k) (pre := (as.map V.ref).take k) (fun har y hy => by
      obtain ⟨t, ht, rfl⟩ := List.mem_map.mp (List.mem_of_mem_take hy)
      exact el har t ht) (P.fail e ar hea) n
    refine ⟨o, P.all _ _ hnow, _, hnow, fun y hy => ?_, ?_, z⟩
    · rcases List.mem_append.mp hy with z | z
      · obtain ⟨t, ht, rfl⟩ := List.mem_map.mp (List.mem_of_mem_take z)
        exact hth t ht
      · rcases List.mem_cons.mp z with rfl | z
        · exact P.thing
        · obtain ⟨t, ht, rfl⟩ := List.mem_map.mp (List.mem_of_mem_drop z)
          exact hth t ht
    · rw [List.length_append, List.length_cons, List.length_take, List.length_drop, List.length_map]; omega
/-- a list that a step refers to is a block of it -/
theorem ref_blk {PA : Addr → List Stp → Prop} {t q : Addr} {ys : List V} {g : List Stp → Prop} : ∀ {s : Stp}, stpAt PA H t s → okNS g s → H t = some (.tup ys) → V.ref q ∈ ys → ∃ (kind : Str) (hs : List V) (bs : List Addr), H t = some (.tup (.str kind :: hs ++ bs.map V.ref)) ∧ bs.length = (closT kind).length ∧ Paired PA bs (blk s) ∧ ∃ (j : Nat) (b : List Stp), bs[j]? = some q ∧ (blk s)[j]? = some b
  | .plain ws, h, _, hy, hq => by
    have h' : H t = some (.tup (ws.map V.str)) := h
    rw [hy] at h'; cases h'
    obtain ⟨w, _, e⟩ := List.mem_map.mp hq
    cases e
  | .lend u v b, ⟨r, h, z⟩, _, hy, hq => by
    rw [hy] at h; cases h
    have e : q = r := by simpa using hq
    subst e
    exact ⟨"lend", [.str u, .str v], [q], hy, by show 1 = (closT "lend").length; decide, .cons z .nil, 0, b, rfl, rfl⟩
  | .ite n b c, ⟨r, r', h, z, y⟩, _, hy, hq => by
    rw [hy] at h; cases h
    have e : q = r ∨ q = r' := by simpa using hq
    rcases e with e | e
    · subst e; exact ⟨"if", [.int n], [q, r'], hy, by show 2 = (closT "if").length; decide, .cons z (.cons y .nil), 0, b, rfl, rfl⟩
    · subst e; exact ⟨"if", [.int n], [r, q], hy, by show 2 = (closT "if").length; decide, .cons z (.cons y .nil), 1, c, rfl, rfl⟩
  | .whl n b, ⟨r, h, z⟩, _, hy, hq => by
    rw [hy] at h; cases h
    have e : q = r := by simpa using hq
    subst e
    exact ⟨"while", [.int n], [q], hy, by show 1 = (closT "while").length; decide, .cons z .nil, 0, b, rfl, rfl⟩
theorem put_fail (P : Put S H H' a x k) {pp lp p : Addr} (ho : Occ pp lp H p a) : ∀ (d e ar : Nat) {T : List Stp}, e + ar = 9 → ProgAt S0 d H p T → szT d T → lnC d T ≤ 60 → FailQ (Gth S (e + 1) H' ar) p := by
  induction ho with
  | here _ => intro d e ar T hea hp hz hl; exact put_here P hea hp hz hl
  | @down p t q a xs ys n1 n2 h1 h2 h3 h4 _ ih =>
    intro d e ar T hea hp hz hl
    by_cases hpa : p = a
    · subst hpa; exact put_here P hea hp hz hl
    cases d with
    | zero => exact hp.elim
    | succ d =>
      obtain ⟨_, as, g1, g2⟩ := hp
      intro n
      rw [h1] at g1; cases g1
      have hal := paired_len g2
      have hTl := ln_ge d T
      have hth := put_thing P g2 hz.2
      have el := put_step P hea g2 hz.2 hl
      have hk := P.keep _ _ h1 hpa
      obtain ⟨t', ht, et⟩ := List.mem_map.mp h2
      cases et
      obtain ⟨i, hi⟩ := List.getElem?_of_mem ht
      obtain ⟨s, hs, z⟩ := paired_at g2 hi
      have hsm := List.mem_of_getElem? hs
      have hsz := hz.2 s hsm
      obtain ⟨kd, hs', bs, e1, e2, e3, j, b, hj, hb⟩ := ref_blk z (sz_ok hsz) h3 h4
      have stf : ar ≤ 8 → StepFail (Gth S e H' (ar + 1)) H' (.ref t) := fun har => by
        have fin : ∀ q' ∈ bs, ∃ b', b' ∈ blk s ∧ ProgAt S0 d H q' b' := fun q' hq' => by
          obtain ⟨j', hj'⟩ := List.getElem?_of_mem hq'
          obtain ⟨b', hb', y'⟩ := paired_at e3 hj'
          exact ⟨b', List.mem_of_getElem? hb', y'⟩
        cases e with
        | zero => omega
        | succ e =>
          refine .inr ⟨t, kd, hs', bs, ⟨rfl, P.tup e1, e2⟩, fun q' hq' => ?_, q, List.mem_of_getElem? hj, ?_⟩
          · obtain ⟨b', hb', y'⟩ := fin q' hq'
            exact put_fine P d e (ar + 1) (by omega) y' (sz_blk hsz b' hb') (Nat.le_trans (ln_blk hsm hb') hl)
          · obtain ⟨b', hb', y'⟩ := paired_at e3 hj
            have hbm := List.mem_of_getElem? hb'
            exact ih P d e (ar + 1) (by omega) y' (sz_blk hsz b' hbm) (Nat.le_trans (ln_blk hsm hbm) hl)
      obtain ⟨pre, post, hpp⟩ := List.append_of_mem h2
      obtain ⟨o, z⟩ := gl_fail (G := Gth S e H' (ar + 1)) (H := H') (ar := ar) (x := .ref t) (post := post) (pre := pre) (fun har y hy => by
        obtain ⟨t', ht', rfl⟩ := List.mem_map.mp (show y ∈ as.map V.ref by rw [hpp]; exact List.mem_append.mpr (.inl hy))
        exact el har t' ht') stf n
      refine ⟨o, P.all _ _ hk, _, hk, (fun y hy => by obtain ⟨t', ht', rfl⟩ := List.mem_map.mp hy; exact hth t' ht'), by rw [List.length_map]; omega, ?_⟩
      rw [hpp]; exact z
end
section
variable {P : Program} {w : World} {K : PySem.W.Frag} {mg : Str → Option Value} {base : Heap}
/-! ### bad things -/
def PlainL (H : Hp) (q : Addr) : Prop := ∃ xs, H q = some (.lst xs) ∧ xs.length ≤ 1000 ∧ (∀ x ∈ xs, ThingT H x) ∧ ∀ x ∈ xs, likeV H x = true → ∃ t k hs, StepP H x t k hs []
def BadL (H : Hp) (q : Addr) : Prop := ∃ pre x post, H q = some (.lst (pre ++ x :: post)) ∧ likeV H x = false
def BadV (H0 H : Hp) (v : V) : Prop := ThingT H v ∧ (likeV H v = false ∨ ∃ t k hs bs, StepP H v t k hs bs ∧ (∀ q ∈ bs, PlainL H q ∧ H0 q = none) ∧ ∃ q ∈ bs, BadL H q)
theorem BadV.put {H0 H H' : Hp} {a : Addr} {v : V} (hb : BadV H0 H v) (f : FrL H H' a) (ha : ∃ o, H0 a = some o) : ThingT H' v ∧ ∀ S : Addr → Prop, (∀ b o, H' b = some o → S b) → ∀ e ar, e + ar = 9 → ar ≤ 8 → StepFail (Gth S e H' (ar + 1)) H' v := by
  obtain ⟨h1, h2⟩ := hb
  obtain ⟨k1, k2⟩ := f.thingT h1
  refine ⟨k1, fun S hS e ar hea har => ?_⟩
  rcases h2 with z | ⟨t, k, hs, bs, sp, hq, q0, hq0, pre, x, post, hbad, hx⟩
  · exact .inl (by rw [k2]; exact z)
  · have nq : ∀ q ∈ bs, q ≠ a := fun q hqm z => by
      obtain ⟨o, e⟩ := ha
      rw [← z, (hq q hqm).2] at e; cases e
    have sf : ∀ (G : Nat → Addr → List Addr → Bool → Prop) (q : Addr), q ∈ bs → ∀ xs, H q = some (.lst xs) → ∀ y ∈ xs, StepFine G H' y := fun G q hqm xs hxs y hy hl => by
      obtain ⟨xs', c1, _, c3, c4⟩ := (hq q hqm).1
      rw [hxs] at c1; cases c1
      obtain ⟨_, g2⟩ := f.thingT (c3 y hy)
      obtain ⟨t', k', hs', sp'⟩ := c4 y hy (by rw [← g2]; exact hl)
      exact ⟨t', k', hs', [], ⟨sp'.ref, f.tup sp'.at', sp'.bl⟩, fun q hq => by cases hq⟩
    have gth : ∀ (e' : Nat) (q : Addr), q ∈ bs → ∀ xs n o b, H q = some (.lst xs) → GL (Gth S e' H' (ar + 1 + 1)) H' (ar + 1) xs n o b → Gth S (e' + 1) H' (ar + 1) n q o b := fun e' q hqm xs n o b hxs z => by
      obtain ⟨xs', c1, c2, c3, _⟩ := (hq q hqm).1
      rw [hxs] at c1; cases c1
      have hk := f.keep _ _ hxs (nq q hqm)
      exact ⟨hS _ _ hk, xs, hk, fun y hy => (f.thingT (c3 y hy)).1, c2, z⟩
    cases e with
    | zero => omega
    | succ e =>
      refine .inr ⟨t, k, hs, bs, ⟨sp.ref, f.tup sp.at', sp.bl⟩, fun q hqm n => ?_, q0, hq0, fun n => ?_⟩
      · obtain ⟨xs', c1, _⟩ := (hq q hqm).1
        obtain ⟨o, b, z⟩ := gl_fine (G := Gth S e H' (ar + 1 + 1)) (H := H') (ar := ar + 1) (xs := xs') (fun _ y hy => sf _ q hqm _ c1 y hy) n
        exact ⟨o, b, gth e q hqm _ n o b c1 z⟩
      · obtain ⟨xs', c1, _, c3, _⟩ := (hq q0 hq0).1
        have hxm : x ∈ xs' := by rw [hbad] at c1; cases c1; simp
        obtain ⟨_, g2⟩ := f.thingT (c3 x hxm)
        obtain ⟨o, z⟩ := gl_fail (G := Gth S e H' (ar + 1 + 1)) (H := H') (ar := ar + 1) (x := x) (post := post) (pre := pre) (fun _ y hy => sf _ q0 hq0 _ hbad y (List.mem_append.mpr (.inl hy))) (fun _ => .inl (by rw [g2]; exact hx)) n
        exact ⟨o, gth e q0 hq0 _ n o false hbad z⟩
theorem thing_non (H : Hp) : Thing H .non := ⟨⟨"NoneType", rfl⟩, fun y e => by cases e⟩
theorem thing_bl (H : Hp) (b : Bool) : Thing H (.bl b) := ⟨⟨"bool", rfl⟩, fun y e => by cases e⟩
theorem thing_tup {H : Hp} {q : Addr} {xs : List V} (h : H q = some (.tup xs)) : Thing H (.ref q) := ⟨⟨"tuple", by simp [tyName, h]⟩, fun y e => by cases e⟩
theorem thingT_flat {H : Hp} {v : V} (h : Thing H v) (hn : ∀ a, v ≠ .ref a) : ThingT H v := ⟨h, fun a xs e => absurd e (hn a)⟩
theorem bad_non (H0 H : Hp) : BadV H0 H .non := ⟨thingT_flat (thing_non H) (fun a e => by cases e), .inl rfl⟩
theorem bad_bl (H0 H : Hp) (b : Bool) : BadV H0 H (.bl b) := ⟨thingT_flat (thing_bl H b) (fun a e => by cases e), .inl rfl⟩
theorem bad_int (H0 H : Hp) (i : Int) : BadV H0 H (.int i) := ⟨thingT_flat (thing_int H i) (fun a e => by cases e), .inl rfl⟩
theorem bad_str (H0 H : Hp) {x : Str} (h : x.length ≤ 20) : BadV H0 H (.str x) := ⟨thingT_flat (thing_str H h) (fun a e => by cases e), .inl rfl⟩
theorem bad_lst {H0 H : Hp} {p : Addr} {xs : List V} (h : H p = some (.lst xs)) : BadV H0 H (.ref p) := ⟨⟨thing_lst h, fun a ys e hy => by cases e; rw [h] at hy; cases hy⟩, .inl (by simp [likeV, h])⟩
theorem bad_dict {H0 H : Hp} {p : Addr} {xs : List (Key × V)} (h : H p = some (.dK xs)) : BadV H0 H (.ref p) := ⟨⟨⟨⟨"dict", by simp [tyName, h]⟩, fun y e => by cases e⟩, fun a ys e hy => by cases e; rw [h] at hy; cases hy⟩, .inl (by simp [likeV, h])⟩
theorem thingT_tup {H : Hp} {p : Addr} {xs : List V} (h : H p = some (.tup xs)) (ht : ∀ y ∈ xs, Thing H y) (hn : xs.length ≤ 1000) : ThingT H (.ref p) := ⟨thing_tup h, fun a ys e hy => by cases e; rw [h] at hy; cases hy; exact ⟨ht, hn⟩⟩
theorem bad_tup {H0 H : Hp} {p : Addr} {xs : List V} (h : H p = some (.tup xs)) (ht : ∀ y ∈ xs, Thing H y) (hn : xs.length ≤ 1000) (hl : likeT H xs = false) : BadV H0 H (.ref p) := ⟨thingT_tup h ht hn, .inl (by simp [likeV, h, hl])⟩
theorem all_cons {α : Type} {P : α → Prop} {x : α} {xs : List α} (h : P x) (t : ∀ y ∈ xs, P y) : ∀ y ∈ x :: xs, P y := fun y hy => by
  rcases List.mem_cons.mp hy with rfl | z
  · exact h
  · exact t y z
theorem all_app {α : Type} {P : α → Prop} {xs ys : List α} (h : ∀ y ∈ xs, P y) (t : ∀ y ∈ ys, P y) : ∀ y ∈ xs ++ ys, P y := fun y hy => (List.mem_append.mp hy).elim (h y) (t y)
theorem at_any {xs : List V} (h : 0 < xs.length) (c : Int) : ∃ v ∈ xs, atI xs (c % (xs.length : Int)) = some v := by
  have h0 : 0 ≤ c % (xs.length : Int) := Int.emod_nonneg _ (by omega)
  have h1 : c % (xs.length : Int) < xs.length := Int.emod_lt_of_pos _ (by omega)
  have hi : (c % (xs.length : Int)).toNat < xs.length := by omega
  refine ⟨xs[(c % (xs.length : Int)).toNat], List.getElem_mem hi, ?_⟩
  have q := atI_nat (List.getElem?_eq_getElem hi)
  rwa [show (((c % (xs.length : Int)).toNat : Nat) : Int) = c % (xs.length : Int) by omega] at q
theorem isL_lst {H : Hp} {q : Addr} {xs : List V} (h : H q = some (.lst xs)) : isL H (.ref q) = true := by simp [isL, tyName, h]
theorem isL_non (H : Hp) : isL H .non = false := by simp [isL, tyName]
theorem isL_tup {H : Hp} {q : Addr} {xs : List V} (h : H q = some (.tup xs)) : isL H (.ref q) = false := by simp [isL, tyName, h]
theorem word_app {x y : Str} (hx : wordS x = true) (hy : 8 ≤ y.length) : wordS (x ++ y) = false := by
  unfold wordS at hx ⊢
  rw [Bool.and_eq_true] at hx
  have h1 := (of_decide_eq_true hx.1).1
  rw [decide_eq_false (by rw [Str.length_append]; omega)]; rfl
theorem word_blank (x : Str) : wordS (x ++ Str.ofString " ") = false := by
  unfold wordS
  rw [Bool.and_eq_false_iff]
  refine .inr (List.all_eq_false.mpr ⟨32, ?_, by decide +kernel⟩)
  rw [app_cps]
  exact List.mem_append.mpr (.inr (by decide +kernel))
theorem val_shut : valK "shut" = none := by decide
theorem val_OPEN : valK "OPEN" = none := by decide
theorem val_back : valK "back" = none := by decide
theorem w_none : wordS (Str.ofString "") = false := by decide +kernel
theorem w_A : wordS (Str.ofString "A") = false := by decide +kernel
theorem w_a1 : wordS (Str.ofString "a1") = false := by decide +kernel
def spBad : Sp := fun vs H Q _ => ∃ (c : Int) (x w : Str), vs = [.int c, .str x, .str w] ∧ wordS x = true ∧ wordS w = true ∧ ∀ (v : V) (H' : Hp), Same H H' → BadV H H' v → Q v H'
theorem ok_bad (D : DefAt K mg "_law_bad" s_law_bad) (z_len : mg "len" = none) : Cal P w K mg base 1 "_law_bad" ["_law_cell", "_law_x", "_law_w"] spBad := by
  refine D.cal sc_law_bad (fun _ _ _ _ _ _ us hl => match us, hl with | [_, _, _], _ => rfl) (fun vs H Q E h => by obtain ⟨c, x, w, rfl, _⟩ := h; rfl) (fun f cdv A outer s H vs Q E hr h => ?_)
  obtain ⟨c, x, w, rfl, hwx, hww, q⟩ := h
  refine ⟨_, (pss_cons (ps_let 3 sc_law_bad.nd (pe_lst (pa_cons (pe_lst (pa_cons pe_str (pa_cons (pv 1 (hv := v_law_bad__law_x)) pa_nil))) (pa_cons (pe_tup (pa_cons pe_str pa_nil)) (pa_cons (pe_tup (pa_cons pe_str (pa_cons (pv 1 (hv := v_law_bad__law_x)) (pa_cons (pv 1 (hv := v_law_bad__law_x)) pa_nil)))) (pa_cons (pe_tup (pa_cons pe_str (pa_cons (pv 1 (hv := v_law_bad__law_x)) pa_nil))) (pa_cons (pe_tup (pa_cons pe_str (pa_cons (pv 2 (hv := v_law_bad__law_w)) (pa_cons (pv 1 (hv := v_law_bad__law_x)) (pa_cons (pv 1 (hv := v_law_bad__law_x)) pa_nil))))) (pa_cons (pe_tup (pa_cons pe_str (pa_cons (pv 1 (hv := v_law_bad__law_x)) pa_nil))) (pa_cons (pe_tup (pa_cons pe_str (pa_cons pe_str pa_nil))) (pa_cons (pe_tup (pa_cons pe_str (pa_cons (pv 1 (hv := v_law_bad__law_x)) pa_nil))) pa_nil))))))))) (hx := l_law_bad__law_some))
      (pss_cons (ps_let 3 sc_law_bad.nd (pe_op op_addA (pv 3 (hv := v_law_bad__law_some)) (pe_lst (pa_cons (pe_tup (pa_cons pe_str (pa_cons (pe_op op_addA (pv 1 (hv := v_law_bad__law_x)) pe_str) pa_nil))) (pa_cons (pe_tup (pa_cons pe_str (pa_cons pe_str pa_nil))) (pa_cons (pe_tup (pa_cons pe_str (pa_cons (pv 1 (hv := v_law_bad__law_x)) (pa_cons pe_str pa_nil)))) (pa_cons (pe_tup (pa_cons pe_str (pa_cons pe_int pa_nil))) (pa_cons (pe_tup (pa_cons pe_str (pa_cons pe_non (pa_cons (pv 1 (hv := v_law_bad__law_x)) pa_nil)))) (pa_cons pe_non pa_nil)))))))) (hx := l_law_bad__law_some))
      (pss_cons (ps_let 3 sc_law_bad.nd (pe_op op_addA (pv 3 (hv := v_law_bad__law_some)) (pe_lst (pa_cons (pe_tup (pa_cons pe_str (pa_cons pe_bl (pa_cons (pe_lst pa_nil) (pa_cons (pe_lst pa_nil) pa_nil))))) (pa_cons (pe_tup (pa_cons pe_str (pa_cons pe_str (pa_cons (pe_lst pa_nil) (pa_cons (pe_lst pa_nil) pa_nil))))) (pa_cons (pe_tup (pa_cons pe_str (pa_cons pe_int (pa_cons (pe_lst pa_nil) (pa_cons (pe_tup pa_nil) pa_nil))))) (pa_cons (pe_tup (pa_cons pe_str (pa_cons pe_int (pa_cons (pe_lst pa_nil) pa_nil)))) (pa_cons (pe_tup (pa_cons pe_str (pa_cons pe_int (pa_cons (pe_lst pa_nil) (pa_cons (pe_lst pa_nil) pa_nil))))) pa_nil))))))) (hx := l_law_bad__law_some))
      (pss_cons (ps_let 3 sc_law_bad.nd (pe_op op_addA (pv 3 (hv := v_law_bad__law_some)) (pe_lst (pa_cons (pe_tup (pa_cons pe_str (pa_cons pe_non (pa_cons (pe_lst pa_nil) pa_nil)))) (pa_cons (pe_tup (pa_cons pe_str (pa_cons (pv 1 (hv := v_law_bad__law_x)) (pa_cons (pv 1 (hv := v_law_bad__law_x)) pa_nil)))) (pa_cons (pe_tup (pa_cons pe_str (pa_cons (pv 1 (hv := v_law_bad__law_x)) (pa_cons (pv 1 (hv := v_law_bad__law_x)) (pa_cons pe_non pa_nil))))) (pa_cons (pe_tup (pa_cons pe_str (pa_cons (pv 1 (hv := v_law_bad__law_x)) (pa_cons pe_str (pa_cons (pe_lst pa_nil) pa_nil))))) (pa_cons pe_str (pa_cons pe_int (pa_cons (pe_tup pa_nil) pa_nil))))))))) (hx := l_law_bad__law_some))
      (pss_cons (ps_let 3 sc_law_bad.nd (pe_op op_addA (pv 3 (hv := v_law_bad__law_some)) (pe_lst (pa_cons (pe_tup (pa_cons pe_str (pa_cons pe_int (pa_cons (pe_lst (pa_cons pe_non pa_nil)) pa_nil)))) (pa_cons (pe_tup (pa_cons pe_str (pa_cons (pv 1 (hv := v_law_bad__law_x)) (pa_cons (pv 1 (hv := v_law_bad__law_x)) (pa_cons (pe_lst (pa_cons (pe_tup (pa_cons pe_str pa_nil)) pa_nil)) pa_nil))))) (pa_cons (pe_tup (pa_cons pe_int (pa_cons (pv 1 (hv := v_law_bad__law_x)) pa_nil))) (pa_cons (pe_tup (pa_cons pe_str (pa_cons pe_int (pa_cons (pe_lst (pa_cons (pe_tup (pa_cons pe_str (pa_cons (pv 1 (hv := v_law_bad__law_x)) pa_nil))) pa_nil)) (pa_cons (pe_lst (pa_cons (pe_lst (pa_cons pe_str (pa_cons (pv 1 (hv := v_law_bad__law_x)) pa_nil))) pa_nil)) pa_nil))))) pa_nil)))))) (hx := l_law_bad__law_some))
      (pss_cons (ps_let 3 sc_law_bad.nd (pe_op op_addA (pv 3 (hv := v_law_bad__law_some)) (pe_lst (pa_cons (pe_tup (pa_cons pe_str (pa_cons (pv 1 (hv := v_law_bad__law_x)) (pa_cons (pe_lst pa_nil) pa_nil)))) (pa_cons (pe_tup (pa_cons pe_str pa_nil)) (pa_cons (pe_tup (pa_cons pe_str (pa_cons (pe_lst pa_nil) (pa_cons (pe_lst pa_nil) pa_nil)))) (pa_cons (pe_tup (pa_cons pe_str (pa_cons (pv 1 (hv := v_law_bad__law_x)) pa_nil))) (pa_cons (pe_tup (pa_cons pe_str (pa_cons (pe_op op_addA (pv 2 (hv := v_law_bad__law_w)) pe_str) (pa_cons (pv 1 (hv := v_law_bad__law_x)) pa_nil)))) (pa_cons pe_dnewK (pa_cons (pe_lst pa_nil) (pa_cons pe_bl pa_nil)))))))))) (hx := l_law_bad__law_some))
      (pss_cons (ps_let 3 sc_law_bad.nd (pe_op op_addA (pv 3 (hv := v_law_bad__law_some)) (pe_lst (pa_cons (pe_tup (pa_cons pe_str (pa_cons pe_bl (pa_cons (pe_lst (pa_cons (pe_tup (pa_cons pe_str (pa_cons (pv 1 (hv := v_law_bad__law_x)) pa_nil))) pa_nil)) pa_nil)))) pa_nil))) (hx := l_law_bad__law_some))
      (pss_one (ps_ret (pe_ix (ix_K K) (pv 3 (hv := v_law_bad__law_some)) (pe_op op_mod (pv 0 (hv := v_law_bad__law_cell)) (pe_blt (call_lenK K) z_len bt_len (pa_cons (pv 3 (hv := v_law_bad__law_some)) pa_nil) (hg := gl_law_bad_len))) (fun _ _ => rfl))))))))))), ?_⟩
  have hx8 := word_len hwx
  have hw8 := word_len hww
  have hx : x.length ≤ 20 := by omega
  have hw : w.length ≤ 20 := by omega
  have hcx : (x ++ Str.ofString "abcdefgh").length ≤ 20 := by rw [Str.length_append, show (Str.ofString "abcdefgh").length = 8 from by decide +kernel]; omega
  have hcw : (w ++ Str.ofString " ").length ≤ 20 := by rw [Str.length_append, show (Str.ofString " ").length = 1 from by decide +kernel]; omega
  have wxa : wordS (x ++ Str.ofString "abcdefgh") = false := word_app hwx (by decide +kernel)
  have wwb : wordS (w ++ Str.ofString " ") = false := word_blank w
  walk_at "rd1"
  refine ⟨by decide, fun p1 h1 => ?_⟩
  generalize hH1 : upd _ p1 _ = H1
  have s1 := al_same hH1 h1
  have e1 := al_at hH1
  clear hH1
  have u1 := s1
  refine ⟨by decide, fun p2 h2 => ?_⟩
  generalize hH2 : upd _ p2 _ = H2
  have s2 := al_same hH2 h2
  have e2 := al_at hH2
  clear hH2
  have u2 := u1.trans s2
  refine ⟨by decide, fun p3 h3 => ?_⟩
  generalize hH3 : upd _ p3 _ = H3
  have s3 := al_same hH3 h3
  have e3 := al_at hH3
  clear hH3
  have u3 := u2.trans s3
  refine ⟨by decide, fun p4 h4 => ?_⟩
  generalize hH4 : upd _ p4 _ = H4
  have s4 := al_same hH4 h4
  have e4 := al_at hH4
  clear hH4
  have u4 := u3.trans s4
  refine ⟨by decide, fun p5 h5 => ?_⟩
  generalize hH5 : upd _ p5 _ = H5
  have s5 := al_same hH5 h5
  have e5 := al_at hH5
  clear hH5
  have u5 := u4.trans s5
  refine ⟨by decide, fun p6 h6 => ?_⟩
  generalize hH6 : upd _ p6 _ = H6
  have s6 := al_same hH6 h6
  have e6 := al_at hH6
  clear hH6
  have u6 := u5.trans s6
  refine ⟨by decide, fun p7 h7 => ?_⟩
  generalize hH7 : upd _ p7 _ = H7
  have s7 := al_same hH7 h7
  have e7 := al_at hH7
  clear hH7
  have u7 := u6.trans s7
  refine ⟨by decide, fun p8 h8 => ?_⟩
  generalize hH8 : upd _ p8 _ = H8
  have s8 := al_same hH8 h8
  have e8 := al_at hH8
  clear hH8
  have u8 := u7.trans s8
  refine ⟨by decide, fun p9 h9 => ?_⟩
  generalize hH9 : upd _ p9 _ = H9
  have s9 := al_same hH9 h9
  have e9 := al_at hH9
  clear hH9
  have u9 := u8.trans s9
  walk_at "nx"
  refine ⟨(by rw [show (Str.ofString "abcdefgh").length = 8 from by decide +kernel]; exact smallL (by omega)), ?_⟩
  refine ⟨by decide, fun p10 h10 => ?_⟩
  generalize hH10 : upd _ p10 _ = H10
  have s10 := al_same hH10 h10
  have e10 := al_at hH10
  clear hH10
  have u10 := u9.trans s10
  refine ⟨by decide, fun p11 h11 => ?_⟩
  generalize hH11 : upd _ p11 _ = H11
  have s11 := al_same hH11 h11
  have e11 := al_at hH11
  clear hH11
  have u11 := u10.trans s11
  refine ⟨by decide, fun p12 h12 => ?_⟩
  generalize hH12 : upd _ p12 _ = H12
  have s12 := al_same hH12 h12
  have e12 := al_at hH12
  clear hH12
  have u12 := u11.trans s12
  refine ⟨by decide, fun p13 h13 => ?_⟩
  generalize hH13 : upd _ p13 _ = H13
  have s13 := al_same hH13 h13
  have e13 := al_at hH13
  clear hH13
  have u13 := u12.trans s13
  refine ⟨by decide, fun p14 h14 => ?_⟩
  generalize hH14 : upd _ p14 _ = H14
  have s14 := al_same hH14 h14
  have e14 := al_at hH14
  clear hH14
  have u14 := u13.trans s14
  refine ⟨by decide, fun p15 h15 => ?_⟩
  generalize hH15 : upd _ p15 _ = H15
  have s15 := al_same hH15 h15
  have e15 := al_at hH15
  clear hH15
  have u15 := u14.trans s15
  refine ⟨_, _, (s15 _ _ (s14 _ _ (s13 _ _ (s12 _ _ (s11 _ _ (s10 _ _ e9)))))), e15, smallL (by simp), fun p16 h16 => ?_⟩
  generalize hH16 : upd _ p16 _ = H16
  have s16 := al_same hH16 h16
  have e16 := al_at hH16
  clear hH16
  have u16 := u15.trans s16
  walk_at "nx"
  refine ⟨by decide, fun p17 h17 => ?_⟩
  generalize hH17 : upd _ p17 _ = H17
  have s17 := al_same hH17 h17
  have e17 := al_at hH17
  clear hH17
  have u17 := u16.trans s17
  refine ⟨by decide, fun p18 h18 => ?_⟩
  generalize hH18 : upd _ p18 _ = H18
  have s18 := al_same hH18 h18
  have e18 := al_at hH18
  clear hH18
  have u18 := u17.trans s18
  refine ⟨by decide, fun p19 h19 => ?_⟩
  generalize hH19 : upd _ p19 _ = H19
  have s19 := al_same hH19 h19
  have e19 := al_at hH19
  clear hH19
  have u19 := u18.trans s19
  refine ⟨by decide, fun p20 h20 => ?_⟩
  generalize hH20 : upd _ p20 _ = H20
  have s20 := al_same hH20 h20
  have e20 := al_at hH20
  clear hH20
  have u20 := u19.trans s20
  refine ⟨by decide, fun p21 h21 => ?_⟩
  generalize hH21 : upd _ p21 _ = H21
  have s21 := al_same hH21 h21
  have e21 := al_at hH21
  clear hH21
  have u21 := u20.trans s21
  refine ⟨by decide, fun p22 h22 => ?_⟩
  generalize hH22 : upd _ p22 _ = H22
  have s22 := al_same hH22 h22
  have e22 := al_at hH22
  clear hH22
  have u22 := u21.trans s22
  refine ⟨by decide, fun p23 h23 => ?_⟩
  generalize hH23 : upd _ p23 _ = H23
  have s23 := al_same hH23 h23
  have e23 := al_at hH23
  clear hH23
  have u23 := u22.trans s23
  refine ⟨by decide, fun p24 h24 => ?_⟩
  generalize hH24 : upd _ p24 _ = H24
  have s24 := al_same hH24 h24
  have e24 := al_at hH24
  clear hH24
  have u24 := u23.trans s24
  refine ⟨by decide, fun p25 h25 => ?_⟩
  generalize hH25 : upd _ p25 _ = H25
  have s25 := al_same hH25 h25
  have e25 := al_at hH25
  clear hH25
  have u25 := u24.trans s25
  refine ⟨by decide, fun p26 h26 => ?_⟩
  generalize hH26 : upd _ p26 _ = H26
  have s26 := al_same hH26 h26
  have e26 := al_at hH26
  clear hH26
  have u26 := u25.trans s26
  refine ⟨by decide, fun p27 h27 => ?_⟩
  generalize hH27 : upd _ p27 _ = H27
  have s27 := al_same hH27 h27
  have e27 := al_at hH27
  clear hH27
  have u27 := u26.trans s27
  refine ⟨by decide, fun p28 h28 => ?_⟩
  generalize hH28 : upd _ p28 _ = H28
  have s28 := al_same hH28 h28
  have e28 := al_at hH28
  clear hH28
  have u28 := u27.trans s28
  refine ⟨by decide, fun p29 h29 => ?_⟩
  generalize hH29 : upd _ p29 _ = H29
  have s29 := al_same hH29 h29
  have e29 := al_at hH29
  clear hH29
  have u29 := u28.trans s29
  refine ⟨by decide, fun p30 h30 => ?_⟩
  generalize hH30 : upd _ p30 _ = H30
  have s30 := al_same hH30 h30
  have e30 := al_at hH30
  clear hH30
  have u30 := u29.trans s30
  refine ⟨by decide, fun p31 h31 => ?_⟩
  generalize hH31 : upd _ p31 _ = H31
  have s31 := al_same hH31 h31
  have e31 := al_at hH31
  clear hH31
  have u31 := u30.trans s31
  refine ⟨_, _, (s31 _ _ (s30 _ _ (s29 _ _ (s28 _ _ (s27 _ _ (s26 _ _ (s25 _ _ (s24 _ _ (s23 _ _ (s22 _ _ (s21 _ _ (s20 _ _ (s19 _ _ (s18 _ _ (s17 _ _ e16))))))))))))))), e31, smallL (by simp), fun p32 h32 => ?_⟩
  generalize hH32 : upd _ p32 _ = H32
  have s32 := al_same hH32 h32
  have e32 := al_at hH32
  clear hH32
  have u32 := u31.trans s32
  walk_at "nx"
  refine ⟨by decide, fun p33 h33 => ?_⟩
  generalize hH33 : upd _ p33 _ = H33
  have s33 := al_same hH33 h33
  have e33 := al_at hH33
  clear hH33
  have u33 := u32.trans s33
  refine ⟨by decide, fun p34 h34 => ?_⟩
  generalize hH34 : upd _ p34 _ = H34
  have s34 := al_same hH34 h34
  have e34 := al_at hH34
  clear hH34
  have u34 := u33.trans s34
  refine ⟨by decide, fun p35 h35 => ?_⟩
  generalize hH35 : upd _ p35 _ = H35
  have s35 := al_same hH35 h35
  have e35 := al_at hH35
  clear hH35
  have u35 := u34.trans s35
  refine ⟨by decide, fun p36 h36 => ?_⟩
  generalize hH36 : upd _ p36 _ = H36
  have s36 := al_same hH36 h36
  have e36 := al_at hH36
  clear hH36
  have u36 := u35.trans s36
  refine ⟨by decide, fun p37 h37 => ?_⟩
  generalize hH37 : upd _ p37 _ = H37
  have s37 := al_same hH37 h37
  have e37 := al_at hH37
  clear hH37
  have u37 := u36.trans s37
  refine ⟨by decide, fun p38 h38 => ?_⟩
  generalize hH38 : upd _ p38 _ = H38
  have s38 := al_same hH38 h38
  have e38 := al_at hH38
  clear hH38
  have u38 := u37.trans s38
  refine ⟨by decide, fun p39 h39 => ?_⟩
  generalize hH39 : upd _ p39 _ = H39
  have s39 := al_same hH39 h39
  have e39 := al_at hH39
  clear hH39
  have u39 := u38.trans s39
  refine ⟨by decide, fun p40 h40 => ?_⟩
  generalize hH40 : upd _ p40 _ = H40
  have s40 := al_same hH40 h40
  have e40 := al_at hH40
  clear hH40
  have u40 := u39.trans s40
  refine ⟨_, _, (s40 _ _ (s39 _ _ (s38 _ _ (s37 _ _ (s36 _ _ (s35 _ _ (s34 _ _ (s33 _ _ e32)))))))), e40, smallL (by simp), fun p41 h41 => ?_⟩
  generalize hH41 : upd _ p41 _ = H41
  have s41 := al_same hH41 h41
  have e41 := al_at hH41
  clear hH41
  have u41 := u40.trans s41
  walk_at "nx"
  refine ⟨by decide, fun p42 h42 => ?_⟩
  generalize hH42 : upd _ p42 _ = H42
  have s42 := al_same hH42 h42
  have e42 := al_at hH42
  clear hH42
  have u42 := u41.trans s42
  refine ⟨by decide, fun p43 h43 => ?_⟩
  generalize hH43 : upd _ p43 _ = H43
  have s43 := al_same hH43 h43
  have e43 := al_at hH43
  clear hH43
  have u43 := u42.trans s43
  refine ⟨by decide, fun p44 h44 => ?_⟩
  generalize hH44 : upd _ p44 _ = H44
  have s44 := al_same hH44 h44
  have e44 := al_at hH44
  clear hH44
  have u44 := u43.trans s44
  refine ⟨by decide, fun p45 h45 => ?_⟩
  generalize hH45 : upd _ p45 _ = H45
  have s45 := al_same hH45 h45
  have e45 := al_at hH45
  clear hH45
  have u45 := u44.trans s45
  refine ⟨by decide, fun p46 h46 => ?_⟩
  generalize hH46 : upd _ p46 _ = H46
  have s46 := al_same hH46 h46
  have e46 := al_at hH46
  clear hH46
  have u46 := u45.trans s46
  refine ⟨by decide, fun p47 h47 => ?_⟩
  generalize hH47 : upd _ p47 _ = H47
  have s47 := al_same hH47 h47
  have e47 := al_at hH47
  clear hH47
  have u47 := u46.trans s47
  refine ⟨by decide, fun p48 h48 => ?_⟩
  generalize hH48 : upd _ p48 _ = H48
  have s48 := al_same hH48 h48
  have e48 := al_at hH48
  clear hH48
  have u48 := u47.trans s48
  refine ⟨by decide, fun p49 h49 => ?_⟩
  generalize hH49 : upd _ p49 _ = H49
  have s49 := al_same hH49 h49
  have e49 := al_at hH49
  clear hH49
  have u49 := u48.trans s49
  refine ⟨by decide, fun p50 h50 => ?_⟩
  generalize hH50 : upd _ p50 _ = H50
  have s50 := al_same hH50 h50
  have e50 := al_at hH50
  clear hH50
  have u50 := u49.trans s50
  refine ⟨by decide, fun p51 h51 => ?_⟩
  generalize hH51 : upd _ p51 _ = H51
  have s51 := al_same hH51 h51
  have e51 := al_at hH51
  clear hH51
  have u51 := u50.trans s51
  refine ⟨by decide, fun p52 h52 => ?_⟩
  generalize hH52 : upd _ p52 _ = H52
  have s52 := al_same hH52 h52
  have e52 := al_at hH52
  clear hH52
  have u52 := u51.trans s52
  refine ⟨by decide, fun p53 h53 => ?_⟩
  generalize hH53 : upd _ p53 _ = H53
  have s53 := al_same hH53 h53
  have e53 := al_at hH53
  clear hH53
  have u53 := u52.trans s53
  refine ⟨_, _, (s53 _ _ (s52 _ _ (s51 _ _ (s50 _ _ (s49 _ _ (s48 _ _ (s47 _ _ (s46 _ _ (s45 _ _ (s44 _ _ (s43 _ _ (s42 _ _ e41)))))))))))), e53, smallL (by simp), fun p54 h54 => ?_⟩
  generalize hH54 : upd _ p54 _ = H54
  have s54 := al_same hH54 h54
  have e54 := al_at hH54
  clear hH54
  have u54 := u53.trans s54
  walk_at "nx"
  refine ⟨by decide, fun p55 h55 => ?_⟩
  generalize hH55 : upd _ p55 _ = H55
  have s55 := al_same hH55 h55
  have e55 := al_at hH55
  clear hH55
  have u55 := u54.trans s55
  refine ⟨by decide, fun p56 h56 => ?_⟩
  generalize hH56 : upd _ p56 _ = H56
  have s56 := al_same hH56 h56
  have e56 := al_at hH56
  clear hH56
  have u56 := u55.trans s56
  refine ⟨by decide, fun p57 h57 => ?_⟩
  generalize hH57 : upd _ p57 _ = H57
  have s57 := al_same hH57 h57
  have e57 := al_at hH57
  clear hH57
  have u57 := u56.trans s57
  refine ⟨by decide, fun p58 h58 => ?_⟩
  generalize hH58 : upd _ p58 _ = H58
  have s58 := al_same hH58 h58
  have e58 := al_at hH58
  clear hH58
  have u58 := u57.trans s58
  refine ⟨by decide, fun p59 h59 => ?_⟩
  generalize hH59 : upd _ p59 _ = H59
  have s59 := al_same hH59 h59
  have e59 := al_at hH59
  clear hH59
  have u59 := u58.trans s59
  refine ⟨by decide, fun p60 h60 => ?_⟩
  generalize hH60 : upd _ p60 _ = H60
  have s60 := al_same hH60 h60
  have e60 := al_at hH60
  clear hH60
  have u60 := u59.trans s60
  refine ⟨by decide, fun p61 h61 => ?_⟩
  generalize hH61 : upd _ p61 _ = H61
  have s61 := al_same hH61 h61
  have e61 := al_at hH61
  clear hH61
  have u61 := u60.trans s61
  refine ⟨(by rw [show (Str.ofString " ").length = 1 from by decide +kernel]; exact smallL (by omega)), ?_⟩
  refine ⟨by decide, fun p62 h62 => ?_⟩
  generalize hH62 : upd _ p62 _ = H62
  have s62 := al_same hH62 h62
  have e62 := al_at hH62
  clear hH62
  have u62 := u61.trans s62
  intro p63 h63
  generalize hH63 : upd _ p63 _ = H63
  have s63 := al_same hH63 h63
  have e63 := al_at hH63
  clear hH63
  have u63 := u62.trans s63
  refine ⟨by decide, fun p64 h64 => ?_⟩
  generalize hH64 : upd _ p64 _ = H64
  have s64 := al_same hH64 h64
  have e64 := al_at hH64
  clear hH64
  have u64 := u63.trans s64
  refine ⟨by decide, fun p65 h65 => ?_⟩
  generalize hH65 : upd _ p65 _ = H65
  have s65 := al_same hH65 h65
  have e65 := al_at hH65
  clear hH65
  have u65 := u64.trans s65
  refine ⟨_, _, (s65 _ _ (s64 _ _ (s63 _ _ (s62 _ _ (s61 _ _ (s60 _ _ (s59 _ _ (s58 _ _ (s57 _ _ (s56 _ _ (s55 _ _ e54))))))))))), e65, smallL (by simp), fun p66 h66 => ?_⟩
  generalize hH66 : upd _ p66 _ = H66
  have s66 := al_same hH66 h66
  have e66 := al_at hH66
  clear hH66
  have u66 := u65.trans s66
  walk_at "nx"
  refine ⟨by decide, fun p67 h67 => ?_⟩
  generalize hH67 : upd _ p67 _ = H67
  have s67 := al_same hH67 h67
  have e67 := al_at hH67
  clear hH67
  have u67 := u66.trans s67
  refine ⟨by decide, fun p68 h68 => ?_⟩
  generalize hH68 : upd _ p68 _ = H68
  have s68 := al_same hH68 h68
  have e68 := al_at hH68
  clear hH68
  have u68 := u67.trans s68
  refine ⟨by decide, fun p69 h69 => ?_⟩
  generalize hH69 : upd _ p69 _ = H69
  have s69 := al_same hH69 h69
  have e69 := al_at hH69
  clear hH69
  have u69 := u68.trans s69
  refine ⟨by decide, fun p70 h70 => ?_⟩
  generalize hH70 : upd _ p70 _ = H70
  have s70 := al_same hH70 h70
  have e70 := al_at hH70
  clear hH70
  have u70 := u69.trans s70
  refine ⟨_, _, (s70 _ _ (s69 _ _ (s68 _ _ (s67 _ _ e66)))), e70, smallL (by simp), fun p71 h71 => ?_⟩
  generalize hH71 : upd _ p71 _ = H71
  have s71 := al_same hH71 h71
  have e71 := al_at hH71
  clear hH71
  have u71 := u70.trans s71
  walk_at "nx"
  refine ⟨_, .inl (SqL.of e71), by simp, ?_⟩
  have t71 := Same.refl H71
  have t70 := s71.trans t71
  have t69 := s70.trans t70
  have t68 := s69.trans t69
  have t67 := s68.trans t68
  have t66 := s67.trans t67
  have t65 := s66.trans t66
  have t64 := s65.trans t65
  have t63 := s64.trans t64
  have t62 := s63.trans t63
  have t61 := s62.trans t62
  have t60 := s61.trans t61
  have t59 := s60.trans t60
  have t58 := s59.trans t59
  have t57 := s58.trans t58
  have t56 := s57.trans t57
  have t55 := s56.trans t56
  have t54 := s55.trans t55
  have t53 := s54.trans t54
  have t52 := s53.trans t53
  have t51 := s52.trans t52
  have t50 := s51.trans t51
  have t49 := s50.trans t50
  have t48 := s49.trans t49
  have t47 := s48.trans t48
  have t46 := s47.trans t47
  have t45 := s46.trans t46
  have t44 := s45.trans t45
  have t43 := s44.trans t44
  have t42 := s43.trans t43
  have t41 := s42.trans t42
  have t40 := s41.trans t41
  have t39 := s40.trans t40
  have t38 := s39.trans t39
  have t37 := s38.trans t38
  have t36 := s37.trans t37
  have t35 := s36.trans t36
  have t34 := s35.trans t35
  have t33 := s34.trans t34
  have t32 := s33.trans t33
  have t31 := s32.trans t32
  have t30 := s31.trans t31
  have t29 := s30.trans t30
  have t28 := s29.trans t29
  have t27 := s28.trans t28
  have t26 := s27.trans t27
  have t25 := s26.trans t26
  have t24 := s25.trans t25
  have t23 := s24.trans t24
  have t22 := s23.trans t23
  have t21 := s22.trans t22
  have t20 := s21.trans t21
  have t19 := s20.trans t20
  have t18 := s19.trans t19
  have t17 := s18.trans t18
  have t16 := s17.trans t17
  have t15 := s16.trans t16
  have t14 := s15.trans t15
  have t13 := s14.trans t14
  have t12 := s13.trans t13
  have t11 := s12.trans t12
  have t10 := s11.trans t11
  have t9 := s10.trans t10
  have t8 := s9.trans t9
  have t7 := s8.trans t8
  have t6 := s7.trans t7
  have t5 := s6.trans t6
  have t4 := s5.trans t5
  have t3 := s4.trans t4
  have t2 := s3.trans t3
  have t1 := s2.trans t2
  have nest1 : BadV H H71 (.ref p43) := by
    have a1 := t43 _ _ e43
    have a2 := t42 _ _ e42
    refine ⟨thingT_tup a1 (all_cons (thing_str _ (by decide)) (all_cons (thing_int _ _) (all_cons (thing_lst a2) (fun y hy => by cases hy)))) (by simp), .inr ⟨p43, "while", [.int 0], [p42], ⟨rfl, a1, by show 1 = (closT "while").length; decide⟩, all_cons ⟨⟨_, a2, by simp, all_cons (thingT_flat (thing_non _) (fun a e => by cases e)) (fun y hy => by cases hy), all_cons (fun z => by cases z) (fun y hy => by cases hy)⟩, u41.free h42⟩ (fun y hy => by cases hy), p42, List.mem_cons_self, [], .non, [], a2, rfl⟩⟩
  have nest2 : BadV H H71 (.ref p46) := by
    have a1 := t46 _ _ e46
    have a2 := t45 _ _ e45
    have a3 := t44 _ _ e44
    have l3 : likeV H71 (.ref p44) = false := by simp [likeV, a3, likeT, val_open]
    refine ⟨thingT_tup a1 (all_cons (thing_str _ (by decide)) (all_cons (thing_str _ hx) (all_cons (thing_str _ hx) (all_cons (thing_lst a2) (fun y hy => by cases hy))))) (by simp), .inr ⟨p46, "lend", [.str x, .str x], [p45], ⟨rfl, a1, by show 1 = (closT "lend").length; decide⟩, all_cons ⟨⟨_, a2, by simp, all_cons (thingT_tup a3 (all_cons (thing_str _ (by decide)) (fun y hy => by cases hy)) (by simp)) (fun y hy => by cases hy), all_cons (fun z => by rw [l3] at z; cases z) (fun y hy => by cases hy)⟩, u44.free h45⟩ (fun y hy => by cases hy), p45, List.mem_cons_self, [], .ref p44, [], a2, l3⟩⟩
  have nest3 : BadV H H71 (.ref p52) := by
    have a1 := t52 _ _ e52
    have a2 := t49 _ _ e49
    have a3 := t48 _ _ e48
    have a4 := t51 _ _ e51
    have a5 := t50 _ _ e50
    have l5 : likeV H71 (.ref p50) = false := by simp [likeV, a5]
    refine ⟨thingT_tup a1 (all_cons (thing_str _ (by decide)) (all_cons (thing_int _ _) (all_cons (thing_lst a2) (all_cons (thing_lst a4) (fun y hy => by cases hy))))) (by simp), .inr ⟨p52, "if", [.int 1], [p49, p51], ⟨rfl, a1, by show 2 = (closT "if").length; decide⟩, all_cons ⟨⟨_, a2, by simp, all_cons (thingT_tup a3 (all_cons (thing_str _ (by decide)) (all_cons (thing_str _ hx) (fun y hy => by cases hy))) (by simp)) (fun y hy => by cases hy), all_cons (fun _ => ⟨p48, "drop", [.str x], ⟨rfl, a3, by decide +kernel⟩⟩) (fun y hy => by cases hy)⟩, u48.free h49⟩ (all_cons ⟨⟨_, a4, by simp, all_cons (bad_lst (H0 := H) a5).1 (fun y hy => by cases hy), all_cons (fun z => by rw [l5] at z; cases z) (fun y hy => by cases hy)⟩, u50.free h51⟩ (fun y hy => by cases hy)), p51, by simp, [], .ref p50, [], a4, l5⟩⟩
  have g0 : ∀ v ∈ ([.ref p1, .ref p2, .ref p3, .ref p4, .ref p5, .ref p6, .ref p7, .ref p8] : List V), BadV H H71 v := (all_cons (bad_lst (t1 _ _ e1))
      (all_cons (bad_tup (t2 _ _ e2) (all_cons (thing_str _ (by decide)) (fun y hy => by cases hy)) (by simp) (by simp [likeT, val_open, val_do, val_copy, val_drop, val_tie, val_lend, val_if, val_while, val_shut, val_OPEN, val_back, allP, part_name, part_word, part_bound, part_steps, wordV, boundV, w_none, w_A, w_a1, isL_non, wxa, wwb]))
      (all_cons (bad_tup (t3 _ _ e3) (all_cons (thing_str _ (by decide)) (all_cons (thing_str _ hx) (all_cons (thing_str _ hx) (fun y hy => by cases hy)))) (by simp) (by simp [likeT, val_open, val_do, val_copy, val_drop, val_tie, val_lend, val_if, val_while, val_shut, val_OPEN, val_back, allP, part_name, part_word, part_bound, part_steps, wordV, boundV, w_none, w_A, w_a1, isL_non, wxa, wwb]))
      (all_cons (bad_tup (t4 _ _ e4) (all_cons (thing_str _ (by decide)) (all_cons (thing_str _ hx) (fun y hy => by cases hy))) (by simp) (by simp [likeT, val_open, val_do, val_copy, val_drop, val_tie, val_lend, val_if, val_while, val_shut, val_OPEN, val_back, allP, part_name, part_word, part_bound, part_steps, wordV, boundV, w_none, w_A, w_a1, isL_non, wxa, wwb]))
      (all_cons (bad_tup (t5 _ _ e5) (all_cons (thing_str _ (by decide)) (all_cons (thing_str _ hw) (all_cons (thing_str _ hx) (all_cons (thing_str _ hx) (fun y hy => by cases hy))))) (by simp) (by simp [likeT, val_open, val_do, val_copy, val_drop, val_tie, val_lend, val_if, val_while, val_shut, val_OPEN, val_back, allP, part_name, part_word, part_bound, part_steps, wordV, boundV, w_none, w_A, w_a1, isL_non, wxa, wwb]))
      (all_cons (bad_tup (t6 _ _ e6) (all_cons (thing_str _ (by decide)) (all_cons (thing_str _ hx) (fun y hy => by cases hy))) (by simp) (by simp [likeT, val_open, val_do, val_copy, val_drop, val_tie, val_lend, val_if, val_while, val_shut, val_OPEN, val_back, allP, part_name, part_word, part_bound, part_steps, wordV, boundV, w_none, w_A, w_a1, isL_non, wxa, wwb]))
      (all_cons (bad_tup (t7 _ _ e7) (all_cons (thing_str _ (by decide)) (all_cons (thing_str _ (by decide)) (fun y hy => by cases hy))) (by simp) (by simp [likeT, val_open, val_do, val_copy, val_drop, val_tie, val_lend, val_if, val_while, val_shut, val_OPEN, val_back, allP, part_name, part_word, part_bound, part_steps, wordV, boundV, w_none, w_A, w_a1, isL_non, wxa, wwb]))
      (all_cons (bad_tup (t8 _ _ e8) (all_cons (thing_str _ (by decide)) (all_cons (thing_str _ hx) (fun y hy => by cases hy))) (by simp) (by simp [likeT, val_open, val_do, val_copy, val_drop, val_tie, val_lend, val_if, val_while, val_shut, val_OPEN, val_back, allP, part_name, part_word, part_bound, part_steps, wordV, boundV, w_none, w_A, w_a1, isL_non, wxa, wwb]))
      (fun y hy => by cases hy)))))))))
  have g1 : ∀ v ∈ ([.ref p10, .ref p11, .ref p12, .ref p13, .ref p14, .non] : List V), BadV H H71 v := (all_cons (bad_tup (t10 _ _ e10) (all_cons (thing_str _ (by decide)) (all_cons (thing_str _ hcx) (fun y hy => by cases hy))) (by simp) (by simp [likeT, val_open, val_do, val_copy, val_drop, val_tie, val_lend, val_if, val_while, val_shut, val_OPEN, val_back, allP, part_name, part_word, part_bound, part_steps, wordV, boundV, w_none, w_A, w_a1, isL_non, wxa, wwb]))
      (all_cons (bad_tup (t11 _ _ e11) (all_cons (thing_str _ (by decide)) (all_cons (thing_str _ (by decide)) (fun y hy => by cases hy))) (by simp) (by simp [likeT, val_open, val_do, val_copy, val_drop, val_tie, val_lend, val_if, val_while, val_shut, val_OPEN, val_back, allP, part_name, part_word, part_bound, part_steps, wordV, boundV, w_none, w_A, w_a1, isL_non, wxa, wwb]))
      (all_cons (bad_tup (t12 _ _ e12) (all_cons (thing_str _ (by decide)) (all_cons (thing_str _ hx) (all_cons (thing_str _ (by decide)) (fun y hy => by cases hy)))) (by simp) (by simp [likeT, val_open, val_do, val_copy, val_drop, val_tie, val_lend, val_if, val_while, val_shut, val_OPEN, val_back, allP, part_name, part_word, part_bound, part_steps, wordV, boundV, w_none, w_A, w_a1, isL_non, wxa, wwb]))
      (all_cons (bad_tup (t13 _ _ e13) (all_cons (thing_str _ (by decide)) (all_cons (thing_int _ _) (fun y hy => by cases hy))) (by simp) (by simp [likeT, val_open, val_do, val_copy, val_drop, val_tie, val_lend, val_if, val_while, val_shut, val_OPEN, val_back, allP, part_name, part_word, part_bound, part_steps, wordV, boundV, w_none, w_A, w_a1, isL_non, wxa, wwb]))
      (all_cons (bad_tup (t14 _ _ e14) (all_cons (thing_str _ (by decide)) (all_cons (thing_non _) (all_cons (thing_str _ hx) (fun y hy => by cases hy)))) (by simp) (by simp [likeT, val_open, val_do, val_copy, val_drop, val_tie, val_lend, val_if, val_while, val_shut, val_OPEN, val_back, allP, part_name, part_word, part_bound, part_steps, wordV, boundV, w_none, w_A, w_a1, isL_non, wxa, wwb]))
      (all_cons (bad_non _ _)
      (fun y hy => by cases hy)))))))
  have g2 : ∀ v ∈ ([.ref p19, .ref p22, .ref p25, .ref p27, .ref p30] : List V), BadV H H71 v := (all_cons (bad_tup (t19 _ _ e19) (all_cons (thing_str _ (by decide)) (all_cons (thing_bl _ _) (all_cons (thing_lst (t17 _ _ e17)) (all_cons (thing_lst (t18 _ _ e18)) (fun y hy => by cases hy))))) (by simp) (by simp [likeT, val_open, val_do, val_copy, val_drop, val_tie, val_lend, val_if, val_while, val_shut, val_OPEN, val_back, allP, part_name, part_word, part_bound, part_steps, wordV, boundV, w_none, w_A, w_a1, isL_non, wxa, wwb, isL_lst (t17 _ _ e17), isL_lst (t18 _ _ e18)]))
      (all_cons (bad_tup (t22 _ _ e22) (all_cons (thing_str _ (by decide)) (all_cons (thing_str _ (by decide)) (all_cons (thing_lst (t20 _ _ e20)) (all_cons (thing_lst (t21 _ _ e21)) (fun y hy => by cases hy))))) (by simp) (by simp [likeT, val_open, val_do, val_copy, val_drop, val_tie, val_lend, val_if, val_while, val_shut, val_OPEN, val_back, allP, part_name, part_word, part_bound, part_steps, wordV, boundV, w_none, w_A, w_a1, isL_non, wxa, wwb, isL_lst (t20 _ _ e20), isL_lst (t21 _ _ e21)]))
      (all_cons (bad_tup (t25 _ _ e25) (all_cons (thing_str _ (by decide)) (all_cons (thing_int _ _) (all_cons (thing_lst (t23 _ _ e23)) (all_cons (thing_tup (t24 _ _ e24)) (fun y hy => by cases hy))))) (by simp) (by simp [likeT, val_open, val_do, val_copy, val_drop, val_tie, val_lend, val_if, val_while, val_shut, val_OPEN, val_back, allP, part_name, part_word, part_bound, part_steps, wordV, boundV, w_none, w_A, w_a1, isL_non, wxa, wwb, isL_lst (t23 _ _ e23), isL_tup (t24 _ _ e24)]))
      (all_cons (bad_tup (t27 _ _ e27) (all_cons (thing_str _ (by decide)) (all_cons (thing_int _ _) (all_cons (thing_lst (t26 _ _ e26)) (fun y hy => by cases hy)))) (by simp) (by simp [likeT, val_open, val_do, val_copy, val_drop, val_tie, val_lend, val_if, val_while, val_shut, val_OPEN, val_back, allP, part_name, part_word, part_bound, part_steps, wordV, boundV, w_none, w_A, w_a1, isL_non, wxa, wwb, isL_lst (t26 _ _ e26)]))
      (all_cons (bad_tup (t30 _ _ e30) (all_cons (thing_str _ (by decide)) (all_cons (thing_int _ _) (all_cons (thing_lst (t28 _ _ e28)) (all_cons (thing_lst (t29 _ _ e29)) (fun y hy => by cases hy))))) (by simp) (by simp [likeT, val_open, val_do, val_copy, val_drop, val_tie, val_lend, val_if, val_while, val_shut, val_OPEN, val_back, allP, part_name, part_word, part_bound, part_steps, wordV, boundV, w_none, w_A, w_a1, isL_non, wxa, wwb, isL_lst (t28 _ _ e28), isL_lst (t29 _ _ e29)]))
      (fun y hy => by cases hy))))))
  have g3 : ∀ v ∈ ([.ref p34, .ref p35, .ref p36, .ref p38, .str "drop", .int 7, .ref p39] : List V), BadV H H71 v := (all_cons (bad_tup (t34 _ _ e34) (all_cons (thing_str _ (by decide)) (all_cons (thing_non _) (all_cons (thing_lst (t33 _ _ e33)) (fun y hy => by cases hy)))) (by simp) (by simp [likeT, val_open, val_do, val_copy, val_drop, val_tie, val_lend, val_if, val_while, val_shut, val_OPEN, val_back, allP, part_name, part_word, part_bound, part_steps, wordV, boundV, w_none, w_A, w_a1, isL_non, wxa, wwb, isL_lst (t33 _ _ e33)]))
      (all_cons (bad_tup (t35 _ _ e35) (all_cons (thing_str _ (by decide)) (all_cons (thing_str _ hx) (all_cons (thing_str _ hx) (fun y hy => by cases hy)))) (by simp) (by simp [likeT, val_open, val_do, val_copy, val_drop, val_tie, val_lend, val_if, val_while, val_shut, val_OPEN, val_back, allP, part_name, part_word, part_bound, part_steps, wordV, boundV, w_none, w_A, w_a1, isL_non, wxa, wwb]))
      (all_cons (bad_tup (t36 _ _ e36) (all_cons (thing_str _ (by decide)) (all_cons (thing_str _ hx) (all_cons (thing_str _ hx) (all_cons (thing_non _) (fun y hy => by cases hy))))) (by simp) (by simp [likeT, val_open, val_do, val_copy, val_drop, val_tie, val_lend, val_if, val_while, val_shut, val_OPEN, val_back, allP, part_name, part_word, part_bound, part_steps, wordV, boundV, w_none, w_A, w_a1, isL_non, wxa, wwb]))
      (all_cons (bad_tup (t38 _ _ e38) (all_cons (thing_str _ (by decide)) (all_cons (thing_str _ hx) (all_cons (thing_str _ (by decide)) (all_cons (thing_lst (t37 _ _ e37)) (fun y hy => by cases hy))))) (by simp) (by simp [likeT, val_open, val_do, val_copy, val_drop, val_tie, val_lend, val_if, val_while, val_shut, val_OPEN, val_back, allP, part_name, part_word, part_bound, part_steps, wordV, boundV, w_none, w_A, w_a1, isL_non, wxa, wwb, isL_lst (t37 _ _ e37)]))
      (all_cons (bad_str _ _ (by decide))
      (all_cons (bad_int _ _ _)
      (all_cons (bad_tup (t39 _ _ e39) (fun y hy => by cases hy) (by simp) (by simp [likeT, val_open, val_do, val_copy, val_drop, val_tie, val_lend, val_if, val_while, val_shut, val_OPEN, val_back, allP, part_name, part_word, part_bound, part_steps, wordV, boundV, w_none, w_A, w_a1, isL_non, wxa, wwb]))
      (fun y hy => by cases hy))))))))
  have g4 : ∀ v ∈ ([.ref p43, .ref p46, .ref p47, .ref p52] : List V), BadV H H71 v := (all_cons (nest1)
      (all_cons (nest2)
      (all_cons (bad_tup (t47 _ _ e47) (all_cons (thing_int _ _) (all_cons (thing_str _ hx) (fun y hy => by cases hy))) (by simp) (by simp [likeT, val_open, val_do, val_copy, val_drop, val_tie, val_lend, val_if, val_while, val_shut, val_OPEN, val_back, allP, part_name, part_word, part_bound, part_steps, wordV, boundV, w_none, w_A, w_a1, isL_non, wxa, wwb]))
      (all_cons (nest3)
      (fun y hy => by cases hy)))))
  have g5 : ∀ v ∈ ([.ref p56, .ref p57, .ref p60, .ref p61, .ref p62, .ref p63, .ref p64, .bl true] : List V), BadV H H71 v := (all_cons (bad_tup (t56 _ _ e56) (all_cons (thing_str _ (by decide)) (all_cons (thing_str _ hx) (all_cons (thing_lst (t55 _ _ e55)) (fun y hy => by cases hy)))) (by simp) (by simp [likeT, val_open, val_do, val_copy, val_drop, val_tie, val_lend, val_if, val_while, val_shut, val_OPEN, val_back, allP, part_name, part_word, part_bound, part_steps, wordV, boundV, w_none, w_A, w_a1, isL_non, wxa, wwb, isL_lst (t55 _ _ e55)]))
      (all_cons (bad_tup (t57 _ _ e57) (all_cons (thing_str _ (by decide)) (fun y hy => by cases hy)) (by simp) (by simp [likeT, val_open, val_do, val_copy, val_drop, val_tie, val_lend, val_if, val_while, val_shut, val_OPEN, val_back, allP, part_name, part_word, part_bound, part_steps, wordV, boundV, w_none, w_A, w_a1, isL_non, wxa, wwb]))
      (all_cons (bad_tup (t60 _ _ e60) (all_cons (thing_str _ (by decide)) (all_cons (thing_lst (t58 _ _ e58)) (all_cons (thing_lst (t59 _ _ e59)) (fun y hy => by cases hy)))) (by simp) (by simp [likeT, val_open, val_do, val_copy, val_drop, val_tie, val_lend, val_if, val_while, val_shut, val_OPEN, val_back, allP, part_name, part_word, part_bound, part_steps, wordV, boundV, w_none, w_A, w_a1, isL_non, wxa, wwb, isL_lst (t58 _ _ e58), isL_lst (t59 _ _ e59)]))
      (all_cons (bad_tup (t61 _ _ e61) (all_cons (thing_str _ (by decide)) (all_cons (thing_str _ hx) (fun y hy => by cases hy))) (by simp) (by simp [likeT, val_open, val_do, val_copy, val_drop, val_tie, val_lend, val_if, val_while, val_shut, val_OPEN, val_back, allP, part_name, part_word, part_bound, part_steps, wordV, boundV, w_none, w_A, w_a1, isL_non, wxa, wwb]))
      (all_cons (bad_tup (t62 _ _ e62) (all_cons (thing_str _ (by decide)) (all_cons (thing_str _ hcw) (all_cons (thing_str _ hx) (fun y hy => by cases hy)))) (by simp) (by simp [likeT, val_open, val_do, val_copy, val_drop, val_tie, val_lend, val_if, val_while, val_shut, val_OPEN, val_back, allP, part_name, part_word, part_bound, part_steps, wordV, boundV, w_none, w_A, w_a1, isL_non, wxa, wwb]))
      (all_cons (bad_dict (t63 _ _ e63))
      (all_cons (bad_lst (t64 _ _ e64))
      (all_cons (bad_bl _ _ _)
      (fun y hy => by cases hy)))))))))
  have g6 : ∀ v ∈ ([.ref p69] : List V), BadV H H71 v := (all_cons (bad_tup (t69 _ _ e69) (all_cons (thing_str _ (by decide)) (all_cons (thing_bl _ _) (all_cons (thing_lst (t68 _ _ e68)) (fun y hy => by cases hy)))) (by simp) (by simp [likeT, val_open, val_do, val_copy, val_drop, val_tie, val_lend, val_if, val_while, val_shut, val_OPEN, val_back, allP, part_name, part_word, part_bound, part_steps, wordV, boundV, w_none, w_A, w_a1, isL_non, wxa, wwb, isL_lst (t68 _ _ e68)]))
      (fun y hy => by cases hy))
  have key : ∀ L : List V, H71 p71 = some (.lst L) → (∀ v ∈ L, BadV H H71 v) → 0 < L.length → ∃ xs v, (SqL K H71 p71 xs ∨ SqT K H71 p71 xs) ∧ atI xs (c % (L.length : Int)) = some v ∧ Q v H71 := fun L hL hb h0 => by
    obtain ⟨v, hv, hat⟩ := at_any h0 c
    exact ⟨L, v, .inl (SqL.of hL), hat, q v _ u71 (hb v hv)⟩
  exact key _ e71 (all_app (all_app (all_app (all_app (all_app (all_app g0 g1) g2) g3) g4) g5) g6) (by simp)
theorem stpAt.two {PA PA' : Addr → List Stp → Prop} {H : Hp} {a : Addr} (hp : ∀ q b, PA q b → PA' q b) {s : Stp} (h : stpAt PA H a s) : stpAt PA' H a s := stpAt.imp (fun _ _ e => e) hp h
theorem ProgAt.dom {S : Addr → Prop} {H : Hp} : ∀ (d : Nat) {p : Addr} {T : List Stp}, ProgAt S d H p T → ProgAt (fun b => S b ∧ ∃ o, H b = some o) d H p T
  | 0, _, _, h => h.elim
  | d + 1, p, T, ⟨h0, as, h1, h2⟩ => ⟨⟨h0, _, h1⟩, as, h1, Paired.imp' (fun a s z => stpAt.two (fun q b y => ProgAt.dom d y) z) h2⟩
def spNone24 : Sp := fun vs H Q _ => ∃ (c : Int) (p : Addr) (x : Str) (xs : List V), vs = [.int c, .ref p, .str x] ∧ H p = some (.lst xs) ∧ x.length ≤ 20 ∧ ∀ (v : V) (H' : Hp) (T : String), Same H H' → tyName H' v = some T → isT T "list" = false → Q v H'
theorem ok_none (D : DefAt K mg "_law_none" s_law_none) (z_len : mg "len" = none) (z_tuple : mg "tuple" = none) : Cal P w K mg base 1 "_law_none" ["_law_cell", "_law_program_here", "_law_x"] spNone24 := by
  refine D.cal sc_law_none (fun _ _ _ _ _ _ us hl => match us, hl with | [_, _, _], _ => rfl) (fun vs H Q E h => by obtain ⟨c, p, x, xs, rfl, _⟩ := h; rfl) (fun f cdv A outer s H vs Q E hr h => ?_)
  obtain ⟨c, p, x, xs, rfl, hp, hx, q⟩ := h
  refine ⟨_, (pss_cons (ps_let 3 sc_law_none.nd (pe_lst (pa_cons (pe_bty (call_tupA K) z_tuple bt_tuple (pa_cons (pv 1 (hv := v_law_none__law_program_here)) pa_nil) (hg := gl_law_none_tuple)) (pa_cons pe_non (pa_cons pe_str (pa_cons (pe_op op_addA pe_str (pv 2 (hv := v_law_none__law_x))) (pa_cons pe_int (pa_cons pe_bl (pa_cons pe_dnewK (pa_cons (pe_tup (pa_cons pe_str (pa_cons (pv 2 (hv := v_law_none__law_x)) pa_nil))) (pa_cons (pe_tup pa_nil) pa_nil)))))))))) (hx := l_law_none__law_some))
      (pss_one (ps_ret (pe_ix (ix_K K) (pv 3 (hv := v_law_none__law_some)) (pe_op op_mod (pv 0 (hv := v_law_none__law_cell)) (pe_blt (call_lenK K) z_len bt_len (pa_cons (pv 3 (hv := v_law_none__law_some)) pa_nil) (hg := gl_law_none_len))) (fun _ _ => rfl))))), ?_⟩
  have ho : (Str.ofString "open ").length = 5 := by decide +kernel
  walk_at "rd1"
  refine ⟨_, .inl ⟨SqL.of hp, fun p1 h1 => ?_⟩⟩
  generalize hH1 : upd _ p1 _ = H1
  have s1 := al_same hH1 h1
  have e1 := al_at hH1
  clear hH1
  refine ⟨by rw [ho]; exact smallL (by omega), ?_⟩
  intro p2 h2
  generalize hH2 : upd _ p2 _ = H2
  have s2 := al_same hH2 h2
  have e2 := al_at hH2
  clear hH2
  refine ⟨by decide, fun p3 h3 => ?_⟩
  generalize hH3 : upd _ p3 _ = H3
  have s3 := al_same hH3 h3
  have e3 := al_at hH3
  clear hH3
  refine ⟨by decide, fun p4 h4 => ?_⟩
  generalize hH4 : upd _ p4 _ = H4
  have s4 := al_same hH4 h4
  have e4 := al_at hH4
  clear hH4
  refine ⟨by decide, fun p5 h5 => ?_⟩
  generalize hH5 : upd _ p5 _ = H5
  have s5 := al_same hH5 h5
  have e5 := al_at hH5
  clear hH5
  walk_at "nx"
  refine ⟨_, .inl (SqL.of e5), by simp, ?_⟩
  have f1 := s5 _ _ (s4 _ _ (s3 _ _ (s2 _ _ e1)))
  have f2 := s5 _ _ (s4 _ _ (s3 _ _ e2))
  have f3 := s5 _ _ (s4 _ _ e3)
  have f4 := s5 _ _ e4
  have key : ∀ L : List V, H5 p5 = some (.lst L) → (∀ v ∈ L, ∃ T, tyName H5 v = some T ∧ isT T "list" = false) → 0 < L.length → ∃ xs v, (SqL K H5 p5 xs ∨ SqT K H5 p5 xs) ∧ atI xs (c % (L.length : Int)) = some v ∧ Q v H5 := fun L hL hb h0 => by
    obtain ⟨v, hv, hat⟩ := at_any h0 c
    obtain ⟨T, t1, t2⟩ := hb v hv
    exact ⟨L, v, .inl (SqL.of hL), hat, q v _ T ((((s1.trans s2).trans s3).trans s4).trans s5) t1 t2⟩
  exact key _ e5 (all_cons ⟨"tuple", by simp [tyName, f1], by decide⟩ (all_cons ⟨"NoneType", rfl, by decide⟩ (all_cons ⟨"str", rfl, by decide⟩ (all_cons ⟨"str", rfl, by decide⟩ (all_cons ⟨"int", rfl, by decide⟩ (all_cons ⟨"bool", rfl, by decide⟩ (all_cons ⟨"dict", by simp [tyName, f2], by decide⟩ (all_cons ⟨"tuple", by simp [tyName, f3], by decide⟩ (all_cons ⟨"tuple", by simp [tyName, f4], by decide⟩ (fun y hy => by cases hy)))))))))) (by simp)
def spTold : Sp := fun vs H Q _ => ∃ (v : V) (due : Bool), vs = [v, .bl due] ∧ (∀ (Q' : VK) (E : XK), (∀ H', Same H H' → Q' (.bl due) H') → spIsProgA [v] H Q' E) ∧ ∀ H', Same H H' → Q (.bl true) H'
theorem ok_told (D : DefAt K mg "_law_told" s_law_told) (z_isinstance : mg "isinstance" = none) (z_bool : mg "bool" = none) (c_is_program : Cal P w K mg base 16 "is_program" ["thing"] spIsProgA) : Cal P w K mg base 17 "_law_told" ["_law_thing", "_law_due"] spTold := by
  refine D.cal (k := 16) sc_law_told (fun _ _ _ _ _ _ us hl => match us, hl with | [_, _], _ => rfl) (fun vs H Q E h => by obtain ⟨_, _, rfl, _⟩ := h; rfl) (fun f cdv A outer s H vs Q E hr h => ?_)
  obtain ⟨v, due, rfl, hs, q⟩ := h
  refine ⟨_, (pss_cons (ps_let 2 sc_law_told.nd (pe_cal c_is_program hr (pa_cons (pv 0 (hv := v_law_told__law_thing)) pa_nil) (hg := gl_law_told_is_program)) (hx := l_law_told__law_found))
      (pss_one (ps_ret (pe_and (pe_blt call_isT z_isinstance bt_isinstance (pa_cons (pv 2 (hv := v_law_told__law_found)) (pa_cons (pe_gty z_bool bt_bool (hg := gl_law_told_bool)) pa_nil)) (hg := gl_law_told_isinstance)) (pe_one (pe_cmpR op_eqA (pv 2 (hv := v_law_told__law_found)) (pv 1 (hv := v_law_told__law_due)) (nomark _))))))), ?_⟩
  walk_at "rd1"
  refine hs _ _ fun H1 sm1 => ?_
  walk_at "nx"
  refine ⟨"bool", rfl, by decide, ?_⟩
  rw [if_pos (by decide), beq_self_eq_true]
  exact q H1 sm1
theorem occ_list {S : Addr → Prop} {H : Hp} {pp lp p a : Addr} (ho : Occ pp lp H p a) : ∀ (d : Nat) {T : List Stp}, ProgAt S d H p T → szT d T → lnC d T ≤ 60 → S a ∧ ∃ as : List Addr, H a = some (.lst (as.map V.ref)) ∧ as.length ≤ 60 := by
  induction ho with
  | here _ =>
    intro d T hp hz hl
    cases d with
    | zero => exact hp.elim
    | succ d =>
      obtain ⟨h0, as, h1, h2⟩ := hp
      have hal := paired_len h2
      have hTl := ln_ge d T
      exact ⟨h0, as, h1, by omega⟩
  | @down p t q a xs ys n1 n2 h1 h2 h3 h4 _ ih =>
    intro d T hp hz hl
    cases d with
    | zero => exact hp.elim
    | succ d =>
      obtain ⟨_, as, g1, g2⟩ := hp
      rw [h1] at g1; cases g1
      obtain ⟨t', ht, et⟩ := List.mem_map.mp h2
      cases et
      obtain ⟨i, hi⟩ := List.getElem?_of_mem ht
      obtain ⟨s, hs, z⟩ := paired_at g2 hi
      have hsm := List.mem_of_getElem? hs
      have hsz := hz.2 s hsm
      obtain ⟨kd, hs', bs, e1, e2, e3, j, b, hj, hb⟩ := ref_blk z (sz_ok hsz) h3 h4
      obtain ⟨b', hb', y'⟩ := paired_at e3 hj
      have hbm := List.mem_of_getElem? hb'
      exact ih d y' (sz_blk hsz b' hbm) (Nat.le_trans (ln_blk hsm hbm) hl)
theorem prog_told {S : Addr → Prop} {H : Hp} {p : Addr} {T : List Stp} (hP : ProgAt S 10 H p T) (hz : szT 10 T) (hb : progB 10 T = true) : ∀ (Q' : VK) (E : XK), (∀ H', Same H H' → Q' (.bl true) H') → spIsProgA [.ref p] H Q' E := fun Q' E h => .inl (isprog_of (ProgAt.dom 10 hP) hz (fun x z => z.2) fun H' sm => by rw [hb]; exact h H' sm)
theorem erase_put {α : Type} (xs : List α) (x : α) {k : Nat} (h : k ≤ xs.length) : (xs.take k ++ x :: xs.drop k).eraseIdx k = xs ∧ (xs.take k ++ x :: xs.drop k)[k]? = some x := by
  have hl : (xs.take k).length = k := by rw [List.length_take]; omega
  constructor
  · rw [List.eraseIdx_append_of_length_le (by omega), hl, Nat.sub_self, List.eraseIdx_cons_zero, List.take_append_drop]
  · rw [List.getElem?_append_right (by omega), hl, Nat.sub_self]; rfl
theorem ok_law {f : Addr} {fd : FuncData} (F : Fun K "law" "law" s_law f fd) (z_len : mg "len" = none) (c_law_cell_at : Cal P w K mg base 1 "_law_cell_at" ["_law_script", "_law_k"] (spCell K)) (c_law_names : Cal P w K mg base 1 "_law_names" ["_law_cell"] spNames24)
    (c_law_program : Cal P w K mg base 2 "_law_program" ["_law_cells", "_law_names_here"] spProgram) (c_law_bad : Cal P w K mg base 1 "_law_bad" ["_law_cell", "_law_x", "_law_w"] spBad) (c_law_none : Cal P w K mg base 1 "_law_none" ["_law_cell", "_law_program_here", "_law_x"] spNone24) (c_law_told : Cal P w K mg base 17 "_law_told" ["_law_thing", "_law_due"] spTold) : FnOk P w K mg base CX0 18 f fd ["_law_script"] (spLaw K) := by
  refine F.ok sc_law (fun vs H Q E h => by obtain ⟨a, ns, rfl, _⟩ := h; rfl) (fun cdv A outer s H vs Q E hr h => ?_)
  obtain ⟨a, ns, rfl, hS, hn, q⟩ := h
  refine ⟨_, (pss_cons (ps_let 1 sc_law.nd (pe_cal c_law_names hr (pa_cons (pe_cal c_law_cell_at hr (pa_cons (pv 0 (hv := v_law__law_script)) (pa_cons pe_int pa_nil)) (hg := gl_law__law_cell_at)) pa_nil) (hg := gl_law__law_names)) (hx := l_law__law_names_here))
      (pss_cons (ps_let 2 sc_law.nd (pe_cal c_law_program hr (pa_cons (pe_slice (sl_listK K) (pv 0 (hv := v_law__law_script)) (po_some pe_int) (po_some pe_int)) (pa_cons (pv 1 (hv := v_law__law_names_here)) pa_nil)) (hg := gl_law__law_program)) (hx := l_law__law_lists))
      (pss_cons (ps_let 3 sc_law.nd (pe_cal c_law_cell_at hr (pa_cons (pv 0 (hv := v_law__law_script)) (pa_cons pe_int pa_nil)) (hg := gl_law__law_cell_at)) (hx := l_law__law_place))
      (pss_cons (ps_let 4 sc_law.nd (pe_ix (ix_K K) (pv 2 (hv := v_law__law_lists)) (pe_op op_mod (pv 3 (hv := v_law__law_place)) (pe_blt (call_lenK K) z_len bt_len (pa_cons (pv 2 (hv := v_law__law_lists)) pa_nil) (hg := gl_law_len))) (fun _ _ => rfl)) (hx := l_law__law_here))
      (pss_cons (ps_let 5 sc_law.nd (pe_op op_mod (pe_op op_fdiv (pv 3 (hv := v_law__law_place)) (pe_blt (call_lenK K) z_len bt_len (pa_cons (pv 2 (hv := v_law__law_lists)) pa_nil) (hg := gl_law_len))) (pe_op op_addA (pe_blt (call_lenK K) z_len bt_len (pa_cons (pv 4 (hv := v_law__law_here)) pa_nil) (hg := gl_law_len)) pe_int)) (hx := l_law__law_at))
      (pss_cons (ps_if (pt_not (pt_val (pe_cal c_law_told hr (pa_cons (pe_ix (ix_K K) (pv 2 (hv := v_law__law_lists)) pe_int (fun _ _ => rfl)) (pa_cons pe_bl pa_nil)) (hg := gl_law__law_told)))) (pss_one (ps_ret pe_bl)) pss_nil)
      (pss_cons (ps_expr (pe_bmK K PySem.F.plainAttrs_list PySem.F.slot_list_insert PySem.F.type_list_insert mt_insertA (pv 4 (hv := v_law__law_here)) (pa_cons (pv 5 (hv := v_law__law_at)) (pa_cons (pe_cal c_law_bad hr (pa_cons (pe_cal c_law_cell_at hr (pa_cons (pv 0 (hv := v_law__law_script)) (pa_cons pe_int pa_nil)) (hg := gl_law__law_cell_at)) (pa_cons (pe_ix (ix_K K) (pv 1 (hv := v_law__law_names_here)) pe_int (fun _ _ => rfl)) (pa_cons (pe_ix (ix_K K) (pv 1 (hv := v_law__law_names_here)) pe_int (fun _ _ => rfl)) pa_nil))) (hg := gl_law__law_bad)) pa_nil))))
      (pss_cons (ps_if (pt_not (pt_val (pe_cal c_law_told hr (pa_cons (pe_ix (ix_K K) (pv 2 (hv := v_law__law_lists)) pe_int (fun _ _ => rfl)) (pa_cons pe_bl pa_nil)) (hg := gl_law__law_told)))) (pss_one (ps_ret pe_bl)) pss_nil)
      (pss_cons (ps_expr (pe_bmK K PySem.F.plainAttrs_list PySem.F.slot_list_pop PySem.F.type_list_pop mt_popAtB (pv 4 (hv := v_law__law_here)) (pa_cons (pv 5 (hv := v_law__law_at)) pa_nil)))
      (pss_cons (ps_if (pt_not (pt_val (pe_cal c_law_told hr (pa_cons (pe_ix (ix_K K) (pv 2 (hv := v_law__law_lists)) pe_int (fun _ _ => rfl)) (pa_cons pe_bl pa_nil)) (hg := gl_law__law_told)))) (pss_one (ps_ret pe_bl)) pss_nil)
      (pss_one (ps_ret (pe_cal c_law_told hr (pa_cons (pe_cal c_law_none hr (pa_cons (pe_op op_fdiv (pe_cal c_law_cell_at hr (pa_cons (pv 0 (hv := v_law__law_script)) (pa_cons pe_int pa_nil)) (hg := gl_law__law_cell_at)) pe_int) (pa_cons (pe_ix (ix_K K) (pv 2 (hv := v_law__law_lists)) pe_int (fun _ _ => rfl)) (pa_cons (pe_ix (ix_K K) (pv 1 (hv := v_law__law_names_here)) pe_int (fun _ _ => rfl)) pa_nil))) (hg := gl_law__law_none)) (pa_cons pe_bl pa_nil)) (hg := gl_law__law_told)))))))))))))), ?_⟩
  walk_at "rd1"
  refine ⟨a, ns, 0, rfl, hS, by decide, ?_⟩
  walk_at "rd1"
  refine ⟨_, rfl, fun np H1 nm sm1 hnp hl1 hn4 hw => ?_⟩
  walk_at "nx"
  refine ⟨_, sm1.seq hS, fun cp hcp => ?_⟩
  rw [cut_map]
  have hcl := cutS_len ns (some 3) (some 203)
  have s2 := same_new hcp (.lst ((cutS ns (some 3) (some 203)).map V.int))
  have e2 : upd H1 cp (.lst ((cutS ns (some 3) (some 203)).map V.int)) cp = some (.lst ((cutS ns (some 3) (some 203)).map V.int)) := upd_same
  generalize cutS ns (some 3) (some 203) = cs at hcl s2 e2 ⊢
  generalize upd H1 cp (.lst (cs.map V.int)) = H2 at s2 e2 ⊢
  refine ⟨cp, np, cs, nm, rfl, e2, s2 _ _ hl1, hn4, hw, by omega, fun lp pp root H3 S T lv sm3 hlv hlv0 hlvn hP good hSlp hocc hlp0 => ?_⟩
  have sm13 := s2.trans sm3
  have smA := sm1.trans sm13
  obtain ⟨hz, hpb⟩ := good_prog (by omega) good
  have hl60 := good.ln
  have hnp3 := sm13 _ _ hl1
  have hlvp : 0 < lv.length := (List.getElem?_eq_some_iff.mp hlv0).1
  walk_at "nx"
  refine ⟨a, ns, 1, rfl, smA.seq hS, by decide, ?_⟩
  generalize ns.getD (Int.toNat 1) 0 = place
  walk_at "nx"
  refine ⟨_, .inl (SqL.of hlv), by rw [List.length_map]; omega, ?_⟩
  rw [List.length_map]
  obtain ⟨j, hj, hjl⟩ : ∃ j : Nat, place % (lv.length : Int) = (j : Int) ∧ j < lv.length := by
    have a1 := Int.emod_nonneg place (show (lv.length : Int) ≠ 0 by omega)
    have a2 := Int.emod_lt_of_pos place (show (0 : Int) < lv.length by omega)
    exact ⟨(place % (lv.length : Int)).toNat, by omega, by omega⟩
  rw [hj]
  refine ⟨_, _, .inl (SqL.of hlv), atI_nat (by rw [List.getElem?_map, List.getElem?_eq_getElem hjl]; rfl), ?_⟩
  have hoc := hocc _ (List.getElem_mem hjl)
  generalize lv[j] = hh at hoc ⊢
  obtain ⟨hSh, as, hha, has⟩ := occ_list hoc 10 hP hz hl60
  have nhl : hh ≠ lp := fun z => hSlp (z ▸ hSh)
  walk_at "nx"
  refine ⟨_, .inl (SqL.of hlv), ⟨by rw [List.length_map]; omega, by rw [List.length_map]; omega⟩, _, .inl (SqL.of hha), by rw [List.length_map]; omega, ?_⟩
  rw [List.length_map, List.length_map]
  obtain ⟨k, hk, hkl⟩ : ∃ k : Nat, place / (lv.length : Int) % ((as.length : Int) + 1) = (k : Int) ∧ k ≤ as.length := by
    have a1 := Int.emod_nonneg (place / (lv.length : Int)) (show (as.length : Int) + 1 ≠ 0 by omega)
    have a2 := Int.emod_lt_of_pos (place / (lv.length : Int)) (show (0 : Int) < (as.length : Int) + 1 by omega)
    exact ⟨(place / (lv.length : Int) % ((as.length : Int) + 1)).toNat, by omega, by omega⟩
  rw [hk]
  have at00 : atI (lv.map V.ref) 0 = some (.ref root) := atI_nat (j := 0) (by rw [List.getElem?_map, hlv0]; rfl)
  walk_at "nx"
  refine ⟨_, _, .inl (SqL.of hlv), at00, _, _, rfl, prog_told hP hz hpb, fun H4 s4 => ?_⟩
  walk_at "rd1"
  have hha4 := s4 _ _ hha
  have hlv4 := s4 _ _ hlv
  have hnp4 := s4 _ _ hnp3
  have smA4 := smA.trans s4
  walk_at "nx"
  refine ⟨⟨_, SqL.of hha4⟩, a, ns, 2, rfl, smA4.seq hS, by decide, ?_⟩
  have i0 : 0 < nm.length := by omega
  have i1 : 1 < nm.length := by omega
  have at0n : atI (nm.map V.str) 0 = some (.str nm[0]) := atI_nat (j := 0) (by rw [List.getElem?_map, List.getElem?_eq_getElem i0]; rfl)
  have at1n : atI (nm.map V.str) 1 = some (.str nm[1]) := atI_nat (j := 1) (by rw [List.getElem?_map, List.getElem?_eq_getElem i1]; rfl)
  walk_at "rd1"
  refine ⟨_, _, .inl (SqL.of hnp4), at0n, _, _, .inl (SqL.of hnp4), at1n, ?_⟩
  refine ⟨_, _, _, rfl, hw _ (List.getElem_mem i0), hw _ (List.getElem_mem i1), fun v H5 s5 hbad => ?_⟩
  have hha5 := s5 _ _ hha4
  have hP5 := (hP.mono s4).mono s5
  have hoc5 : Occ pp lp H5 root hh := hoc.mono (Grow.of (s4.trans s5))
  refine ⟨_, hha5, by omega, by rw [List.length_map]; omega, by rw [List.length_map]; omega, ?_⟩
  rw [Int.toNat_natCast]
  have hup : ∀ b o, H5 b = some o → b ≠ hh → upd H5 hh (.lst ((as.map V.ref).take k ++ v :: (as.map V.ref).drop k)) b = some o := fun b o e n => by rw [upd_ne n]; exact e
  have hat6 : upd H5 hh (.lst ((as.map V.ref).take k ++ v :: (as.map V.ref).drop k)) hh = some (.lst ((as.map V.ref).take k ++ v :: (as.map V.ref).drop k)) := upd_same
  generalize upd H5 hh (.lst ((as.map V.ref).take k ++ v :: (as.map V.ref).drop k)) = H6 at hup hat6 ⊢
  have hFr : FrL H5 H6 hh := ⟨hup, (fun o e => by rw [hha5] at e; cases e; exact ⟨_, rfl⟩), ⟨_, hat6⟩⟩
  obtain ⟨b1, b2⟩ := hbad.put hFr ⟨_, hha4⟩
  have hPut : Put (fun b => ∃ o, H6 b = some o) H5 H6 hh v k := ⟨hup, ⟨_, hha5⟩, (fun xs e => by rw [hha5] at e; cases e; exact hat6), fun b o e => ⟨o, e⟩, b1, b2 _ fun b o e => ⟨o, e⟩⟩
  obtain ⟨out, hgth⟩ := put_fail hPut hoc5 10 9 0 rfl hP5 hz hl60 0
  have hlv6 := hup _ _ (s5 _ _ hlv4) (Ne.symm nhl)
  walk_at "nx"
  refine ⟨_, _, .inl (SqL.of hlv6), at00, _, _, rfl, fun Q' E' hq' => .inl ⟨root, _, out, false, [], fun _ => True, rfl, hgth, fun x z => z, (fun z => by cases z), fun H' sm => hq' H' sm⟩, fun H7 s7 => ?_⟩
  walk_at "rd1"
  have hha7 := s7 _ _ hat6
  obtain ⟨er1, er2⟩ := erase_put (as.map V.ref) v (k := k) (by rw [List.length_map]; exact hkl)
  have hlen : ((as.map V.ref).take k ++ v :: (as.map V.ref).drop k).length = as.length + 1 := by rw [List.length_append, List.length_cons, List.length_take, List.length_drop, List.length_map]; omega
  walk_at "nx"
  refine ⟨⟨_, SqL.of hha7⟩, _, k, v, hha7, Int.le_trans (by decide) (Int.natCast_nonneg k), Int.lt_of_lt_of_le (show ((k : Nat) : Int) < 100 by omega) (by decide), ?_, er2, ?_⟩
  · rw [hlen]
    unfold seqIndex?
    simp
    omega
  rw [er1]
  have hsame : Same H5 (upd H7 hh (.lst (as.map V.ref))) := fun b o e => by
    by_cases hb : b = hh
    · subst hb; rw [hha5] at e; cases e; exact upd_same
    · rw [upd_ne hb]; exact s7 _ _ (hup b o e hb)
  generalize upd H7 hh (.lst (as.map V.ref)) = H8 at hsame ⊢
  have hlv8 := hsame _ _ (s5 _ _ hlv4)
  have hP8 := hP5.mono hsame
  walk_at "nx"
  refine ⟨_, _, .inl (SqL.of hlv8), at00, _, _, rfl, prog_told hP8 hz hpb, fun H9 s9 => ?_⟩
  walk_at "rd1"
  have sm49 := (s5.trans hsame).trans s9
  walk_at "nx"
  refine ⟨a, ns, 2, rfl, (smA4.trans sm49).seq hS, by decide, ?_⟩
  walk_at "rd1"
  obtain ⟨hroot, asr, hrl, _⟩ := id (hP8.mono s9)
  refine ⟨⟨by decide, by decide⟩, _, _, .inl (SqL.of (s9 _ _ hlv8)), at00, _, _, .inl (SqL.of (sm49 _ _ hnp4)), at0n, ?_⟩
  have hn0 := word_len (hw _ (List.getElem_mem i0))
  refine ⟨_, _, _, _, rfl, hrl, by omega, fun u H10 Ty s10 hty hnl => ?_⟩
  exact ⟨_, _, rfl, fun Q' E' hq' => .inr ⟨u, Ty, rfl, hty, hnl, hq'⟩, fun H11 s11 => q H11⟩
end
theorem all_mk {l : PySem.W.OpenLaw} {w : World} {K : PySem.W.Frag} {h : Heap} {mg : Str → Option Value} {fa : Addr} (X : K.In h) (G : h.Ns mainGlobals mg) (hfa : mg "law" = some (.ref fa))
    {f0 : Addr} {od0 an0 : Option Addr} {sl0 : Array (Option Value)} {oc0 kV0 dc0 pm0 cd0 ct0 : Value} {f1 : Addr} {od1 an1 : Option Addr} {sl1 : Array (Option Value)} {oc1 kV1 dc1 pm1 cd1 ct1 : Value} {f2 : Addr} {od2 an2 : Option Addr} {sl2 : Array (Option Value)} {oc2 kV2 dc2 pm2 cd2 ct2 : Value} {f3 : Addr} {od3 an3 : Option Addr} {sl3 : Array (Option Value)} {oc3 kV3 dc3 pm3 cd3 ct3 : Value} {f4 : Addr} {od4 an4 : Option Addr} {sl4 : Array (Option Value)} {oc4 kV4 dc4 pm4 cd4 ct4 : Value} {f5 : Addr} {od5 an5 : Option Addr} {sl5 : Array (Option Value)} {oc5 kV5 dc5 pm5 cd5 ct5 : Value} {f6 : Addr} {od6 an6 : Option Addr} {sl6 : Array (Option Value)} {oc6 kV6 dc6 pm6 cd6 ct6 : Value} {f7 : Addr} {od7 an7 : Option Addr} {sl7 : Array (Option Value)} {oc7 kV7 dc7 pm7 cd7 ct7 : Value} {f8 : Addr} {od8 an8 : Option Addr} {sl8 : Array (Option Value)} {oc8 kV8 dc8 pm8 cd8 ct8 : Value} {f9 : Addr} {od9 an9 : Option Addr} {sl9 : Array (Option Value)} {oc9 kV9 dc9 pm9 cd9 ct9 : Value} {f10 : Addr} {od10 an10 : Option Addr} {sl10 : Array (Option Value)} {oc10 kV10 dc10 pm10 cd10 ct10 : Value} {f11 : Addr} {od11 an11 : Option Addr} {sl11 : Array (Option Value)} {oc11 kV11 dc11 pm11 cd11 ct11 : Value} {f12 : Addr} {od12 an12 : Option Addr} {sl12 : Array (Option Value)} {oc12 kV12 dc12 pm12 cd12 ct12 : Value} {f13 : Addr} {od13 an13 : Option Addr} {sl13 : Array (Option Value)} {oc13 kV13 dc13 pm13 cd13 ct13 : Value} {f14 : Addr} {od14 an14 : Option Addr} {sl14 : Array (Option Value)} {oc14 kV14 dc14 pm14 cd14 ct14 : Value} {f15 : Addr} {od15 an15 : Option Addr} {sl15 : Array (Option Value)} {oc15 kV15 dc15 pm15 cd15 ct15 : Value} {f16 : Addr} {od16 an16 : Option Addr} {sl16 : Array (Option Value)} {oc16 kV16 dc16 pm16 cd16 ct16 : Value} {f17 : Addr} {od17 an17 : Option Addr} {sl17 : Array (Option Value)} {oc17 kV17 dc17 pm17 cd17 ct17 : Value} {f18 : Addr} {od18 an18 : Option Addr} {sl18 : Array (Option Value)} {oc18 kV18 dc18 pm18 cd18 ct18 : Value} {f19 : Addr} {od19 an19 : Option Addr} {sl19 : Array (Option Value)} {oc19 kV19 dc19 pm19 cd19 ct19 : Value} {t_MOST_LETTERS : Tok} {t_LETTERS : Tok} {t_MOST_AROUND : Tok} {t_MOST_LINES : Tok} {t_MOST_LENDS : Tok} {t_MOST_NAMES : Tok} {d_PARTS : Addr} {n_PARTS : Nat} {k_PARTS_0 : Tok} {a_PARTS_0 : Addr} {od_PARTS_0 : Option Addr} {m_PARTS_0 : Nat} {sl_PARTS_0 : Array (Option Value)} {k_PARTS_0_0 : Tok} {k_PARTS_1 : Tok} {a_PARTS_1 : Addr} {od_PARTS_1 : Option Addr} {m_PARTS_1 : Nat} {sl_PARTS_1 : Array (Option Value)} {k_PARTS_1_0 : Tok} {k_PARTS_1_1 : Tok} {k_PARTS_2 : Tok} {a_PARTS_2 : Addr} {od_PARTS_2 : Option Addr} {m_PARTS_2 : Nat} {sl_PARTS_2 : Array (Option Value)} {k_PARTS_2_0 : Tok} {k_PARTS_2_1 : Tok} {k_PARTS_3 : Tok} {a_PARTS_3 : Addr} {od_PARTS_3 : Option Addr} {m_PARTS_3 : Nat} {sl_PARTS_3 : Array (Option Value)} {k_PARTS_3_0 : Tok} {k_PARTS_4 : Tok} {a_PARTS_4 : Addr} {od_PARTS_4 : Option Addr} {m_PARTS_4 : Nat} {sl_PARTS_4 : Array (Option Value)} {k_PARTS_4_0 : Tok} {k_PARTS_4_1 : Tok} {k_PARTS_5 : Tok} {a_PARTS_5 : Addr} {od_PARTS_5 : Option Addr} {m_PARTS_5 : Nat} {sl_PARTS_5 : Array (Option Value)} {k_PARTS_5_0 : Tok} {k_PARTS_5_1 : Tok} {k_PARTS_5_2 : Tok} {k_PARTS_6 : Tok} {a_PARTS_6 : Addr} {od_PARTS_6 : Option Addr} {m_PARTS_6 : Nat} {sl_PARTS_6 : Array (Option Value)} {k_PARTS_6_0 : Tok} {k_PARTS_6_1 : Tok} {k_PARTS_6_2 : Tok} {k_PARTS_7 : Tok} {a_PARTS_7 : Addr} {od_PARTS_7 : Option Addr} {m_PARTS_7 : Nat} {sl_PARTS_7 : Array (Option Value)} {k_PARTS_7_0 : Tok} {k_PARTS_7_1 : Tok} {d_CLOSERS : Addr} {n_CLOSERS : Nat} {k_CLOSERS_0 : Tok} {a_CLOSERS_0 : Addr} {od_CLOSERS_0 : Option Addr} {m_CLOSERS_0 : Nat} {sl_CLOSERS_0 : Array (Option Value)} {k_CLOSERS_0_0 : Tok} {k_CLOSERS_1 : Tok} {a_CLOSERS_1 : Addr} {od_CLOSERS_1 : Option Addr} {m_CLOSERS_1 : Nat} {sl_CLOSERS_1 : Array (Option Value)} {k_CLOSERS_1_0 : Tok} {k_CLOSERS_1_1 : Tok} {k_CLOSERS_2 : Tok} {a_CLOSERS_2 : Addr} {od_CLOSERS_2 : Option Addr} {m_CLOSERS_2 : Nat} {sl_CLOSERS_2 : Array (Option Value)} {k_CLOSERS_2_0 : Tok}
    (a0 : PySem.W.nsIn K mainGlobals "is_whole" = some (some (.ref f0))) (l0 : K.lookup f0 = some ⟨oc0, od0, .func (PySem.W.fnOf "is_whole" "is_whole" (defArgs s_is_whole) (defBody s_is_whole) (defScope s_is_whole) .none kV0 dc0 pm0 an0 cd0 ct0), sl0⟩) (c0 : PySem.W.codeIn K cd0 "is_whole" = true) (k0 : PySem.W.keepIn K (.ref f0) = true)
    (a1 : PySem.W.nsIn K mainGlobals "is_word" = some (some (.ref f1))) (l1 : K.lookup f1 = some ⟨oc1, od1, .func (PySem.W.fnOf "is_word" "is_word" (defArgs s_is_word) (defBody s_is_word) (defScope s_is_word) .none kV1 dc1 pm1 an1 cd1 ct1), sl1⟩) (c1 : PySem.W.codeIn K cd1 "is_word" = true) (k1 : PySem.W.keepIn K (.ref f1) = true)
    (a2 : PySem.W.nsIn K mainGlobals "closers_of" = some (some (.ref f2))) (l2 : K.lookup f2 = some ⟨oc2, od2, .func (PySem.W.fnOf "closers_of" "closers_of" (defArgs s_closers_of) (defBody s_closers_of) (defScope s_closers_of) .none kV2 dc2 pm2 an2 cd2 ct2), sl2⟩) (c2 : PySem.W.codeIn K cd2 "closers_of" = true) (k2 : PySem.W.keepIn K (.ref f2) = true)
    (a3 : PySem.W.nsIn K mainGlobals "head_of" = some (some (.ref f3))) (l3 : K.lookup f3 = some ⟨oc3, od3, .func (PySem.W.fnOf "head_of" "head_of" (defArgs s_head_of) (defBody s_head_of) (defScope s_head_of) .none kV3 dc3 pm3 an3 cd3 ct3), sl3⟩) (c3 : PySem.W.codeIn K cd3 "head_of" = true) (k3 : PySem.W.keepIn K (.ref f3) = true)
    (a4 : PySem.W.nsIn K mainGlobals "blocks_of" = some (some (.ref f4))) (l4 : K.lookup f4 = some ⟨oc4, od4, .func (PySem.W.fnOf "blocks_of" "blocks_of" (defArgs s_blocks_of) (defBody s_blocks_of) (defScope s_blocks_of) .none kV4 dc4 pm4 an4 cd4 ct4), sl4⟩) (c4 : PySem.W.codeIn K cd4 "blocks_of" = true) (k4 : PySem.W.keepIn K (.ref f4) = true)
    (a5 : PySem.W.nsIn K mainGlobals "is_bound" = some (some (.ref f5))) (l5 : K.lookup f5 = some ⟨oc5, od5, .func (PySem.W.fnOf "is_bound" "is_bound" (defArgs s_is_bound) (defBody s_is_bound) (defScope s_is_bound) .none kV5 dc5 pm5 an5 cd5 ct5), sl5⟩) (c5 : PySem.W.codeIn K cd5 "is_bound" = true) (k5 : PySem.W.keepIn K (.ref f5) = true)
    (a6 : PySem.W.nsIn K mainGlobals "is_part" = some (some (.ref f6))) (l6 : K.lookup f6 = some ⟨oc6, od6, .func (PySem.W.fnOf "is_part" "is_part" (defArgs s_is_part) (defBody s_is_part) (defScope s_is_part) .none kV6 dc6 pm6 an6 cd6 ct6), sl6⟩) (c6 : PySem.W.codeIn K cd6 "is_part" = true) (k6 : PySem.W.keepIn K (.ref f6) = true)
    (a7 : PySem.W.nsIn K mainGlobals "is_like_step" = some (some (.ref f7))) (l7 : K.lookup f7 = some ⟨oc7, od7, .func (PySem.W.fnOf "is_like_step" "is_like_step" (defArgs s_is_like_step) (defBody s_is_like_step) (defScope s_is_like_step) .none kV7 dc7 pm7 an7 cd7 ct7), sl7⟩) (c7 : PySem.W.codeIn K cd7 "is_like_step" = true) (k7 : PySem.W.keepIn K (.ref f7) = true)
    (a8 : PySem.W.nsIn K mainGlobals "gathers_steps" = some (some (.ref f8))) (l8 : K.lookup f8 = some ⟨oc8, od8, .func (PySem.W.fnOf "gathers_steps" "gathers_steps" (defArgs s_gathers_steps) (defBody s_gathers_steps) (defScope s_gathers_steps) .none kV8 dc8 pm8 an8 cd8 ct8), sl8⟩) (c8 : PySem.W.codeIn K cd8 "gathers_steps" = true) (k8 : PySem.W.keepIn K (.ref f8) = true)
    (a9 : PySem.W.nsIn K mainGlobals "names_in" = some (some (.ref f9))) (l9 : K.lookup f9 = some ⟨oc9, od9, .func (PySem.W.fnOf "names_in" "names_in" (defArgs s_names_in) (defBody s_names_in) (defScope s_names_in) .none kV9 dc9 pm9 an9 cd9 ct9), sl9⟩) (c9 : PySem.W.codeIn K cd9 "names_in" = true) (k9 : PySem.W.keepIn K (.ref f9) = true)
    (a10 : PySem.W.nsIn K mainGlobals "is_program" = some (some (.ref f10))) (l10 : K.lookup f10 = some ⟨oc10, od10, .func (PySem.W.fnOf "is_program" "is_program" (defArgs s_is_program) (defBody s_is_program) (defScope s_is_program) .none kV10 dc10 pm10 an10 cd10 ct10), sl10⟩) (c10 : PySem.W.codeIn K cd10 "is_program" = true) (k10 : PySem.W.keepIn K (.ref f10) = true)
    (a11 : PySem.W.nsIn K mainGlobals "_law_cell_at" = some (some (.ref f11))) (l11 : K.lookup f11 = some ⟨oc11, od11, .func (PySem.W.fnOf "_law_cell_at" "_law_cell_at" (defArgs s_law_cell_at) (defBody s_law_cell_at) (defScope s_law_cell_at) .none kV11 dc11 pm11 an11 cd11 ct11), sl11⟩) (c11 : PySem.W.codeIn K cd11 "_law_cell_at" = true) (k11 : PySem.W.keepIn K (.ref f11) = true)
    (a12 : PySem.W.nsIn K mainGlobals "_law_names" = some (some (.ref f12))) (l12 : K.lookup f12 = some ⟨oc12, od12, .func (PySem.W.fnOf "_law_names" "_law_names" (defArgs s_law_names) (defBody s_law_names) (defScope s_law_names) .none kV12 dc12 pm12 an12 cd12 ct12), sl12⟩) (c12 : PySem.W.codeIn K cd12 "_law_names" = true) (k12 : PySem.W.keepIn K (.ref f12) = true)
    (a13 : PySem.W.nsIn K mainGlobals "_law_step" = some (some (.ref f13))) (l13 : K.lookup f13 = some ⟨oc13, od13, .func (PySem.W.fnOf "_law_step" "_law_step" (defArgs s_law_step) (defBody s_law_step) (defScope s_law_step) .none kV13 dc13 pm13 an13 cd13 ct13), sl13⟩) (c13 : PySem.W.codeIn K cd13 "_law_step" = true) (k13 : PySem.W.keepIn K (.ref f13) = true)
    (a14 : PySem.W.nsIn K mainGlobals "_law_begun" = some (some (.ref f14))) (l14 : K.lookup f14 = some ⟨oc14, od14, .func (PySem.W.fnOf "_law_begun" "_law_begun" (defArgs s_law_begun) (defBody s_law_begun) (defScope s_law_begun) .none kV14 dc14 pm14 an14 cd14 ct14), sl14⟩) (c14 : PySem.W.codeIn K cd14 "_law_begun" = true) (k14 : PySem.W.keepIn K (.ref f14) = true)
    (a15 : PySem.W.nsIn K mainGlobals "_law_program" = some (some (.ref f15))) (l15 : K.lookup f15 = some ⟨oc15, od15, .func (PySem.W.fnOf "_law_program" "_law_program" (defArgs s_law_program) (defBody s_law_program) (defScope s_law_program) .none kV15 dc15 pm15 an15 cd15 ct15), sl15⟩) (c15 : PySem.W.codeIn K cd15 "_law_program" = true) (k15 : PySem.W.keepIn K (.ref f15) = true)
    (a16 : PySem.W.nsIn K mainGlobals "_law_bad" = some (some (.ref f16))) (l16 : K.lookup f16 = some ⟨oc16, od16, .func (PySem.W.fnOf "_law_bad" "_law_bad" (defArgs s_law_bad) (defBody s_law_bad) (defScope s_law_bad) .none kV16 dc16 pm16 an16 cd16 ct16), sl16⟩) (c16 : PySem.W.codeIn K cd16 "_law_bad" = true) (k16 : PySem.W.keepIn K (.ref f16) = true)
    (a17 : PySem.W.nsIn K mainGlobals "_law_none" = some (some (.ref f17))) (l17 : K.lookup f17 = some ⟨oc17, od17, .func (PySem.W.fnOf "_law_none" "_law_none" (defArgs s_law_none) (defBody s_law_none) (defScope s_law_none) .none kV17 dc17 pm17 an17 cd17 ct17), sl17⟩) (c17 : PySem.W.codeIn K cd17 "_law_none" = true) (k17 : PySem.W.keepIn K (.ref f17) = true)
    (a18 : PySem.W.nsIn K mainGlobals "_law_told" = some (some (.ref f18))) (l18 : K.lookup f18 = some ⟨oc18, od18, .func (PySem.W.fnOf "_law_told" "_law_told" (defArgs s_law_told) (defBody s_law_told) (defScope s_law_told) .none kV18 dc18 pm18 an18 cd18 ct18), sl18⟩) (c18 : PySem.W.codeIn K cd18 "_law_told" = true) (k18 : PySem.W.keepIn K (.ref f18) = true)
    (a19 : PySem.W.nsIn K mainGlobals "law" = some (some (.ref f19))) (l19 : K.lookup f19 = some ⟨oc19, od19, .func (PySem.W.fnOf "law" "law" (defArgs s_law) (defBody s_law) (defScope s_law) .none kV19 dc19 pm19 an19 cd19 ct19), sl19⟩) (c19 : PySem.W.codeIn K cd19 "law" = true) (k19 : PySem.W.keepIn K (.ref f19) = true)
    (y_isinstance : PySem.W.nsIn K mainGlobals "isinstance" = some none)
    (y_int : PySem.W.nsIn K mainGlobals "int" = some none)
    (y_bool : PySem.W.nsIn K mainGlobals "bool" = some none)
    (y_str : PySem.W.nsIn K mainGlobals "str" = some none)
    (y_list : PySem.W.nsIn K mainGlobals "list" = some none)
    (y_tuple : PySem.W.nsIn K mainGlobals "tuple" = some none)
    (y_len : PySem.W.nsIn K mainGlobals "len" = some none)
    (y_all : PySem.W.nsIn K mainGlobals "all" = some none)
    (y_zip : PySem.W.nsIn K mainGlobals "zip" = some none)
    (y_range : PySem.W.nsIn K mainGlobals "range" = some none)
    (y_abs : PySem.W.nsIn K mainGlobals "abs" = some none)
    (y_sum : PySem.W.nsIn K mainGlobals "sum" = some none)
    (h_MOST_LETTERS : PySem.W.nsIn K mainGlobals "MOST_LETTERS" = some (some (.int 8 t_MOST_LETTERS)))
    (h_LETTERS : PySem.W.nsIn K mainGlobals "LETTERS" = some (some (.str "abcdefghijklmnopqrstuvwxyz" t_LETTERS)))
    (h_MOST_AROUND : PySem.W.nsIn K mainGlobals "MOST_AROUND" = some (some (.int 8 t_MOST_AROUND)))
    (h_MOST_LINES : PySem.W.nsIn K mainGlobals "MOST_LINES" = some (some (.int 60 t_MOST_LINES)))
    (h_MOST_LENDS : PySem.W.nsIn K mainGlobals "MOST_LENDS" = some (some (.int 3 t_MOST_LENDS)))
    (h_MOST_NAMES : PySem.W.nsIn K mainGlobals "MOST_NAMES" = some (some (.int 4 t_MOST_NAMES)))
    (h_PARTS : PySem.W.nsIn K mainGlobals "PARTS" = some (some (.ref d_PARTS)))
    (ld_PARTS : K.lookup d_PARTS = some ⟨.type "dict", none, .dict #[⟨PyData.keyHash w.params "open", .str "open" k_PARTS_0, .ref a_PARTS_0⟩, ⟨PyData.keyHash w.params "do", .str "do" k_PARTS_1, .ref a_PARTS_1⟩, ⟨PyData.keyHash w.params "copy", .str "copy" k_PARTS_2, .ref a_PARTS_2⟩, ⟨PyData.keyHash w.params "drop", .str "drop" k_PARTS_3, .ref a_PARTS_3⟩, ⟨PyData.keyHash w.params "tie", .str "tie" k_PARTS_4, .ref a_PARTS_4⟩, ⟨PyData.keyHash w.params "lend", .str "lend" k_PARTS_5, .ref a_PARTS_5⟩, ⟨PyData.keyHash w.params "if", .str "if" k_PARTS_6, .ref a_PARTS_6⟩, ⟨PyData.keyHash w.params "while", .str "while" k_PARTS_7, .ref a_PARTS_7⟩] n_PARTS, #[]⟩)
    (la_PARTS_0 : K.lookup a_PARTS_0 = some ⟨.type "tuple", od_PARTS_0, .seq #[.str "name" k_PARTS_0_0] m_PARTS_0, sl_PARTS_0⟩)
    (la_PARTS_1 : K.lookup a_PARTS_1 = some ⟨.type "tuple", od_PARTS_1, .seq #[.str "word" k_PARTS_1_0, .str "name" k_PARTS_1_1] m_PARTS_1, sl_PARTS_1⟩)
    (la_PARTS_2 : K.lookup a_PARTS_2 = some ⟨.type "tuple", od_PARTS_2, .seq #[.str "name" k_PARTS_2_0, .str "name" k_PARTS_2_1] m_PARTS_2, sl_PARTS_2⟩)
    (la_PARTS_3 : K.lookup a_PARTS_3 = some ⟨.type "tuple", od_PARTS_3, .seq #[.str "name" k_PARTS_3_0] m_PARTS_3, sl_PARTS_3⟩)
    (la_PARTS_4 : K.lookup a_PARTS_4 = some ⟨.type "tuple", od_PARTS_4, .seq #[.str "name" k_PARTS_4_0, .str "name" k_PARTS_4_1] m_PARTS_4, sl_PARTS_4⟩)
    (la_PARTS_5 : K.lookup a_PARTS_5 = some ⟨.type "tuple", od_PARTS_5, .seq #[.str "name" k_PARTS_5_0, .str "name" k_PARTS_5_1, .str "steps" k_PARTS_5_2] m_PARTS_5, sl_PARTS_5⟩)
    (la_PARTS_6 : K.lookup a_PARTS_6 = some ⟨.type "tuple", od_PARTS_6, .seq #[.str "bound" k_PARTS_6_0, .str "steps" k_PARTS_6_1, .str "steps" k_PARTS_6_2] m_PARTS_6, sl_PARTS_6⟩)
    (la_PARTS_7 : K.lookup a_PARTS_7 = some ⟨.type "tuple", od_PARTS_7, .seq #[.str "bound" k_PARTS_7_0, .str "steps" k_PARTS_7_1] m_PARTS_7, sl_PARTS_7⟩)
    (dz_PARTS : (d_PARTS == sysModules) = false)
    (h_CLOSERS : PySem.W.nsIn K mainGlobals "CLOSERS" = some (some (.ref d_CLOSERS)))
    (ld_CLOSERS : K.lookup d_CLOSERS = some ⟨.type "dict", none, .dict #[⟨PyData.keyHash w.params "lend", .str "lend" k_CLOSERS_0, .ref a_CLOSERS_0⟩, ⟨PyData.keyHash w.params "if", .str "if" k_CLOSERS_1, .ref a_CLOSERS_1⟩, ⟨PyData.keyHash w.params "while", .str "while" k_CLOSERS_2, .ref a_CLOSERS_2⟩] n_CLOSERS, #[]⟩)
    (la_CLOSERS_0 : K.lookup a_CLOSERS_0 = some ⟨.type "tuple", od_CLOSERS_0, .seq #[.str "back" k_CLOSERS_0_0] m_CLOSERS_0, sl_CLOSERS_0⟩)
    (la_CLOSERS_1 : K.lookup a_CLOSERS_1 = some ⟨.type "tuple", od_CLOSERS_1, .seq #[.str "else" k_CLOSERS_1_0, .str "fi" k_CLOSERS_1_1] m_CLOSERS_1, sl_CLOSERS_1⟩)
    (la_CLOSERS_2 : K.lookup a_CLOSERS_2 = some ⟨.type "tuple", od_CLOSERS_2, .seq #[.str "done" k_CLOSERS_2_0] m_CLOSERS_2, sl_CLOSERS_2⟩)
    (dz_CLOSERS : (d_CLOSERS == sysModules) = false) :
    ∃ fd : FuncData, (∀ (s : Shared) (v : Value), BindsTo s fd ⟨[v], []⟩ [("_law_script", v)]) ∧ ∀ base : Heap, K.In base → base.Ns mainGlobals mg → FnOk l.prog w K mg base CX0 18 fa fd ["_law_script"] (spLaw K) := by
  have e := hfa.symm.trans (PySem.W.mg_of X G a19)
  cases e
  have D_is_whole : DefAt K mg "is_whole" s_is_whole := ⟨f0, _, fun_mk (st := s_is_whole) l0 c0 k0, PySem.W.mg_of X G a0⟩
  have D_is_word : DefAt K mg "is_word" s_is_word := ⟨f1, _, fun_mk (st := s_is_word) l1 c1 k1, PySem.W.mg_of X G a1⟩
  have D_closers_of : DefAt K mg "closers_of" s_closers_of := ⟨f2, _, fun_mk (st := s_closers_of) l2 c2 k2, PySem.W.mg_of X G a2⟩
  have D_head_of : DefAt K mg "head_of" s_head_of := ⟨f3, _, fun_mk (st := s_head_of) l3 c3 k3, PySem.W.mg_of X G a3⟩
  have D_blocks_of : DefAt K mg "blocks_of" s_blocks_of := ⟨f4, _, fun_mk (st := s_blocks_of) l4 c4 k4, PySem.W.mg_of X G a4⟩
  have D_is_bound : DefAt K mg "is_bound" s_is_bound := ⟨f5, _, fun_mk (st := s_is_bound) l5 c5 k5, PySem.W.mg_of X G a5⟩
  have D_is_part : DefAt K mg "is_part" s_is_part := ⟨f6, _, fun_mk (st := s_is_part) l6 c6 k6, PySem.W.mg_of X G a6⟩
  have D_is_like_step : DefAt K mg "is_like_step" s_is_like_step := ⟨f7, _, fun_mk (st := s_is_like_step) l7 c7 k7, PySem.W.mg_of X G a7⟩
  have D_gathers_steps : DefAt K mg "gathers_steps" s_gathers_steps := ⟨f8, _, fun_mk (st := s_gathers_steps) l8 c8 k8, PySem.W.mg_of X G a8⟩
  have D_names_in : DefAt K mg "names_in" s_names_in := ⟨f9, _, fun_mk (st := s_names_in) l9 c9 k9, PySem.W.mg_of X G a9⟩
  have D_is_program : DefAt K mg "is_program" s_is_program := ⟨f10, _, fun_mk (st := s_is_program) l10 c10 k10, PySem.W.mg_of X G a10⟩
  have D_law_cell_at : DefAt K mg "_law_cell_at" s_law_cell_at := ⟨f11, _, fun_mk (st := s_law_cell_at) l11 c11 k11, PySem.W.mg_of X G a11⟩
  have D_law_names : DefAt K mg "_law_names" s_law_names := ⟨f12, _, fun_mk (st := s_law_names) l12 c12 k12, PySem.W.mg_of X G a12⟩
  have D_law_step : DefAt K mg "_law_step" s_law_step := ⟨f13, _, fun_mk (st := s_law_step) l13 c13 k13, PySem.W.mg_of X G a13⟩
  have D_law_begun : DefAt K mg "_law_begun" s_law_begun := ⟨f14, _, fun_mk (st := s_law_begun) l14 c14 k14, PySem.W.mg_of X G a14⟩
  have D_law_program : DefAt K mg "_law_program" s_law_program := ⟨f15, _, fun_mk (st := s_law_program) l15 c15 k15, PySem.W.mg_of X G a15⟩
  have D_law_bad : DefAt K mg "_law_bad" s_law_bad := ⟨f16, _, fun_mk (st := s_law_bad) l16 c16 k16, PySem.W.mg_of X G a16⟩
  have D_law_none : DefAt K mg "_law_none" s_law_none := ⟨f17, _, fun_mk (st := s_law_none) l17 c17 k17, PySem.W.mg_of X G a17⟩
  have D_law_told : DefAt K mg "_law_told" s_law_told := ⟨f18, _, fun_mk (st := s_law_told) l18 c18 k18, PySem.W.mg_of X G a18⟩
  have z_isinstance : mg "isinstance" = none := PySem.W.mg_none_of X G y_isinstance
  have z_int : mg "int" = none := PySem.W.mg_none_of X G y_int
  have z_bool : mg "bool" = none := PySem.W.mg_none_of X G y_bool
  have z_str : mg "str" = none := PySem.W.mg_none_of X G y_str
  have z_list : mg "list" = none := PySem.W.mg_none_of X G y_list
  have z_tuple : mg "tuple" = none := PySem.W.mg_none_of X G y_tuple
  have z_len : mg "len" = none := PySem.W.mg_none_of X G y_len
  have z_all : mg "all" = none := PySem.W.mg_none_of X G y_all
  have z_zip : mg "zip" = none := PySem.W.mg_none_of X G y_zip
  have z_range : mg "range" = none := PySem.W.mg_none_of X G y_range
  have z_abs : mg "abs" = none := PySem.W.mg_none_of X G y_abs
  have z_sum : mg "sum" = none := PySem.W.mg_none_of X G y_sum
  have g_MOST_LETTERS : ∃ t, mg "MOST_LETTERS" = some (.int 8 t) := ⟨t_MOST_LETTERS, PySem.W.mg_of X G h_MOST_LETTERS⟩
  have g_LETTERS : ∃ t, mg "LETTERS" = some (.str "abcdefghijklmnopqrstuvwxyz" t) := ⟨t_LETTERS, PySem.W.mg_of X G h_LETTERS⟩
  have g_MOST_AROUND : ∃ t, mg "MOST_AROUND" = some (.int 8 t) := ⟨t_MOST_AROUND, PySem.W.mg_of X G h_MOST_AROUND⟩
  have g_MOST_LINES : ∃ t, mg "MOST_LINES" = some (.int 60 t) := ⟨t_MOST_LINES, PySem.W.mg_of X G h_MOST_LINES⟩
  have g_MOST_LENDS : ∃ t, mg "MOST_LENDS" = some (.int 3 t) := ⟨t_MOST_LENDS, PySem.W.mg_of X G h_MOST_LENDS⟩
  have g_MOST_NAMES : ∃ t, mg "MOST_NAMES" = some (.int 4 t) := ⟨t_MOST_NAMES, PySem.W.mg_of X G h_MOST_NAMES⟩
  have g_PARTS : mg "PARTS" = some (.ref d_PARTS) := PySem.W.mg_of X G h_PARTS
  have m_PARTS : ModD w K d_PARTS [("open", .ref a_PARTS_0), ("do", .ref a_PARTS_1), ("copy", .ref a_PARTS_2), ("drop", .ref a_PARTS_3), ("tie", .ref a_PARTS_4), ("lend", .ref a_PARTS_5), ("if", .ref a_PARTS_6), ("while", .ref a_PARTS_7)] := ⟨dz_PARTS, (show (["open", "do", "copy", "drop", "tie", "lend", "if", "while"] : List Str).Nodup from by decide), _, [⟨PyData.keyHash w.params "open", .str "open" k_PARTS_0, .ref a_PARTS_0⟩, ⟨PyData.keyHash w.params "do", .str "do" k_PARTS_1, .ref a_PARTS_1⟩, ⟨PyData.keyHash w.params "copy", .str "copy" k_PARTS_2, .ref a_PARTS_2⟩, ⟨PyData.keyHash w.params "drop", .str "drop" k_PARTS_3, .ref a_PARTS_3⟩, ⟨PyData.keyHash w.params "tie", .str "tie" k_PARTS_4, .ref a_PARTS_4⟩, ⟨PyData.keyHash w.params "lend", .str "lend" k_PARTS_5, .ref a_PARTS_5⟩, ⟨PyData.keyHash w.params "if", .str "if" k_PARTS_6, .ref a_PARTS_6⟩, ⟨PyData.keyHash w.params "while", .str "while" k_PARTS_7, .ref a_PARTS_7⟩], n_PARTS, ld_PARTS, ⟨rfl, rfl, rfl⟩, rfl, .cons rfl (.cons rfl (.cons rfl (.cons rfl (.cons rfl (.cons rfl (.cons rfl (.cons rfl (.nil))))))))⟩
  have q_PARTS_0 : ∀ H : Hp, SqT K H a_PARTS_0 [.str "name"] := fun H => .inr ⟨_, _, _, la_PARTS_0, rfl, rfl, smallL (show 1 ≤ 1000000 from by decide), .cons ⟨_, rfl⟩ (.nil)⟩
  have q_PARTS_1 : ∀ H : Hp, SqT K H a_PARTS_1 [.str "word", .str "name"] := fun H => .inr ⟨_, _, _, la_PARTS_1, rfl, rfl, smallL (show 2 ≤ 1000000 from by decide), .cons ⟨_, rfl⟩ (.cons ⟨_, rfl⟩ (.nil))⟩
  have q_PARTS_2 : ∀ H : Hp, SqT K H a_PARTS_2 [.str "name", .str "name"] := fun H => .inr ⟨_, _, _, la_PARTS_2, rfl, rfl, smallL (show 2 ≤ 1000000 from by decide), .cons ⟨_, rfl⟩ (.cons ⟨_, rfl⟩ (.nil))⟩
  have q_PARTS_3 : ∀ H : Hp, SqT K H a_PARTS_3 [.str "name"] := fun H => .inr ⟨_, _, _, la_PARTS_3, rfl, rfl, smallL (show 1 ≤ 1000000 from by decide), .cons ⟨_, rfl⟩ (.nil)⟩
  have q_PARTS_4 : ∀ H : Hp, SqT K H a_PARTS_4 [.str "name", .str "name"] := fun H => .inr ⟨_, _, _, la_PARTS_4, rfl, rfl, smallL (show 2 ≤ 1000000 from by decide), .cons ⟨_, rfl⟩ (.cons ⟨_, rfl⟩ (.nil))⟩
  have q_PARTS_5 : ∀ H : Hp, SqT K H a_PARTS_5 [.str "name", .str "name", .str "steps"] := fun H => .inr ⟨_, _, _, la_PARTS_5, rfl, rfl, smallL (show 3 ≤ 1000000 from by decide), .cons ⟨_, rfl⟩ (.cons ⟨_, rfl⟩ (.cons ⟨_, rfl⟩ (.nil)))⟩
  have q_PARTS_6 : ∀ H : Hp, SqT K H a_PARTS_6 [.str "bound", .str "steps", .str "steps"] := fun H => .inr ⟨_, _, _, la_PARTS_6, rfl, rfl, smallL (show 3 ≤ 1000000 from by decide), .cons ⟨_, rfl⟩ (.cons ⟨_, rfl⟩ (.cons ⟨_, rfl⟩ (.nil)))⟩
  have q_PARTS_7 : ∀ H : Hp, SqT K H a_PARTS_7 [.str "bound", .str "steps"] := fun H => .inr ⟨_, _, _, la_PARTS_7, rfl, rfl, smallL (show 2 ≤ 1000000 from by decide), .cons ⟨_, rfl⟩ (.cons ⟨_, rfl⟩ (.nil))⟩
  have g_CLOSERS : mg "CLOSERS" = some (.ref d_CLOSERS) := PySem.W.mg_of X G h_CLOSERS
  have m_CLOSERS : ModD w K d_CLOSERS [("lend", .ref a_CLOSERS_0), ("if", .ref a_CLOSERS_1), ("while", .ref a_CLOSERS_2)] := ⟨dz_CLOSERS, (show (["lend", "if", "while"] : List Str).Nodup from by decide), _, [⟨PyData.keyHash w.params "lend", .str "lend" k_CLOSERS_0, .ref a_CLOSERS_0⟩, ⟨PyData.keyHash w.params "if", .str "if" k_CLOSERS_1, .ref a_CLOSERS_1⟩, ⟨PyData.keyHash w.params "while", .str "while" k_CLOSERS_2, .ref a_CLOSERS_2⟩], n_CLOSERS, ld_CLOSERS, ⟨rfl, rfl, rfl⟩, rfl, .cons rfl (.cons rfl (.cons rfl (.nil)))⟩
  have q_CLOSERS_0 : ∀ H : Hp, SqT K H a_CLOSERS_0 [.str "back"] := fun H => .inr ⟨_, _, _, la_CLOSERS_0, rfl, rfl, smallL (show 1 ≤ 1000000 from by decide), .cons ⟨_, rfl⟩ (.nil)⟩
  have q_CLOSERS_1 : ∀ H : Hp, SqT K H a_CLOSERS_1 [.str "else", .str "fi"] := fun H => .inr ⟨_, _, _, la_CLOSERS_1, rfl, rfl, smallL (show 2 ≤ 1000000 from by decide), .cons ⟨_, rfl⟩ (.cons ⟨_, rfl⟩ (.nil))⟩
  have q_CLOSERS_2 : ∀ H : Hp, SqT K H a_CLOSERS_2 [.str "done"] := fun H => .inr ⟨_, _, _, la_CLOSERS_2, rfl, rfl, smallL (show 1 ≤ 1000000 from by decide), .cons ⟨_, rfl⟩ (.nil)⟩
  have F := fun_mk (st := s_law) l19 c19 k19
  refine ⟨PySem.W.fnOf "law" "law" (defArgs s_law) (defBody s_law) (defScope s_law) .none kV19 dc19 pm19 an19 cd19 ct19, fun s v => .of_eq rfl, fun base _ _ => ?_⟩
  have c1 := ok_cell (P := l.prog) (w := w) (base := base) D_law_cell_at z_len
  have d1 := ok_closers (P := l.prog) (w := w) (base := base) D_closers_of g_CLOSERS m_CLOSERS q_CLOSERS_0 q_CLOSERS_1 q_CLOSERS_2
  have d2 := ok_head D_head_of z_len d1
  have d3 := ok_blocks D_blocks_of z_len d2
  have e1 := ok_part D_is_part z_isinstance z_list (ok_bound D_is_bound z_abs (ok_whole (P := l.prog) (w := w) (base := base) D_is_whole z_isinstance z_int z_bool)) (ok_is_word D_is_word z_isinstance z_str z_len z_all g_MOST_LETTERS g_LETTERS)
  have e2 := ok_like D_is_like_step z_isinstance z_tuple z_str z_len z_all z_zip e1 g_PARTS m_PARTS (parts_pk q_PARTS_0 q_PARTS_1 q_PARTS_2 q_PARTS_3 q_PARTS_4 q_PARTS_5 q_PARTS_6 q_PARTS_7)
  have e3 := ok_gathers D_gathers_steps z_len g_MOST_AROUND g_MOST_LINES e2 d3 10
  have d5 := ok_namesin (P := l.prog) (w := w) (base := base) D_names_in z_zip z_list g_PARTS m_PARTS (parts_ok q_PARTS_0 q_PARTS_1 q_PARTS_2 q_PARTS_3 q_PARTS_4 q_PARTS_5 q_PARTS_6 q_PARTS_7)
  have e4 := ok_isprog D_is_program z_isinstance z_list z_sum z_len g_MOST_LINES g_MOST_LENDS g_MOST_NAMES e3 d1 d5
  exact ok_law F z_len c1 (ok_names D_law_names z_range) (ok_program D_law_program z_len z_int (ok_begun D_law_begun) (ok_step D_law_step)) (ok_bad D_law_bad z_len) (ok_none D_law_none z_len z_tuple) (ok_told D_law_told z_isinstance z_bool e4)
theorem walk {l : PySem.W.OpenLaw} {q : Program} {loose : List Str} {XP : (Str → Option Value) → Heap → Prop} {YP : World → Heap → Prop} {d : DefRec} {K : Params → PySem.W.Frag} (hn : l.most = some 63) (hdf : d.params.defaults = [])
    (hY : ∀ (w : World) (h : Heap), YP w h → (K w.params).In h)
    (F : ∀ (w : World) (mg : Str → Option Value) (fa : Addr) (h : Heap), (K w.params).In h → h.Ns mainGlobals mg → mg d.name = some (.ref fa) →
      ∃ fd : FuncData, (∀ (s : Shared) (u : Value), BindsTo s fd ⟨[u], []⟩ [("_law_script", u)]) ∧ ∀ base : Heap, (K w.params).In base → base.Ns mainGlobals mg → FnOk l.prog w (K w.params) mg base CX0 18 fa fd ["_law_script"] (spLaw (K w.params))) :
    PySem.W.WalkO q loose XP YP l.row.toRowW d [] (fun f vs => PySem.call f vs) :=
  L2.walk_of (n := 63) (k := 18) (x := "_law_script") (CX := fun _ => CX0) (sp := fun w => spLaw (K w.params)) hn (by decide) hdf ⟨rfl, by decide, by decide⟩ hY F (fun _ _ a ns hl _ hS => ⟨a, ns, rfl, hS, hl, fun _ => rfl⟩) fun _ _ _ _ _ z => z
end K24
end
open PySem PySem.W PyProof.Rows
set_option maxRecDepth 100000 in
set_option maxHeartbeats 0 in
theorem PySem.Challenge.cw_usewarden_k24_no_programs_holds : PySem.Challenge.rw_usewarden_k24_no_programs.Holds := by
  w_on; o_law; k_head; (case hw => w_witness2)
  k_fill
  refine K24.walk (l := PySem.Challenge.rw_usewarden_k24_no_programs) rfl rfl (fun w h Y => PySem.W.kIn_of Y) ?F
  case F =>
    intro w mg fa h KX G hmg
    refine' K24.all_mk KX G hmg ?a0 ?l0 ?c0 ?k0 ?a1 ?l1 ?c1 ?k1 ?a2 ?l2 ?c2 ?k2 ?a3 ?l3 ?c3 ?k3 ?a4 ?l4 ?c4 ?k4 ?a5 ?l5 ?c5 ?k5 ?a6 ?l6 ?c6 ?k6 ?a7 ?l7 ?c7 ?k7 ?a8 ?l8 ?c8 ?k8 ?a9 ?l9 ?c9 ?k9 ?a10 ?l10 ?c10 ?k10 ?a11 ?l11 ?c11 ?k11 ?a12 ?l12 ?c12 ?k12 ?a13 ?l13 ?c13 ?k13 ?a14 ?l14 ?c14 ?k14 ?a15 ?l15 ?c15 ?k15 ?a16 ?l16 ?c16 ?k16 ?a17 ?l17 ?c17 ?k17 ?a18 ?l18 ?c18 ?k18 ?a19 ?l19 ?c19 ?k19 ?y_isinstance ?y_int ?y_bool ?y_str ?y_list ?y_tuple ?y_len ?y_all ?y_zip ?y_range ?y_abs ?y_sum ?h_MOST_LETTERS ?h_LETTERS ?h_MOST_AROUND ?h_MOST_LINES ?h_MOST_LENDS ?h_MOST_NAMES ?h_PARTS ?ld_PARTS ?la_PARTS_0 ?la_PARTS_1 ?la_PARTS_2 ?la_PARTS_3 ?la_PARTS_4 ?la_PARTS_5 ?la_PARTS_6 ?la_PARTS_7 ?dz_PARTS ?h_CLOSERS ?ld_CLOSERS ?la_CLOSERS_0 ?la_CLOSERS_1 ?la_CLOSERS_2 ?dz_CLOSERS
    (case a0 => k_is)
    (case l0 => k_is)
    (case c0 => k_is)
    (case k0 => k_is)
    (case a1 => k_is)
    (case l1 => k_is)
    (case c1 => k_is)
    (case k1 => k_is)
    (case a2 => k_is)
    (case l2 => k_is)
    (case c2 => k_is)
    (case k2 => k_is)
    (case a3 => k_is)
    (case l3 => k_is)
    (case c3 => k_is)
    (case k3 => k_is)
    (case a4 => k_is)
    (case l4 => k_is)
    (case c4 => k_is)
    (case k4 => k_is)
    (case a5 => k_is)
    (case l5 => k_is)
    (case c5 => k_is)
    (case k5 => k_is)
    (case a6 => k_is)
    (case l6 => k_is)
    (case c6 => k_is)
    (case k6 => k_is)
    (case a7 => k_is)
    (case l7 => k_is)
    (case c7 => k_is)
    (case k7 => k_is)
    (case a8 => k_is)
    (case l8 => k_is)
    (case c8 => k_is)
    (case k8 => k_is)
    (case a9 => k_is)
    (case l9 => k_is)
    (case c9 => k_is)
    (case k9 => k_is)
    (case a10 => k_is)
    (case l10 => k_is)
    (case c10 => k_is)
    (case k10 => k_is)
    (case a11 => k_is)
    (case l11 => k_is)
    (case c11 => k_is)
    (case k11 => k_is)
    (case a12 => k_is)
    (case l12 => k_is)
    (case c12 => k_is)
    (case k12 => k_is)
    (case a13 => k_is)
    (case l13 => k_is)
    (case c13 => k_is)
    (case k13 => k_is)
    (case a14 => k_is)
    (case l14 => k_is)
    (case c14 => k_is)
    (case k14 => k_is)
    (case a15 => k_is)
    (case l15 => k_is)
    (case c15 => k_is)
    (case k15 => k_is)
    (case a16 => k_is)
    (case l16 => k_is)
    (case c16 => k_is)
    (case k16 => k_is)
    (case a17 => k_is)
    (case l17 => k_is)
    (case c17 => k_is)
    (case k17 => k_is)
    (case a18 => k_is)
    (case l18 => k_is)
    (case c18 => k_is)
    (case k18 => k_is)
    (case a19 => k_is)
    (case l19 => k_is)
    (case c19 => k_is)
    (case k19 => k_is)
    (case y_isinstance => k_is)
    (case y_int => k_is)
    (case y_bool => k_is)
    (case y_str => k_is)
    (case y_list => k_is)
    (case y_tuple => k_is)
    (case y_len => k_is)
    (case y_all => k_is)
    (case y_zip => k_is)
    (case y_range => k_is)
    (case y_abs => k_is)
    (case y_sum => k_is)
    (case h_MOST_LETTERS => k_is)
    (case h_LETTERS => k_is)
    (case h_MOST_AROUND => k_is)
    (case h_MOST_LINES => k_is)
    (case h_MOST_LENDS => k_is)
    (case h_MOST_NAMES => k_is)
    (case h_PARTS => k_is)
    (case ld_PARTS => k_is)
    (case la_PARTS_0 => k_is)
    (case la_PARTS_1 => k_is)
    (case la_PARTS_2 => k_is)
    (case la_PARTS_3 => k_is)
    (case la_PARTS_4 => k_is)
    (case la_PARTS_5 => k_is)
    (case la_PARTS_6 => k_is)
    (case la_PARTS_7 => k_is)
    (case dz_PARTS => decide)
    (case h_CLOSERS => k_is)
    (case ld_CLOSERS => k_is)
    (case la_CLOSERS_0 => k_is)
    (case la_CLOSERS_1 => k_is)
    (case la_CLOSERS_2 => k_is)
    (case dz_CLOSERS => decide)
#print axioms PySem.Challenge.cw_usewarden_k24_no_programs_holds
