import PyProof.Rows.All
import Wide.All
import OpenK.AllK
import Wide.FinOn
import Lean
import PyProof.EqAt
import PyProof.EqKinds
import PyProof.TupleCall
import PyProof.SetScanFacts
import PyProof.SetKind
import PyProof.SetRoads
import PyProof.Rows.SetFrom
import PyProof.FactsBase
import PyProof.TableTree
import PyProof.FactsTree
import PyProof.PlainAttrs
import PyProof.FactsAll.set_1
import PyProof.CollectIter
import PyProof.FactsAll.set
import PyProof.ZipIter
import PyProof.EnumIter
import PyProof.TupleIter
import KE.KRevIter
import KE.KDictList
import PyProof.Rows.SumAny
import KE.KIntText
import PyProof.StrLawsTight
import PyProof.StrLawsChain
import PyProof.Rows.SortStr
import PyProof.Rows.StrNews2
import PyProof.StrLawsFirst
import PyProof.AutoSeq1
import PySem.Challenge.RW_usewarden_k80_no_breach_to_tell
-- CHANGE: your row's module here, as the last of these rows
set_option Elab.async false
set_option linter.all false
set_option maxRecDepth 100000
/-! THE HAND LAYER, for ints, bools, texts, own classes, LISTS and tuples (index, slices, in, append, pop ..), calls, loops. Paste it whole ahead of your own text; what your proof does not reach may be deleted. -/
namespace L2
open PySem PySem.Spec PyProof.Rows

/-- a key: an int or a str -/
abbrev Key := Sum Int Str
def keyIs : Key → Value → Bool
  | .inl k, v => Value.isInt k v
  | .inr x, v => Value.isStrOf x v
def keyH (w : World) : Key → Int
  | .inl k => hashInt k
  | .inr x => hashStr w x
theorem keyIs_shape : ∀ {k : Key} {v : Value}, keyIs k v = true → (∃ i t, k = Sum.inl i ∧ v = Value.int i t) ∨ (∃ x t, k = Sum.inr x ∧ v = Value.str x t)
  | .inl i, v, h => by
    obtain ⟨t, e⟩ := Value.isInt_shape (k := i) (v := v) h
    exact .inl ⟨i, t, rfl, e⟩
  | .inr x, v, h => by
    obtain ⟨t, e⟩ := Value.isStrOf_shape (x := x) (v := v) h
    exact .inr ⟨x, t, rfl, e⟩
theorem keyIs_int (i : Int) (t : Tok) : keyIs (.inl i) (.int i t) = true := by simp [keyIs, Value.isInt]
theorem keyIs_str (x : Str) (t : Tok) : keyIs (.inr x) (.str x t) = true := by simp [keyIs, Value.isStrOf]
theorem key_ll (a b : Int) : decide ((Sum.inl a : Key) = Sum.inl b) = (a == b) := by
  by_cases e : a = b
  · subst e; simp
  · have h : ¬ (Sum.inl a : Key) = Sum.inl b := fun q => e (Sum.inl.inj q)
    rw [decide_eq_false h]
    exact (beq_eq_false_iff_ne.mpr e).symm
theorem key_rr (a b : Str) : decide ((Sum.inr a : Key) = Sum.inr b) = decide (a = b) := by
  by_cases e : a = b
  · subst e; simp
  · have h : ¬ (Sum.inr a : Key) = Sum.inr b := fun q => e (Sum.inr.inj q)
    rw [decide_eq_false h, decide_eq_false e]
theorem key_lr (a : Int) (b : Str) : decide ((Sum.inl a : Key) = Sum.inr b) = false := decide_eq_false (fun q => nomatch q)
theorem key_rl (a : Str) (b : Int) : decide ((Sum.inr a : Key) = Sum.inl b) = false := decide_eq_false (fun q => nomatch q)

def mixKind (prog : Program) (w : World) : PySem.KeyKind prog w Key where
  is := keyIs
  hash := keyH w
  inj := fun v a b ha hb => by
    rcases keyIs_shape ha with ⟨i, t, rfl, rfl⟩ | ⟨x, t, rfl, rfl⟩
    · rcases keyIs_shape hb with ⟨j, u, rfl, e⟩ | ⟨y, u, rfl, e⟩
      · injection e with e1 _; rw [e1]
      · exact nomatch e
    · rcases keyIs_shape hb with ⟨j, u, rfl, e⟩ | ⟨y, u, rfl, e⟩
      · exact nomatch e
      · injection e with e1 _; rw [e1]
  byValue := fun k v h => by
    rcases keyIs_shape h with ⟨i, t, rfl, rfl⟩ | ⟨x, t, rfl, rfl⟩ <;> rfl
  pyHash := fun hv h => by
    rcases keyIs_shape hv with ⟨i, t, rfl, rfl⟩ | ⟨x, t, rfl, rfl⟩
    · exact wpAny_pyHash_int h
    · exact wpAny_pyHash_str h
  eqBool := fun hu hv h => by
    rcases keyIs_shape hu with ⟨i, t, rfl, rfl⟩ | ⟨x, t, rfl, rfl⟩
    · rcases keyIs_shape hv with ⟨j, u, rfl, rfl⟩ | ⟨y, u, rfl, rfl⟩
      · rw [key_ll] at h; exact wpAny_eqBool_int h
      · rw [key_lr] at h; exact SeqAt.EqAt.int_str i t y u _ _ _ _ h
    · rcases keyIs_shape hv with ⟨j, u, rfl, rfl⟩ | ⟨y, u, rfl, rfl⟩
      · rw [key_rl] at h; exact SeqAt.EqAt.str_int x t j u _ _ _ _ h
      · rw [key_rr] at h; exact wpAny_eqBool_str h
  «strs» := fun k x t v h => by
    rcases keyIs_shape h with ⟨i, u, rfl, e⟩ | ⟨y, u, rfl, e⟩
    · exact nomatch e
    · injection e with e1 _
      subst e1
      cases v <;> rfl

theorem mixKind_int (prog : Program) (w : World) (i : Int) (t : Tok) : (mixKind prog w).is (.inl i) (.int i t) = true := keyIs_int i t
theorem mixKind_str (prog : Program) (w : World) (x : Str) (t : Tok) : (mixKind prog w).is (.inr x) (.str x t) = true := keyIs_str x t
end L2

namespace L2
open PySem PySem.Spec PyProof.Rows

/-- a value, without the heap -/
inductive V where
  | non | bl (b : Bool) | int (i : Int) | str (x : Str) | byt (b : Array UInt8) | flt (b : UInt64) | ref (a : Addr) | ty (n : String)
  deriving DecidableEq

def RelV : V → Value → Prop
  | .non, u => u = Value.none
  | .bl b, u => u = Value.bool b
  | .int i, u => ∃ t, u = Value.int i t
  | .str x, u => ∃ t, u = Value.str x t
  | .byt b, u => ∃ t, u = Value.bytes b t
  | .flt b, u => ∃ t, u = Value.float b t
  | .ref a, u => u = Value.ref a
  | .ty n, u => u = Value.type n

abbrev Vals : List V → List Value → Prop := Paired RelV
theorem Vals.length {xs : List V} {us : List Value} (r : Vals xs us) : xs.length = us.length := Paired.length r
theorem Vals.get : ∀ {xs : List V} {us : List Value} {i : Nat} {x : V}, Vals xs us → xs[i]? = some x → ∃ u, us[i]? = some u ∧ RelV x u
  | _, _, _, _, .nil, e => by simp at e
  | _, _, 0, _, .cons r _, e => by simp at e; subst e; exact ⟨_, rfl, r⟩
  | _, _, i + 1, x, .cons _ t, e => by
    obtain ⟨u, h1, h2⟩ := Vals.get (i := i) (x := x) t (by simpa using e)
    exact ⟨u, by simpa using h1, h2⟩
theorem Vals.set {x : V} {u : Value} (r : RelV x u) : ∀ {xs : List V} {us : List Value} (i : Nat), Vals xs us → Vals (xs.set i x) (us.set i u)
  | _, _, _, .nil => .nil
  | _, _, 0, .cons _ t => .cons r t
  | _, _, i + 1, .cons q t => .cons q (Vals.set r i t)
theorem Vals.append : ∀ {xs ys : List V} {us ws : List Value}, Vals xs us → Vals ys ws → Vals (xs ++ ys) (us ++ ws)
  | _, _, _, _, .nil, s => s
  | _, _, _, _, .cons r t, s => .cons r (Vals.append t s)
theorem Vals.take : ∀ {xs : List V} {us : List Value} (n : Nat), Vals xs us → Vals (xs.take n) (us.take n)
  | _, _, 0, _ => .nil
  | _, _, _ + 1, .nil => .nil
  | _, _, n + 1, .cons r t => .cons r (Vals.take n t)
theorem Vals.drop : ∀ {xs : List V} {us : List Value} (n : Nat), Vals xs us → Vals (xs.drop n) (us.drop n)
  | _, _, 0, r => r
  | _, _, _ + 1, .nil => .nil
  | _, _, n + 1, .cons _ t => Vals.drop n t
def RelO : Option V → Option Value → Prop
  | some v, some u => RelV v u
  | none, none => True
  | _, _ => False
def KV {κ : Type} : List (κ × V) → List (κ × Value) → Prop := Paired fun (p : κ × V) (q : κ × Value) => p.1 = q.1 ∧ RelV p.2 q.2

/-- a key of a dict (00_mix): an int or a text -/
def kV : Key → V
  | .inl i => .int i
  | .inr x => .str x

/-- what stands at a tracked address -/
inductive HO where
  /-- a list -/
  | lst (xs : List V)
  /-- a tuple (never changes) -/
  | tup (xs : List V)
  /-- a dict whose keys are ints and texts; one whose keys are tuples of ints and texts (the empty one is both) -/
  | dK (kvs : List (Key × V)) | dT (kvs : List (List Key × V))
  /-- a set of ints: its members, its size -/
  | set (S : Int → Bool) (n : Nat)
  /-- an instance of the class at C, its dict at dx, its attributes -/
  | ins (C dx : Addr) (fs : List (Str × V))
  /-- the dict of the instance at x -/
  | own (x : Addr)
  /-- the dict of an exception -/
  | xd (fs : List (Str × V))
  /-- a bound method, f of x -/
  | met (f x : Addr)
  /-- a range object lo, lo + 1, .. below hi -/
  | rng (lo hi : Int)
  /-- a thing that is known to the object (the script; a dict while a loop walks it): read, never written while it is so -/
  | frz (o : Obj) (u : HO)
  /-- a code object's table -/
  | tbl (ps : Array Value)
  /-- any other thing, by what is true of its one object (a def of one's own: SetO a S n := HO.ext fun h => ..) -/
  | ext (φ : Heap → Prop)

abbrev Hp := Addr → Option HO
def upd (H : Hp) (a : Addr) (o : HO) : Hp := fun b => if b = a then some o else H b
theorem upd_same {H : Hp} {a : Addr} {o : HO} : upd H a o a = some o := by unfold upd; rw [if_pos rfl]
theorem upd_ne {H : Hp} {a b : Addr} {o : HO} (h : b ≠ a) : upd H a o b = H b := by unfold upd; rw [if_neg h]
/-- two objects of different content stand apart -/
theorem ne_of {H : Hp} {a b : Addr} {o u : HO} (h : H a = some o) (h' : H b = some u) (d : o ≠ u) : a ≠ b := by
  intro e; subst e; rw [h] at h'; exact d (Option.some.inj h')
theorem ne_of_none {H : Hp} {a b : Addr} {o : HO} (h : H a = some o) (h' : H b = none) : a ≠ b := by
  intro e; subst e; rw [h] at h'; cases h'

section
variable (P : Program) (w : World)
def ObjOk (H : Hp) (h : Heap) (a : Addr) : HO → Prop
  | .lst xs => xs.length ≤ sizeLine ∧ ∃ (its : List Value) (n : Nat), Vals xs its ∧ h.get? a = some { cls := .type "list", data := .seq its.toArray n }
  | .tup xs => xs.length ≤ sizeLine ∧ ∃ its : List Value, Vals xs its ∧ IsTup h a its.toArray
  | .dK kvs => kvs.length ≤ sizeLine ∧ (a == sysModules) = false ∧ ∃ vs, KV kvs vs ∧ h.DictOf (mixKind P w) a vs
  | .dT kvs => kvs.length ≤ sizeLine ∧ (a == sysModules) = false ∧ ∃ xs : List (List Key × Addr × Value),
      Paired (fun (p : List Key × V) (q : List Key × Addr × Value) => p.1 = q.1 ∧ H q.2.1 = some (.tup (p.1.map kV)) ∧ RelV p.2 q.2.2) kvs xs ∧
      ∃ o es ep, h.get? a = some o ∧ o.ExactDict ∧ o.data = .dict es ep ∧ es.toList = xs.map (entryOfKey (tupleKind (mixKind P w))) ∧ (xs.map (·.1)).Nodup
  | .set S n => h.SetOf (intKind P w) a S n
  | .ins C dx fs => H dx = some (.own a) ∧ fs.length ≤ 1000 ∧ dx ≠ a ∧ h.get? a = some (PySem.W.instObj C dx) ∧
      ∃ mA, h.Ns1 dx mA ∧ (∀ f, RelO (fs.lookup f) (mA f)) ∧ PySem.Within mA (fs.map (·.1))
  | .own _ => ∃ o, h.get? a = some o
  | .xd fs => ∃ mA, h.Ns1 a mA ∧ ∀ f, RelO (fs.lookup f) (mA f)
  | .rng lo hi => ∃ t u v, h.get? a = some { cls := .type "range", data := .fields #[.int lo t, .int hi u, .int 1 v] }
  | .frz o u => h.get? a = some o ∧ ObjOk H h a u
  | .tbl ps => h.get? a = some { cls := .none, data := .fields ps }
  | .met f x => h.get? a = some (PySem.W.methodObj (.ref f) (.ref x))
  | .ext φ => φ h ∧ (∃ o, h.get? a = some o) ∧ ∀ h1 h2 : Heap, φ h1 → (∀ o, h1.get? a = some o → h2.get? a = some o) → φ h2
/-- the abstract heap is held -/
def HOk (H : Hp) (h : Heap) : Prop := ∀ a o, H a = some o → ObjOk P w H h a o
end

section
variable {P : Program} {w : World} {H H' : Hp} {h h' : Heap} {a : Addr} {o : HO}
theorem ObjOk.lt (x : ObjOk P w H h a o) : a < h.objs.size := by
  cases o with
  | lst xs => obtain ⟨_, _, _, _, e⟩ := x; exact Heap.lt_size e
  | tup xs => obtain ⟨_, _, _, p⟩ := x; exact p.lt
  | dK kvs => obtain ⟨_, _, _, _, o, _, _, e, _⟩ := x; exact Heap.lt_size e
  | dT kvs => obtain ⟨_, _, _, _, o, _, _, e, _⟩ := x; exact Heap.lt_size e
  | set S n => obtain ⟨o, _, _, _, e, _⟩ := x; exact Heap.lt_size e
  | ins C dx fs => obtain ⟨_, _, _, e, _⟩ := x; exact Heap.lt_size e
  | own y => obtain ⟨_, e⟩ := x; exact Heap.lt_size e
  | xd fs => obtain ⟨_, ⟨_, _, _, e, _⟩, _⟩ := x; exact Heap.lt_size e
  | rng lo hi => obtain ⟨_, _, _, e⟩ := x; exact Heap.lt_size e
  | frz ob u => obtain ⟨e, _⟩ := x; exact Heap.lt_size e
  | tbl ps => exact Heap.lt_size (show h.get? a = some _ from x)
  | met f y => exact Heap.lt_size (show h.get? a = some _ from x)
  | ext φ => obtain ⟨_, ⟨_, e⟩, _⟩ := x; exact Heap.lt_size e
theorem Paired.mapP {α β : Type} {F G : α → β → Prop} : ∀ {l₁ : List α} {l₂ : List β}, Paired F l₁ l₂ → (∀ a b, F a b → G a b) → Paired G l₁ l₂
  | _, _, .nil, _ => .nil
  | _, _, .cons r t, f => .cons (f _ _ r) (Paired.mapP t f)
theorem Paired.imp' {α β : Type} {F G : α → β → Prop} (f : ∀ a b, F a b → G a b) {l₁ : List α} {l₂ : List β} (r : Paired F l₁ l₂) : Paired G l₁ l₂ := Paired.mapP r f
/-- what an object's description leans on: its own object, its own dict, the tuples -/
theorem ObjOk.stay (x : ObjOk P w H h a o) (k : ∀ b u, (b = a ∨ H b = some (.own a)) → h.get? b = some u → h'.get? b = some u)
    (ho : ∀ b, H b = some (.own a) → H' b = some (.own a)) (ht : ∀ b xs, H b = some (.tup xs) → H' b = some (.tup xs)) : ObjOk P w H' h' a o := by
  induction o with
  | lst xs => obtain ⟨z, its, n, r, e⟩ := x; exact ⟨z, its, n, r, k _ _ (.inl rfl) e⟩
  | tup xs => obtain ⟨z, its, r, ob, e, c⟩ := x; exact ⟨z, its, r, ob, k _ _ (.inl rfl) e, c⟩
  | dK kvs => obtain ⟨z, y, vs, r, ob, es, ep, e, c⟩ := x; exact ⟨z, y, vs, r, ob, es, ep, k _ _ (.inl rfl) e, c⟩
  | dT kvs =>
    obtain ⟨z, y, xs, r, ob, es, ep, e, c⟩ := x
    exact ⟨z, y, xs, Paired.mapP r fun p q z => ⟨z.1, ht _ _ z.2.1, z.2.2⟩, ob, es, ep, k _ _ (.inl rfl) e, c⟩
  | set S n => obtain ⟨ob, es, ep, t, e, c⟩ := x; exact ⟨ob, es, ep, t, k _ _ (.inl rfl) e, c⟩
  | ins C dx fs =>
    obtain ⟨d, z, ne, e, mA, ⟨od, es, ep, e2, c⟩, r⟩ := x
    exact ⟨ho _ d, z, ne, k _ _ (.inl rfl) e, mA, ⟨od, es, ep, k _ _ (.inr d) e2, c⟩, r⟩
  | own y => obtain ⟨ob, e⟩ := x; exact ⟨ob, k _ _ (.inl rfl) e⟩
  | xd fs => obtain ⟨mA, ⟨od, es, ep, e, c⟩, r⟩ := x; exact ⟨mA, ⟨od, es, ep, k _ _ (.inl rfl) e, c⟩, r⟩
  | rng lo hi => obtain ⟨t, u, v, e⟩ := x; exact ⟨t, u, v, k _ _ (.inl rfl) e⟩
  | frz ob u ih => obtain ⟨e, q⟩ := x; exact ⟨k _ _ (.inl rfl) e, ih q⟩
  | tbl ps =>
    have e : h.get? a = some { cls := .none, data := .fields ps } := x
    show h'.get? a = some { cls := .none, data := .fields ps }
    exact k a _ (.inl rfl) e
  | met f y =>
    have e : h.get? a = some (PySem.W.methodObj (.ref f) (.ref y)) := x
    show h'.get? a = some (PySem.W.methodObj (.ref f) (.ref y))
    exact k a _ (.inl rfl) e
  | ext φ => obtain ⟨p, ⟨o, e⟩, st⟩ := x; exact ⟨st _ _ p fun o q => k _ _ (.inl rfl) q, ⟨o, k _ _ (.inl rfl) e⟩, st⟩
theorem HOk.lt (x : HOk P w H h) (e : H a = some o) : a < h.objs.size := (x a o e).lt
theorem HOk.fresh (x : HOk P w H h) (e : h.objs.size ≤ a) : H a = none := by
  cases q : H a with
  | none => rfl
  | some u => exact absurd (Nat.lt_of_lt_of_le (x.lt q) e) (Nat.lt_irrefl _)
/-- every object of the heap is kept -/
theorem HOk.kept (x : HOk P w H h) (k : ∀ b u, h.get? b = some u → h'.get? b = some u) : HOk P w H h' := fun a o e =>
  (x a o e).stay (fun b u _ q => k b u q) (fun _ q => q) fun _ _ q => q
/-- a new object is laid and tracked -/
theorem HOk.laid (x : HOk P w H h) (k : ∀ b u, h.get? b = some u → h'.get? b = some u) (hp : h.objs.size ≤ a) (new : ObjOk P w (upd H a o) h' a o) : HOk P w (upd H a o) h' := fun b u e => by
  have hn := x.fresh hp
  by_cases hb : b = a
  · subst hb; rw [upd_same] at e; cases e; exact new
  · rw [upd_ne hb] at e
    exact (x b u e).stay (fun c v _ q => k c v q) (fun c q => by rw [upd_ne (ne_of_none q hn)]; exact q) fun c xs q => by rw [upd_ne (ne_of_none q hn)]; exact q
end

/-- what may be read as u: it is u, or a known u -/
def Rd (H : Hp) (a : Addr) (u : HO) : Prop := H a = some u ∨ ∃ o, H a = some (.frz o u)
theorem Rd.of {H : Hp} {a : Addr} {u : HO} (h : H a = some u) : Rd H a u := .inl h
theorem Rd.ok {P : Program} {w : World} {H : Hp} {h : Heap} {a : Addr} {u : HO} (r : Rd H a u) (x : HOk P w H h) : ObjOk P w H h a u := by
  rcases r with r | ⟨o, r⟩
  · exact x a u r
  · obtain ⟨_, q⟩ := x a _ r
    exact q
/-- what may be written -/
def Mut : Option HO → Prop
  | some (.lst _) => True
  | some (.dK _) => True
  | some (.dT _) => True
  | some (.set _ _) => True
  | some (.ins _ _ _) => True
  | some (.ext _) => True
  | _ => False
section
variable {P : Program} {w : World} {H : Hp} {h h' : Heap} {x e : Addr} {o' : HO}
/-- the object at e is changed: x itself, or the dict of the instance x -/
theorem HOk.write (ok : HOk P w H h) (mu : Mut (H x)) (he : e = x ∨ H e = some (.own x)) (k : ∀ b u, b ≠ e → h.get? b = some u → h'.get? b = some u) (heo : ∃ u, h'.get? e = some u)
    (new : ObjOk P w (upd H x o') h' x o') : HOk P w (upd H x o') h' := fun b u q => by
  have nown : ∀ c y, H c = some (.own y) → c ≠ x := fun c y r z => by subst z; rw [r] at mu; exact mu
  have ntup : ∀ c xs, H c = some (.tup xs) → c ≠ x := fun c xs r z => by subst z; rw [r] at mu; exact mu
  by_cases hb : b = x
  · subst hb; rw [upd_same] at q; cases q; exact new
  · rw [upd_ne hb] at q
    by_cases hbe : b = e
    · have q' : H b = some (.own x) := by
        rcases he with z | z
        · exact absurd (hbe.trans z) hb
        · rw [hbe]; exact z
      rw [q] at q'; cases q'
      obtain ⟨v, hv⟩ := heo
      exact ⟨v, by rw [hbe]; exact hv⟩
    · refine (ok b u q).stay (fun c v hc r => k c v ?_ r) (fun c r => by rw [upd_ne (nown c b r)]; exact r) fun c xs r => by rw [upd_ne (ntup c xs r)]; exact r
      rcases hc with rfl | hc
      · exact hbe
      · rintro rfl
        rcases he with z | z
        · exact nown c b hc z
        · rw [hc] at z; cases z; exact hb rfl
end

/-! ### kept unless tracked; of the frames at fs (the callers') the slots may change (an exception that passes writes there); of the records at ex (iterators) nothing is said -/
structure Un (fs ex : List Addr) (H H' : Hp) (h h' : Heap) : Prop where
  keep : ∀ b o, h.get? b = some o → H b = none → b ∉ fs → b ∉ ex → h'.get? b = some o
  slot : ∀ b o, h.get? b = some o → H b = none → b ∈ fs → b ∉ ex → ∃ sl, h'.get? b = some { o with slots := sl }
  free : ∀ b o, h.get? b = some o → H b = none → b ∉ ex → H' b = none
  there : ∀ b o, h.get? b = some o → b ∉ ex → ∃ o', h'.get? b = some o'
  tups : ∀ b xs, H b = some (.tup xs) → H' b = some (.tup xs)
  frzs : ∀ b o u, H b = some (.frz o u) → H' b = some (.frz o u)
  tbls : ∀ b ps, H b = some (.tbl ps) → ∃ more, H' b = some (.tbl (ps ++ more))
section
variable {fs fs' ex ex' : List Addr} {H H1 H2 : Hp} {h h1 h2 h' : Heap} {a x e : Addr} {o : HO}
theorem Un.any (u : Un fs ex H H1 h h1) {b : Addr} {ob : Obj} (q : h.get? b = some ob) (n : H b = none) (hx : b ∉ ex) : ∃ sl, h1.get? b = some { ob with slots := sl } := by
  by_cases hb : b ∈ fs
  · exact u.slot b ob q n hb hx
  · exact ⟨ob.slots, u.keep b ob q n hb hx⟩
theorem Un.trans (a : Un fs ex H H1 h h1) (b : Un fs ex H1 H2 h1 h2) : Un fs ex H H2 h h2 where
  keep := fun c ob q n hc hx => b.keep c ob (a.keep c ob q n hc hx) (a.free c ob q n hx) hc hx
  slot := fun c ob q n hc hx => by
    obtain ⟨sl, e1⟩ := a.slot c ob q n hc hx
    obtain ⟨sl', e2⟩ := b.slot c _ e1 (a.free c ob q n hx) hc hx
    exact ⟨sl', e2⟩
  free := fun c ob q n hx => by
    obtain ⟨o', e1⟩ := a.there c ob q hx
    exact b.free c o' e1 (a.free c ob q n hx) hx
  there := fun c ob q hx => by
    obtain ⟨o', e1⟩ := a.there c ob q hx
    exact b.there c o' e1 hx
  tups := fun c xs q => b.tups c xs (a.tups c xs q)
  frzs := fun c ob xs q => b.frzs c ob xs (a.frzs c ob xs q)
  tbls := fun c ps q => by
    obtain ⟨m1, e1⟩ := a.tbls c ps q
    obtain ⟨m2, e2⟩ := b.tbls c _ e1
    exact ⟨m1 ++ m2, by rw [e2, Array.append_assoc]⟩
theorem Un.kept (k : ∀ b u, h.get? b = some u → h'.get? b = some u) : Un fs ex H H h h' :=
  ⟨fun b ob q _ _ _ => k b ob q, fun b ob q _ _ _ => ⟨ob.slots, k b ob q⟩, fun _ _ _ n _ => n, fun b ob q _ => ⟨ob, k b ob q⟩, fun _ _ q => q, fun _ _ _ q => q, fun _ ps q => ⟨#[], by rw [q]; simp⟩⟩
theorem Un.refl : Un fs ex H H h h := Un.kept fun _ _ q => q
theorem Un.laid (k : ∀ b u, h.get? b = some u → h'.get? b = some u) (hp : h.objs.size ≤ a) (hn : H a = none) : Un fs ex H (upd H a o) h h' where
  keep := fun b u q _ _ _ => k b u q
  slot := fun b u q _ _ _ => ⟨u.slots, k b u q⟩
  free := fun b u q n _ => by rw [upd_ne (Nat.ne_of_lt (Nat.lt_of_lt_of_le (Heap.lt_size q) hp))]; exact n
  there := fun b u q _ => ⟨u, k b u q⟩
  tups := fun b xs q => by rw [upd_ne (ne_of_none q hn)]; exact q
  frzs := fun b u xs q => by rw [upd_ne (ne_of_none q hn)]; exact q
  tbls := fun b ps q => ⟨#[], by rw [upd_ne (ne_of_none q hn), q]; simp⟩
theorem Un.write (mu : Mut (H x)) (he : e = x ∨ H e = some (.own x)) (k : ∀ b u, b ≠ e → h.get? b = some u → h'.get? b = some u) (heo : ∃ u, h'.get? e = some u) : Un fs ex H (upd H x o) h h' := by
  have hx : ∀ b, H b = none → b ≠ x := fun b n z => by subst z; rw [n] at mu; exact mu
  have hb : ∀ b, H b = none → b ≠ e := fun b n z => by
    subst z
    rcases he with r | r
    · exact hx b n r
    · rw [n] at r; cases r
  have hm : ∀ b u, H b = some u → ¬ Mut (some u) → b ≠ x := fun b u q nm z => by subst z; rw [q] at mu; exact nm mu
  refine ⟨fun b u q n _ _ => k b u (hb b n) q, fun b u q n _ _ => ⟨u.slots, k b u (hb b n) q⟩, fun b u q n _ => by rw [upd_ne (hx b n)]; exact n, fun b u q _ => ?_,
    fun b xs q => by rw [upd_ne (hm b _ q fun z => z)]; exact q, fun b u xs q => by rw [upd_ne (hm b _ q fun z => z)]; exact q, fun b ps q => ⟨#[], by rw [upd_ne (hm b _ q fun z => z), q]; simp⟩⟩
  by_cases hbe : b = e
  · subst hbe; exact heo
  · exact ⟨u, k b u hbe q⟩
theorem Un.mono (u : Un fs ex H H1 h h1) (hs : ∀ b ∈ fs, b ∈ fs') (hx : ∀ b ∈ ex, b ∈ ex') : Un fs' ex' H H1 h h1 :=
  ⟨fun b ob q n hb he => u.keep b ob q n (fun z => hb (hs b z)) fun z => he (hx b z), fun _ _ q n _ he => u.any q n fun z => he (hx _ z), fun b ob q n he => u.free b ob q n fun z => he (hx b z), fun b ob q he => u.there b ob q fun z => he (hx b z), u.tups, u.frzs, u.tbls⟩
end

/-! ### the heap without what is tracked -/
def trk (h : Heap) (H : Hp) : List Addr := (List.range h.objs.size).filter fun a => (H a).isSome
def hidT (h : Heap) (H : Hp) : Heap := PySem.W.hideAll h (trk h H)
theorem hidT_size (h : Heap) (H : Hp) : (hidT h H).objs.size = h.objs.size := PySem.W.hideAll_size _ _
theorem hidT_get {h : Heap} {H : Hp} {b : Addr} {o : Obj} (e : h.get? b = some o) (n : H b = none) : (hidT h H).get? b = some o :=
  PySem.W.hideAll_get _ e fun hm => by
    have q : (H b).isSome = true := (List.mem_filter.mp hm).2
    rw [n] at q; simp at q
theorem of_hidT {h : Heap} {H : Hp} {b : Addr} {o : Obj} (e : (hidT h H).get? b = some o) : h.get? b = some o ∧ H b = none := by
  have e' : h.get? b = some o := PySem.W.of_hideAll (trk h H) e
  refine ⟨e', ?_⟩
  cases q : H b with
  | none => rfl
  | some x =>
    have hm : b ∈ trk h H := List.mem_filter.mpr ⟨List.mem_range.mpr (Heap.lt_size e'), by simp [q]⟩
    have z : (hidT h H).get? b = none := PySem.W.hideAll_none (trk h H) hm
    rw [z] at e; cases e

/-! ### OpenK's ledger, filled with every new object but one -/
def allNews (g h : Heap) (L : Addr) : List (Addr × Obj) := (List.range h.objs.size).filterMap fun a => if a = L ∨ (g.get? a).isSome = true then none else (h.get? a).map fun o => (a, o)
def rest (g h : Heap) (L d : Addr) : List (Addr × Obj) := (allNews g h L).filter fun p => decide (p.1 ≠ d)
end L2

namespace L2
open PySem PySem.Spec PyProof.Rows

/-- the module's facts, over the base: the heap at the law's entry without what is tracked there -/
structure Mod (K : PySem.W.Frag) (mg : Str → Option Value) (base : Heap) : Prop where
  kin : K.In base
  glob : base.Ns mainGlobals mg
  blt : ∃ mb, base.Ns builtinsNs mb ∧ ∀ x : Str, x ≠ "__name__" → mb x = bootBuiltins x
  nolimit : base.NoLimit

/-- the context: a def's body (or a comprehension's block) running. base: fixed through the whole law; s₀, H₀: the entry; outer: the frames whose slots others may change (a def's callers); stack: all frames that run;
   ex: iterators that were made ahead of the entry and are walked here (a comprehension's); fn: the names whose cells were made at the entry (a def: all; a comprehension's block: its own); calm: not within an except suite; pn: pins that every state bears; xe: what is wanted of an exception that leaves the code -/
structure Cx where
  prog : Program
  w : World
  K : PySem.W.Frag
  mg : Str → Option Value
  base : Heap
  A : Around
  N : List Str
  s₀ : Shared
  H₀ : Hp
  env : Env
  outer : List Env
  stack : List Env
  ex : List Addr
  fn : Str → Bool
  calm : Bool
  pn : List (Addr × Obj)
  xe : Value → Shared → Prop
/-- the callers' frames -/
def frs (l : List Env) : List Addr := l.filterMap (·.frame)
abbrev Cx.fs (X : Cx) : List Addr := frs X.outer

def Vis (sc : Scope) (x : Str) : Prop := sc.names.lookup x = some .local ∨ sc.names.lookup x = some .cell ∨ sc.names.lookup x = some .free
def Loc (sc : Scope) (x : Str) : Prop := sc.names.lookup x = some .local ∨ sc.names.lookup x = some .cell
def Look (env : Env) (h : Heap) (m : Str → Option Value) (x : Str) (u : Value) : Prop :=
  (env.kindOf x = some .local ∧ m x = some u) ∨ ((env.kindOf x = some .cell ∨ env.kindOf x = some .free) ∧ ∃ c, env.cells.lookup x = some c ∧ h.IsCell c (some u))

structure Cx.Ok (X : Cx) : Prop where
  mod : Mod X.K X.mg X.base
  kind : X.env.scope.kind = .function
  glob : X.env.globals = mainGlobals
  blt : X.env.builtins = builtinsNs
  above : X.s₀.heap.objs.size ≤ X.env.locals
  inj : ∀ x y c, X.env.cells.lookup x = some c → X.env.cells.lookup y = some c → x = y
  has : ∀ x, (X.env.kindOf x = some .cell ∨ X.env.kindOf x = some .free) → ∃ c, X.env.cells.lookup x = some c
  cab : ∀ x c, X.fn x = true → X.env.cells.lookup x = some c → X.s₀.heap.objs.size ≤ c
  hd : X.calm = true → X.A.handled = none
  frames : X.A.frames = some X.stack
  stk : X.stack = X.outer ∨ (X.stack = X.env :: X.outer ∧ X.env.frame = some X.env.locals)
  exf : ∀ b ∈ X.ex, b ≠ X.env.locals ∧ ∀ x c, X.env.cells.lookup x = some c → c ≠ b
  bs : ∀ b o, X.base.get? b = some o → X.s₀.heap.get? b = some o ∧ X.H₀ b = none
  bsz : X.base.objs.size ≤ X.s₀.heap.objs.size
  noex : ∀ b o, X.base.get? b = some o → b ∉ X.ex
  exfs : ∀ b ∈ X.ex, b ∉ X.fs
  funs : X.s₀.heap.FunFrames X.base X.outer
  frf : ∀ b ∈ X.fs, X.H₀ b = none

structure Inv (X : Cx) (pins : List (Addr × Obj)) (σ : List (Option V)) (H : Hp) (s : Shared) : Prop where
  ok : X.Ok
  os : s.os = X.s₀.os
  bare : AllBare s.gens
  base : Un X.fs X.ex X.H₀ H X.s₀.heap s.heap
  loc : ∃ m, s.heap.Ns X.env.locals m ∧ ∀ (i : Nat) (x : Str) (v : V), X.N[i]? = some x → σ[i]? = some (some v) → Vis X.env.scope x → ∃ u, RelV v u ∧ Look X.env s.heap m x u
  cell : ∀ x c, X.env.cells.lookup x = some c → ∃ v, s.heap.IsCell c v
  free : H X.env.locals = none
  freeC : ∀ x c, X.env.cells.lookup x = some c → H c = none
  pin : ∀ p ∈ X.pn ++ pins, s.heap.get? p.1 = some p.2 ∧ H p.1 = none ∧ p.1 ≠ X.env.locals ∧ p.1 ∉ X.fs ∧ ∀ v, p.2.data ≠ .cell v
  hok : HOk X.prog X.w H s.heap
  len : σ.length = X.N.length

section
variable {X : Cx} {pins : List (Addr × Obj)} {σ : List (Option V)} {H H' : Hp} {s : Shared} {h' : Heap}

theorem Cx.Ok.nofr (ok : X.Ok) {b : Addr} {o : Obj} (e : X.base.get? b = some o) : b ∉ X.fs := fun hb => by
  have := (ok.funs.mem hb).1
  rw [e] at this; cases this
theorem Inv.bs (I : Inv X pins σ H s) : ∀ b o, X.base.get? b = some o → s.heap.get? b = some o ∧ H b = none := fun b o e =>
  ⟨I.base.keep b o (I.ok.bs b o e).1 (I.ok.bs b o e).2 (I.ok.nofr e) (I.ok.noex b o e), I.base.free b o (I.ok.bs b o e).1 (I.ok.bs b o e).2 (I.ok.noex b o e)⟩
theorem Inv.bk (I : Inv X pins σ H s) : ∀ b o, X.base.get? b = some o → s.heap.get? b = some o := fun b o e => (I.bs b o e).1
theorem Inv.mod (I : Inv X pins σ H s) : Mod X.K X.mg X.base := I.ok.mod
theorem Inv.kIn (I : Inv X pins σ H s) : X.K.In s.heap := I.ok.mod.kin.keeps I.bk
theorem Inv.nolimit (I : Inv X pins σ H s) : s.heap.NoLimit := I.ok.mod.nolimit.keeps I.bk
/-- the frame over the base: for OpenK's rules (K.In X.base is I.mod.kin) -/
theorem Inv.fr (I : Inv X pins σ H s) : ∃ m, Fr X.base X.env.locals s.heap m :=
  let ⟨m, hn, _⟩ := I.loc
  ⟨m, hn, I.bk, Nat.le_trans I.ok.bsz I.ok.above⟩
theorem Inv.lt (I : Inv X pins σ H s) : X.env.locals < s.heap.objs.size := let ⟨_, hn, _⟩ := I.loc; hn.lt
theorem Inv.sz (I : Inv X pins σ H s) : X.s₀.heap.objs.size ≤ s.heap.objs.size := Nat.le_trans I.ok.above (Nat.le_of_lt I.lt)
theorem Inv.nofs (I : Inv X pins σ H s) {a : Addr} (h : s.heap.objs.size ≤ a) : a ∉ X.fs := fun hb => by
  obtain ⟨_, o, ho, _⟩ := I.ok.funs.mem hb
  exact absurd (Nat.lt_of_lt_of_le (Heap.lt_size ho) (Nat.le_trans I.sz h)) (Nat.lt_irrefl _)
theorem Inv.cne (I : Inv X pins σ H s) : ∀ x c, X.env.cells.lookup x = some c → c ≠ X.env.locals := fun x c e z => by
  obtain ⟨v, o, ho, hd⟩ := I.cell x c e
  obtain ⟨m, ⟨o', es, ep, ho', hd', _⟩, _⟩ := I.loc
  rw [z, ho'] at ho; cases ho; rw [hd'] at hd; cases hd
theorem Inv.funs (I : Inv X pins σ H s) : s.heap.FunFrames X.base X.outer := by
  have all : ∀ (l : List Env), (∀ b ∈ frs l, b ∈ X.fs) → X.s₀.heap.FunFrames X.base l → s.heap.FunFrames X.base l := by
    intro l
    induction l with
    | nil => intro _ _; trivial
    | cons env r ih =>
      intro hs hl
      obtain ⟨hk, ⟨L, o, hf, hn, ho, hd⟩, hr⟩ := hl
      have hL : L ∈ X.fs := hs L (by unfold frs; rw [List.filterMap_cons, hf]; exact List.mem_cons_self)
      obtain ⟨sl, e⟩ := I.base.slot L o ho (I.ok.frf L hL) hL fun z => I.ok.exfs L z hL
      exact ⟨hk, ⟨L, _, hf, hn, e, hd⟩, ih (fun b hb => hs b (by unfold frs; rw [List.filterMap_cons, hf]; exact List.mem_cons_of_mem _ hb)) hr⟩
  exact all X.outer (fun _ hb => hb) I.ok.funs

/-- the frames that run, for a call -/
theorem Inv.stack (I : Inv X pins σ H s) : s.heap.FunFrames X.base X.stack := by
  rcases I.ok.stk with e | ⟨e, hf⟩
  · rw [e]; exact I.funs
  · rw [e]
    obtain ⟨m, hn, _⟩ := I.loc
    refine .cons (by rw [I.ok.kind]; decide) hf hn ?_ I.funs
    exact Heap.get?_none_of_le (Nat.le_trans I.ok.bsz I.ok.above)
theorem Inv.stkSub (I : Inv X pins σ H s) : ∀ b ∈ frs X.stack, b ∈ X.env.locals :: X.fs := fun b hb => by
  rcases I.ok.stk with e | ⟨e, hf⟩
  · rw [e] at hb; exact List.mem_cons_of_mem _ hb
  · rw [e] at hb
    unfold frs at hb
    rw [List.filterMap_cons, hf] at hb
    exact hb
theorem Inv.stkFree (I : Inv X pins σ H s) : ∀ b ∈ frs X.stack, H b = none := fun b hb => by
  rcases List.mem_cons.mp (I.stkSub b hb) with e | hb
  · rw [e]; exact I.free
  · obtain ⟨_, o, ho, _⟩ := I.ok.funs.mem hb
    exact I.base.free b o ho (I.ok.frf b hb) fun z => I.ok.exfs b z hb

/-- THE STEP: the untracked objects but the frame and the records at ch are kept (the callers' frames up to slots), the frame's map is kept, the new abstract heap is held -/
theorem Inv.step {g' : Array GenState} {t' : Nat} {d' : Drawn} {ch : List Addr} (I : Inv X pins σ H s)
    (hch : ∀ b ∈ ch, (b ∈ X.ex ∨ X.s₀.heap.objs.size ≤ b) ∧ b ≠ X.env.locals ∧ (∀ x c, X.env.cells.lookup x = some c → c ≠ b) ∧ ∀ p ∈ X.pn ++ pins, p.1 ≠ b)
    (keep : ∀ b o, b ≠ X.env.locals → b ∉ X.fs → b ∉ ch → s.heap.get? b = some o → H b = none → h'.get? b = some o)
    (slot : ∀ b o, b ≠ X.env.locals → b ∈ X.fs → b ∉ ch → s.heap.get? b = some o → H b = none → ∃ sl, h'.get? b = some { o with slots := sl }) (free : ∀ b o, b ∉ ch → s.heap.get? b = some o → H b = none → H' b = none)
    (there : ∀ b o, b ∉ ch → s.heap.get? b = some o → ∃ o', h'.get? b = some o')
    (tups : ∀ b xs, H b = some (.tup xs) → H' b = some (.tup xs)) (frzs : ∀ b o u, H b = some (.frz o u) → H' b = some (.frz o u)) (tbls : ∀ b ps, H b = some (.tbl ps) → ∃ more, H' b = some (.tbl (ps ++ more)))
    (ns : ∀ m, s.heap.Ns X.env.locals m → h'.Ns X.env.locals m) (hok : HOk X.prog X.w H' h') (hg : AllBare g') :
    Inv X pins σ H' { s with heap := h', gens := g', drawn := d', toks := t' } := by
  have neL : ∀ b o, X.s₀.heap.get? b = some o → b ≠ X.env.locals := fun b o e => Nat.ne_of_lt (Nat.lt_of_lt_of_le (Heap.lt_size e) I.ok.above)
  have neC : ∀ b o, X.s₀.heap.get? b = some o → b ∉ X.ex → b ∉ ch := fun b o e hx hb => by
    rcases (hch b hb).1 with z | z
    · exact hx z
    · exact absurd (Nat.lt_of_lt_of_le (Heap.lt_size e) z) (Nat.lt_irrefl _)
  have cellK : ∀ x c, X.env.cells.lookup x = some c → ∀ v, s.heap.IsCell c v → h'.IsCell c v := fun x c e v ⟨o, ho, hd⟩ => by
    have nch : c ∉ ch := fun z => (hch c z).2.2.1 x c e rfl
    by_cases hc : c ∈ X.fs
    · obtain ⟨sl, q⟩ := slot c o (I.cne x c e) hc nch ho (I.freeC x c e)
      exact ⟨_, q, hd⟩
    · exact ⟨o, keep c o (I.cne x c e) hc nch ho (I.freeC x c e), hd⟩
  refine ⟨I.ok, I.os, hg, ⟨fun b o e n hb hx => ?_, fun b o e n hb hx => ?_, fun b o e n hx => ?_, fun b o e hx => ?_, fun b xs e => tups b xs (I.base.tups b xs e), fun b o xs e => frzs b o xs (I.base.frzs b o xs e), fun b ps e => ?_⟩, ?_, fun x c e => ?_, ?_, fun x c e => ?_, fun p hp => ?_, hok, I.len⟩
  · exact keep b o (neL b o e) hb (neC b o e hx) (I.base.keep b o e n hb hx) (I.base.free b o e n hx)
  · obtain ⟨sl, e1⟩ := I.base.slot b o e n hb hx
    obtain ⟨sl', e2⟩ := slot b _ (neL b o e) hb (neC b o e hx) e1 (I.base.free b o e n hx)
    exact ⟨sl', e2⟩
  · obtain ⟨o', e1⟩ := I.base.there b o e hx
    exact free b o' (neC b o e hx) e1 (I.base.free b o e n hx)
  · obtain ⟨o', e1⟩ := I.base.there b o e hx
    exact there b o' (neC b o e hx) e1
  · obtain ⟨m1, e1⟩ := I.base.tbls b ps e
    obtain ⟨m2, e2⟩ := tbls b _ e1
    exact ⟨m1 ++ m2, by rw [e2, Array.append_assoc]⟩
  · obtain ⟨m, hn, hl⟩ := I.loc
    refine ⟨m, ns m hn, fun i x v e1 e2 e3 => ?_⟩
    obtain ⟨u, r, l⟩ := hl i x v e1 e2 e3
    refine ⟨u, r, ?_⟩
    rcases l with l | ⟨k, c, e, z⟩
    · exact .inl l
    · exact .inr ⟨k, c, e, cellK x c e _ z⟩
  · obtain ⟨v, z⟩ := I.cell x c e
    exact ⟨v, cellK x c e v z⟩
  · obtain ⟨m, ⟨o, _, _, ho, _⟩, _⟩ := I.loc
    exact free _ o (fun z => (hch _ z).2.1 rfl) ho I.free
  · obtain ⟨v, o, ho, hd⟩ := I.cell x c e
    exact free c o (fun z => (hch c z).2.2.1 x c e rfl) ho (I.freeC x c e)
  · obtain ⟨e, n, ne, nf, d⟩ := I.pin p hp
    have nch : p.1 ∉ ch := fun z => (hch p.1 z).2.2.2 p hp rfl
    exact ⟨keep p.1 p.2 ne nf nch e n, free p.1 p.2 nch e n, ne, nf, d⟩
/-- .. where the frame's own object is kept too -/
theorem Inv.un {t' : Nat} (I : Inv X pins σ H s) (u : Un X.fs [] H H' s.heap h') (hok : HOk X.prog X.w H' h') : Inv X pins σ H' { s with heap := h', toks := t' } := by
  obtain ⟨m, ⟨o, es, ep, ho, r⟩, _⟩ := id I.loc
  obtain ⟨sl, hL⟩ := u.any ho I.free (by simp)
  exact I.step (g' := s.gens) (d' := s.drawn) (ch := []) (fun _ z => nomatch z) (fun b o _ hb _ e n => u.keep b o e n hb (by simp)) (fun b o _ hb _ e n => u.slot b o e n hb (by simp)) (fun b o _ e n => u.free b o e n (by simp)) (fun b o _ e => u.there b o e (by simp)) u.tups u.frzs u.tbls (fun m' hm => by
    obtain ⟨o', es', ep', ho', r'⟩ := hm
    rw [ho] at ho'; cases ho'
    exact ⟨_, es', ep', hL, r'⟩) hok I.bare
/-- behind a call (or a comprehension's block): the slots of this frame may have changed too, the records at ch may have turned -/
theorem Inv.call {g' : Array GenState} {t' : Nat} {d' : Drawn} {ch : List Addr} (I : Inv X pins σ H s) (u : Un (frs X.stack) ch H H' s.heap h') (hok : HOk X.prog X.w H' h') (hg : AllBare g')
    (hch : ∀ b ∈ ch, (b ∈ X.ex ∨ X.s₀.heap.objs.size ≤ b) ∧ b ≠ X.env.locals ∧ (∀ x c, X.env.cells.lookup x = some c → c ≠ b) ∧ ∀ p ∈ X.pn ++ pins, p.1 ≠ b) :
    Inv X pins σ H' { s with heap := h', gens := g', drawn := d', toks := t' } := by
  obtain ⟨m, ⟨o, es, ep, ho, r⟩, _⟩ := id I.loc
  obtain ⟨sl, hL⟩ := u.any ho I.free fun z => (hch _ z).2.1 rfl
  exact I.step (ch := ch) hch (fun b o hL hb hc e n => u.keep b o e n (fun z => (List.mem_cons.mp (I.stkSub b z)).elim hL hb) hc) (fun b o _ _ hc e n => u.any e n hc) (fun b o hc e n => u.free b o e n hc) (fun b o hc e => u.there b o e hc) u.tups u.frzs u.tbls (fun m' hm => by
    obtain ⟨o', es', ep', ho', r'⟩ := hm
    rw [ho] at ho'; cases ho'
    exact ⟨_, es', ep', hL, r'⟩) hok hg
/-- an untracked record of ours (an iterator) has turned -/
theorem Inv.turned {t' : Nat} {it : Addr} (I : Inv X pins σ H s) (k : ∀ b o, b ≠ it → s.heap.get? b = some o → h'.get? b = some o) (hn : H it = none) (hL : it ≠ X.env.locals)
    (h1 : it ∈ X.ex ∨ X.s₀.heap.objs.size ≤ it) (h2 : ∀ x c, X.env.cells.lookup x = some c → c ≠ it) (h3 : ∀ p ∈ X.pn ++ pins, p.1 ≠ it) : Inv X pins σ H { s with heap := h', toks := t' } := by
  have nit : ∀ b u, H b = some u → b ≠ it := fun b u e z => by rw [z, hn] at e; cases e
  refine I.step (g' := s.gens) (d' := s.drawn) (ch := [it]) (fun b hb => ?_) (fun b o _ _ hc e _ => k b o (fun z => hc (by simp [z])) e) (fun b o _ _ hc e _ => ⟨o.slots, k b o (fun z => hc (by simp [z])) e⟩) (fun _ _ _ _ n => n)
    (fun b o hc e => ⟨o, k b o (fun z => hc (by simp [z])) e⟩) (fun _ _ e => e) (fun _ _ _ e => e) (fun b ps e => ⟨#[], by rw [e]; simp⟩) (fun m hm => ?_) (fun b u e => ?_) I.bare
  · have e : b = it := by simpa using hb
    subst e
    exact ⟨h1, hL, h2, h3⟩
  · obtain ⟨o, es, ep, ho, r⟩ := hm
    exact ⟨o, es, ep, k _ o (Ne.symm hL) ho, r⟩
  · refine (I.hok b u e).stay (fun c v hc q => k c v ?_ q) (fun _ q => q) fun _ _ q => q
    rcases hc with z | z
    · rw [z]; exact nit b u e
    · exact nit c _ z
theorem Inv.tok (I : Inv X pins σ H s) (t : Nat) : Inv X pins σ H { s with toks := t } := I.un (h' := s.heap) (t' := t) Un.refl I.hok
/-- all objects kept -/
theorem Inv.kept {t' : Nat} (I : Inv X pins σ H s) (k : ∀ b u, s.heap.get? b = some u → h'.get? b = some u) : Inv X pins σ H { s with heap := h', toks := t' } := I.un (Un.kept k) (I.hok.kept k)
/-- a new object laid and tracked -/
theorem Inv.laid {a : Addr} {o : HO} {t' : Nat} (I : Inv X pins σ H s) (k : ∀ b u, s.heap.get? b = some u → h'.get? b = some u) (hp : s.heap.objs.size ≤ a) (new : ObjOk X.prog X.w (upd H a o) h' a o) :
    Inv X pins σ (upd H a o) { s with heap := h', toks := t' } := I.un (Un.laid k hp (I.hok.fresh hp)) (I.hok.laid k hp new)
/-- an object written -/
theorem Inv.write {x e : Addr} {o : HO} {t' : Nat} (I : Inv X pins σ H s) (mu : Mut (H x)) (he : e = x ∨ H e = some (.own x)) (k : ∀ b u, b ≠ e → s.heap.get? b = some u → h'.get? b = some u) (heo : ∃ u, h'.get? e = some u)
    (new : ObjOk X.prog X.w (upd H x o) h' x o) : Inv X pins σ (upd H x o) { s with heap := h', toks := t' } := I.un (Un.write mu he k heo) (I.hok.write mu he k heo new)
/-- forgetting slots, pins -/
theorem Inv.weak {σ' : List (Option V)} (I : Inv X pins σ H s) (hl : σ'.length = σ.length) (w : ∀ (i : Nat) v, σ'[i]? = some (some v) → σ[i]? = some (some v)) : Inv X pins σ' H s :=
  ⟨I.ok, I.os, I.bare, I.base, let ⟨m, hn, hl'⟩ := I.loc; ⟨m, hn, fun i x v e1 e2 e3 => hl' i x v e1 (w i v e2) e3⟩, I.cell, I.free, I.freeC, I.pin, I.hok, hl.trans I.len⟩
theorem Inv.pins_of {pins' : List (Addr × Obj)} (I : Inv X pins σ H s) (h : ∀ p ∈ pins', s.heap.get? p.1 = some p.2 ∧ H p.1 = none ∧ p.1 ≠ X.env.locals ∧ p.1 ∉ X.fs ∧ ∀ v, p.2.data ≠ .cell v) : Inv X pins' σ H s :=
  ⟨I.ok, I.os, I.bare, I.base, I.loc, I.cell, I.free, I.freeC, fun p hp => (List.mem_append.mp hp).elim (fun z => I.pin p (List.mem_append_left _ z)) (h p), I.hok, I.len⟩

theorem nodup_ix {N : List Str} (hN : N.Nodup) {i j : Nat} {x : Str} (a : N[i]? = some x) (b : N[j]? = some x) : i = j := by
  obtain ⟨h1, e1⟩ := List.getElem?_eq_some_iff.mp a
  obtain ⟨h2, e2⟩ := List.getElem?_eq_some_iff.mp b
  exact (List.getElem_inj hN).mp (e1.trans e2.symm)

/-- a name is stored; what changed -/
theorem store_ok2 {M : Model} {A : Around} {E : Value → Shared → Prop} {i : Nat} {x : Str} {v : V} {u : Value} {Q : Unit → Shared → Prop} (I : Inv X pins σ H s) (hN : X.N.Nodup) (hi : X.N[i]? = some x) (hx : Loc X.env.scope x) (r : RelV v u)
    (h : ∀ s', Inv X pins (σ.set i (some v)) H s' → (∃ a, Heap.SameBut a s.heap s'.heap ∧ (a = X.env.locals ∨ X.env.cells.lookup x = some a)) → Q () s') (hf : X.fn x = true ∨ X.env.scope.names.lookup x = some .local := by first | exact .inl rfl | exact .inr rfl | assumption) : wpAny M A (storeName X.env x u) Q E s := by
  obtain ⟨m, hn, hl⟩ := id I.loc
  have hcls : (X.env.scope.kind == .class || (X.env.scope.kind == .module && X.env.locals != X.env.globals)) = false := by rw [I.ok.kind]; rfl
  have hiσ : i < σ.length := by rw [I.len]; exact (List.getElem?_eq_some_iff.mp hi).1
  have cne := I.cne
  have tracked : ∀ {a : Addr} {h' : Heap}, (∃ o, s.heap.get? a = some o ∧ H a = none) → Heap.SameBut a s.heap h' → HOk X.prog X.w H h' := fun {a h'} ha hs b ob e => by
    obtain ⟨_, _, hfree⟩ := ha
    refine (I.hok b ob e).stay (fun c w' hc q => (hs.2 c ?_).trans q) (fun _ q => q) fun _ _ q => q
    rintro rfl
    rcases hc with rfl | hc
    · rw [hfree] at e; cases e
    · rw [hfree] at hc; cases hc
  rcases hx with hk | hk
  · refine wpAny_storeName_local hk hn (fun h' hn' hs => ?_) hcls
    obtain ⟨oL, _, _, hoL, _⟩ := id hn
    refine h _ ⟨I.ok, I.os, I.bare, ⟨fun b o e n hb hx => ?_, fun b o e n hb hx => ?_, I.base.free, fun b o e hx => ?_, I.base.tups, I.base.frzs, I.base.tbls⟩, ⟨_, hn', fun j y v' e1 e2 e3 => ?_⟩, fun y c e => ?_, I.free, I.freeC, fun p hp => ?_, tracked ⟨oL, hoL, I.free⟩ hs, by simpa using I.len⟩ ⟨_, hs, .inl rfl⟩
    · exact (hs.2 b (Nat.ne_of_lt (Nat.lt_of_lt_of_le (Heap.lt_size e) I.ok.above))).trans (I.base.keep b o e n hb hx)
    · obtain ⟨sl, e1⟩ := I.base.slot b o e n hb hx
      exact ⟨sl, (hs.2 b (Nat.ne_of_lt (Nat.lt_of_lt_of_le (Heap.lt_size e) I.ok.above))).trans e1⟩
    · obtain ⟨o', e1⟩ := I.base.there b o e hx
      exact ⟨o', (hs.2 b (Nat.ne_of_lt (Nat.lt_of_lt_of_le (Heap.lt_size e) I.ok.above))).trans e1⟩
    · by_cases hj : j = i
      · subst hj
        rw [hi] at e1; cases e1
        rw [List.getElem?_set_self hiσ] at e2
        cases e2
        exact ⟨u, r, .inl ⟨hk, by simp⟩⟩
      · rw [List.getElem?_set_ne (Ne.symm hj)] at e2
        obtain ⟨u', r', q⟩ := hl j y v' e1 e2 e3
        refine ⟨u', r', ?_⟩
        rcases q with ⟨k, e⟩ | ⟨k, c, e, z⟩
        · refine .inl ⟨k, ?_⟩
          have : y ≠ x := fun e => hj (nodup_ix hN e1 (e ▸ hi))
          simp [this, e]
        · exact .inr ⟨k, c, e, z.sameBut hs (cne y c e)⟩
    · obtain ⟨w', z⟩ := I.cell y c e
      exact ⟨w', z.sameBut hs (cne y c e)⟩
    · obtain ⟨e, n, ne, nf, d⟩ := I.pin p hp
      exact ⟨(hs.2 p.1 ne).trans e, n, ne, nf, d⟩
  · have hfn : X.fn x = true := by
      rcases hf with z | z
      · exact z
      · rw [z] at hk; cases hk
    obtain ⟨c, hc⟩ := I.ok.has x (.inl hk)
    obtain ⟨w', z⟩ := I.cell x c hc
    refine wpAny_storeName_cell I.ok.kind hk hc z (fun h' hc' hs => ?_)
    obtain ⟨oc, hoc, hocd⟩ := id z
    refine h { s with heap := h' } ⟨I.ok, I.os, I.bare, ⟨fun b o e n hb hx => ?_, fun b o e n hb hx => ?_, I.base.free, fun b o e hx => ?_, I.base.tups, I.base.frzs, I.base.tbls⟩, ⟨m, hn.sameBut hs (Ne.symm (cne x c hc)), fun j y v' e1 e2 e3 => ?_⟩, fun y c' e => ?_, I.free, I.freeC, fun p hp => ?_, tracked ⟨oc, hoc, I.freeC x c hc⟩ hs, by simpa using I.len⟩ ⟨c, hs, .inr hc⟩
    · exact (hs.2 b (Nat.ne_of_lt (Nat.lt_of_lt_of_le (Heap.lt_size e) (I.ok.cab x c hfn hc)))).trans (I.base.keep b o e n hb hx)
    · obtain ⟨sl, e1⟩ := I.base.slot b o e n hb hx
      exact ⟨sl, (hs.2 b (Nat.ne_of_lt (Nat.lt_of_lt_of_le (Heap.lt_size e) (I.ok.cab x c hfn hc)))).trans e1⟩
    · obtain ⟨o', e1⟩ := I.base.there b o e hx
      exact ⟨o', (hs.2 b (Nat.ne_of_lt (Nat.lt_of_lt_of_le (Heap.lt_size e) (I.ok.cab x c hfn hc)))).trans e1⟩
    · by_cases hj : j = i
      · subst hj
        rw [hi] at e1; cases e1
        rw [List.getElem?_set_self hiσ] at e2
        cases e2
        exact ⟨u, r, .inr ⟨.inl hk, c, hc, hc'⟩⟩
      · rw [List.getElem?_set_ne (Ne.symm hj)] at e2
        obtain ⟨u', r', q⟩ := hl j y v' e1 e2 e3
        refine ⟨u', r', ?_⟩
        rcases q with q | ⟨k, c', e, z'⟩
        · exact .inl q
        · refine .inr ⟨k, c', e, z'.sameBut hs ?_⟩
          rintro rfl
          exact hj (nodup_ix hN e1 (I.ok.inj _ _ _ e hc ▸ hi))
    · by_cases hcc : c' = c
      · subst hcc; exact ⟨_, hc'⟩
      · obtain ⟨w2, z2⟩ := I.cell y c' e
        exact ⟨w2, z2.sameBut hs hcc⟩
    · obtain ⟨e, n, ne, nf, d⟩ := I.pin p hp
      refine ⟨(hs.2 p.1 ?_).trans e, n, ne, nf, d⟩
      intro q
      rw [q, hoc] at e
      have q' : oc = p.2 := Option.some.inj e
      exact d w' (by rw [← q']; exact hocd)
theorem store_ok {M : Model} {A : Around} {E : Value → Shared → Prop} {i : Nat} {x : Str} {v : V} {u : Value} {Q : Unit → Shared → Prop} (I : Inv X pins σ H s) (hN : X.N.Nodup) (hi : X.N[i]? = some x) (hx : Loc X.env.scope x) (r : RelV v u)
    (h : ∀ s', Inv X pins (σ.set i (some v)) H s' → Q () s') (hf : X.fn x = true ∨ X.env.scope.names.lookup x = some .local := by first | exact .inl rfl | exact .inr rfl | assumption) : wpAny M A (storeName X.env x u) Q E s :=
  store_ok2 I hN hi hx r (fun s' I' _ => h s' I') hf
/-- behind a call or a block, the state as it is -/
theorem Inv.call' {s' : Shared} {ch : List Addr} (I : Inv X pins σ H s) (ho : s'.os = s.os) (u : Un (frs X.stack) ch H H' s.heap s'.heap) (hok : HOk X.prog X.w H' s'.heap) (hg : AllBare s'.gens)
    (hch : ∀ b ∈ ch, (b ∈ X.ex ∨ X.s₀.heap.objs.size ≤ b) ∧ b ≠ X.env.locals ∧ (∀ x c, X.env.cells.lookup x = some c → c ≠ b) ∧ ∀ p ∈ X.pn ++ pins, p.1 ≠ b) : Inv X pins σ H' s' := by
  obtain ⟨h', g', d', t', o'⟩ := s'
  have e : o' = s.os := ho
  subst e
  exact I.call (g' := g') (t' := t') (d' := d') u hok hg hch
end

/-! ### the judgements -/
/-- an exception: its class, its own dict's address (where it has one), the abstract heap behind it -/
abbrev XK := Value → Option Addr → Hp → Prop
abbrev St := List (Option V)
abbrev VK := V → Hp → Prop
/-- an expression's reading; a test's; an argument list's -/
abbrev TE := St → Hp → VK → Prop
abbrev TT := St → Hp → (Bool → Hp → Prop) → Prop
abbrev TA := St → Hp → (List V → Hp → Prop) → Prop
/-- what is wanted behind a statement -/
structure Ends where
  nx : St → Hp → Prop
  rt : VK
  bk : St → Hp → Prop := fun _ _ => False
  ct : St → Hp → Prop := fun _ _ => False
abbrev TS := Ends → St → Hp → Prop

def EP (X : Cx) (pins : List (Addr × Obj)) (σ : St) (Q : VK) (u : Value) (s' : Shared) : Prop := ∃ v H', Inv X pins σ H' s' ∧ RelV v u ∧ Q v H'
def TP (X : Cx) (pins : List (Addr × Obj)) (σ : St) (Q : Bool → Hp → Prop) (b : Bool) (s' : Shared) : Prop := ∃ H', Inv X pins σ H' s' ∧ Q b H'
def AP (X : Cx) (pins : List (Addr × Obj)) (σ : St) (Q : List V → Hp → Prop) (us : List Value) (s' : Shared) : Prop := ∃ vs H', Inv X pins σ H' s' ∧ Vals vs us ∧ Q vs H'
def SP (X : Cx) (pins : List (Addr × Obj)) (D : Ends) (f : Flow) (s' : Shared) : Prop :=
  match f with
  | .next => ∃ σ' H', Inv X pins σ' H' s' ∧ D.nx σ' H'
  | .brk => ∃ σ' H', Inv X pins σ' H' s' ∧ D.bk σ' H'
  | .cont => ∃ σ' H', Inv X pins σ' H' s' ∧ D.ct σ' H'
  | .ret u => ∃ v σ' H', Inv X pins σ' H' s' ∧ RelV v u ∧ D.rt v H'

def PE (X : Cx) (e : Expr) (t : TE) : Prop :=
  ∀ (pins : List (Addr × Obj)) (s : Shared) (σ : St) (H : Hp) (Q : VK), Inv X pins σ H s → t σ H Q → wpAny (model X.prog X.w) X.A (eval e X.env) (EP X pins σ Q) X.xe s
def PT (X : Cx) (e : Expr) (t : TT) : Prop :=
  ∀ (pins : List (Addr × Obj)) (s : Shared) (σ : St) (H : Hp) (Q : Bool → Hp → Prop), Inv X pins σ H s → t σ H Q → wpAny (model X.prog X.w) X.A (isTrue e X.env (eval e X.env)) (TP X pins σ Q) X.xe s
/-- a test whatever its 'whole' is (and, or) -/
def PW (X : Cx) (e : Expr) (t : TT) : Prop :=
  ∀ (whole : Sem Value) (pins : List (Addr × Obj)) (s : Shared) (σ : St) (H : Hp) (Q : Bool → Hp → Prop), Inv X pins σ H s → t σ H Q → wpAny (model X.prog X.w) X.A (isTrue e X.env whole) (TP X pins σ Q) X.xe s
theorem PW.pt {X : Cx} {e : Expr} {t : TT} (h : PW X e t) : PT X e t := h _
/-- an argument list (no star), from the left -/
def PA (X : Cx) (es : List Expr) (t : TA) : Prop :=
  ∀ (pos : Pos) (pins : List (Addr × Obj)) (s : Shared) (σ : St) (H : Hp) (Q : List V → Hp → Prop), Inv X pins σ H s → t σ H Q → wpAny (model X.prog X.w) X.A (spliced (backTo pos (starEach es X.env))) (AP X pins σ Q) X.xe s
def PS (X : Cx) (st : Stmt) (t : TS) : Prop :=
  ∀ (pins : List (Addr × Obj)) (s : Shared) (σ : St) (H : Hp) (D : Ends), Inv X pins σ H s → t D σ H → wpAny (model X.prog X.w) X.A (exec st X.env) (SP X pins D) X.xe s
def PSs (X : Cx) (st : List Stmt) (t : TS) : Prop :=
  ∀ (pins : List (Addr × Obj)) (s : Shared) (σ : St) (H : Hp) (D : Ends), Inv X pins σ H s → t D σ H → wpAny (model X.prog X.w) X.A (execs st X.env) (SP X pins D) X.xe s
/-- weaken the end -/
theorem thn {α : Type} {t : Sem α} {Q Q' : α → Shared → Prop} {M : Model} {A : Around} {E : Value → Shared → Prop} {s : Shared} (h : wpAny M A t Q E s) (hQ : ∀ a s, Q a s → Q' a s) : wpAny M A t Q' E s := wpAny_mono h hQ fun _ _ x => x
end L2

namespace L2
open PySem PySem.Spec PyProof.Rows
section
variable {X : Cx}

/-! ### names and constants -/
def tVar (i : Nat) : TE := fun σ H Q => ∃ v, σ[i]? = some (some v) ∧ Q v H
def tC (v : V) : TE := fun _ H Q => Q v H
theorem pe_var {i : Nat} {x : Str} {pos : Pos} (hN : X.N[i]? = some x) (hv : Vis X.env.scope x) (hd : (x == ("__debug__" : Str)) = false := by decide) (hcd : (x == ("__classdict__" : Str)) = false := by decide) : PE X (.Name x pos) (tVar i) := by
  intro pins s σ H Q I h
  obtain ⟨v, e, h⟩ := h
  obtain ⟨m, hn, hl⟩ := I.loc
  obtain ⟨u, r, l⟩ := hl i x v hN e hv
  have fin : EP X pins σ Q u s := ⟨v, H, I, r, h⟩
  rcases l with ⟨hk, hm⟩ | ⟨hk, c, hc, hcell⟩
  · exact wpAny_Name (wpAny_loadName_local I.ok.kind hk hn hm fin) hd
  · rcases hk with hk | hk
    · exact wpAny_Name (wpAny_loadName_cell I.ok.kind hk hc hcell fin) hd
    · exact wpAny_Name (wpAny_loadName_free I.ok.kind hk hc hcell fin hcd) hd
theorem pe_int {i j pos} : PE X (.Constant (.int i) j pos) (tC (.int i)) := fun _ _ _ H _ I h => wpAny_Constant_int ⟨.int i, H, I.tok _, ⟨_, rfl⟩, h⟩
theorem pe_bl {b j pos} : PE X (.Constant (.bool b) j pos) (tC (.bl b)) := fun _ _ _ H _ I h => Constant_bool ⟨.bl b, H, I, rfl, h⟩
theorem pe_non {j pos} : PE X (.Constant .none j pos) (tC .non) := fun _ _ _ H _ I h => Constant_none ⟨.non, H, I, rfl, h⟩
theorem pe_str {x j pos} : PE X (.Constant (.str x) j pos) (tC (.str x)) := fun _ _ _ H _ I h => Calls.Constant_str ⟨.str x, H, I.tok _, ⟨_, rfl⟩, h⟩

/-- a global name of the def -/
def Gl (X : Cx) (x : Str) : Prop := X.env.kindOf x = some .globalImplicit
theorem ld_glob {E : Value → Shared → Prop} {pins : List (Addr × Obj)} {s : Shared} {σ : St} {H : Hp} {x : Str} {u : Value} {pos : Pos} {Q : Value → Shared → Prop} (I : Inv X pins σ H s) (hg : Gl X x) (hm : X.mg x = some u) (h : Q u s)
    (hd : (x == ("__debug__" : Str)) = false := by decide) : wpAny (model X.prog X.w) X.A (eval (.Name x pos) X.env) Q E s :=
  Calls.Name_function_global I.ok.kind hg (Calls.loadGlobal_global (by rw [I.ok.glob]; exact I.mod.glob.keeps I.bk) hm h) hd
theorem ld_blt {E : Value → Shared → Prop} {pins : List (Addr × Obj)} {s : Shared} {σ : St} {H : Hp} {x : Str} {u : Value} {pos : Pos} {Q : Value → Shared → Prop} (I : Inv X pins σ H s) (hg : Gl X x) (hm : X.mg x = none) (hv : bootBuiltins x = some u) (h : Q u s)
    (hn : x ≠ "__name__" := by decide) (hd : (x == ("__debug__" : Str)) = false := by decide) : wpAny (model X.prog X.w) X.A (eval (.Name x pos) X.env) Q E s := by
  obtain ⟨mb, h1, h2⟩ := I.mod.blt
  exact Calls.Name_function_global I.ok.kind hg (Calls.loadGlobal_builtin (by rw [I.ok.glob]; exact I.mod.glob.keeps I.bk) hm (by rw [I.ok.blt]; exact h1.keeps I.bk) ((h2 x hn).trans hv) h) hd
theorem pe_bltn {x : Str} {v : V} {u : Value} {pos : Pos} (hg : Gl X x) (hm : X.mg x = none) (hv : bootBuiltins x = some u) (r : RelV v u) (hn : x ≠ "__name__" := by decide) (hd : (x == ("__debug__" : Str)) = false := by decide) : PE X (.Name x pos) (tC v) :=
  fun _ _ _ H _ I h => ld_blt I hg hm hv ⟨v, H, I, r, h⟩ hn hd

/-! ### arithmetic -/
variable {a b : Expr} {ta tb : TE} {pos : Pos}
/-! ### comparisons -/
/-- a comparison as a value, as a test -/
def tB (t : TE) : TT := fun σ H Q => t σ H fun x H1 => ∃ c, x = .bl c ∧ Q c H1
/-- an expression whose value is a bool, as a test -/
theorem pt_val {e : Expr} {t : TE} (h : PE X e t) (he : ∀ whole, isTrue e X.env whole = (do let v ← whole; standAt e.pos; holding [v] (truthy v)) := by intro _; rfl) : PT X e (tB t) := by
  intro pins s σ H Q I hw
  refine isTrue_plain (thn (h pins s σ H _ I hw) fun v s1 ⟨x, H1, I1, r1, q1⟩ => ?_) (he _)
  obtain ⟨d, rfl, q⟩ := q1
  cases r1
  exact wpAny_truthy_bool ⟨H1, I1, q⟩

/-! ### and, or, not -/
variable {tA tB' : TT} {rest : List Expr}
def tAnd (t u : TT) : TT := fun σ H Q => t σ H fun c H1 => if c = true then u σ H1 Q else Q false H1
def tOr (t u : TT) : TT := fun σ H Q => t σ H fun c H1 => if c = true then Q true H1 else u σ H1 Q
def tNot (t : TT) : TT := fun σ H Q => t σ H fun c H1 => Q (!c) H1
theorem pw_and1 (ha : PT X a tA) : PW X (.BoolOp .And [a] pos) tA := by
  intro wh pins s σ H Q I h
  refine isTrue_and (thn (ha pins s σ H Q I h) fun c s1 e => ?_)
  cases c with
  | true => exact isTrue_and_nil e
  | false => exact e
theorem pw_or1 (ha : PT X a tA) : PW X (.BoolOp .Or [a] pos) tA := by
  intro wh pins s σ H Q I h
  refine isTrue_or (thn (ha pins s σ H Q I h) fun c s1 e => ?_)
  cases c with
  | false => exact isTrue_or_nil e
  | true => exact e
theorem pw_and (ha : PT X a tA) (hb : PW X (.BoolOp .And (b :: rest) pos) tB') : PW X (.BoolOp .And (a :: b :: rest) pos) (tAnd tA tB') := by
  intro wh pins s σ H Q I h
  refine isTrue_and (thn (ha pins s σ H _ I h) fun c s1 ⟨H1, I1, q1⟩ => ?_)
  cases c with
  | true => exact hb wh pins s1 σ H1 Q I1 q1
  | false => exact ⟨H1, I1, q1⟩
theorem pw_or (ha : PT X a tA) (hb : PW X (.BoolOp .Or (b :: rest) pos) tB') : PW X (.BoolOp .Or (a :: b :: rest) pos) (tOr tA tB') := by
  intro wh pins s σ H Q I h
  refine isTrue_or (thn (ha pins s σ H _ I h) fun c s1 ⟨H1, I1, q1⟩ => ?_)
  cases c with
  | true => exact ⟨H1, I1, q1⟩
  | false => exact hb wh pins s1 σ H1 Q I1 q1
theorem pt_not (ha : PT X a tA) : PT X (.UnaryOp .Not a pos) (tNot tA) := by
  intro pins s σ H Q I h
  exact isTrue_not (ha pins s σ H (fun c H1 => Q (!c) H1) I h)
/-- .. as values (bools) -/
def tAndV (ta tb : TE) : TE := fun σ H Q => ta σ H fun x H1 => ∃ c, x = .bl c ∧ if c = true then tb σ H1 Q else Q (.bl false) H1
def tNotV (ta : TE) : TE := fun σ H Q => ta σ H fun x H1 => ∃ c, x = .bl c ∧ Q (.bl (!c)) H1
theorem pe_one {op} {t : TE} (h : PE X a t) : PE X (.BoolOp op [a] pos) t := fun pins s σ H Q I hw => BoolOp_one (h pins s σ H Q I hw)
theorem pe_and (ha : PE X a ta) (hb : PE X (.BoolOp .And (b :: rest) pos) tb) : PE X (.BoolOp .And (a :: b :: rest) pos) (tAndV ta tb) := by
  intro pins s σ H Q I h
  refine BoolOp_and (thn (ha pins s σ H _ I h) fun v s1 ⟨x, H1, I1, r1, q1⟩ => ?_)
  obtain ⟨c, rfl, q1⟩ := q1
  cases r1
  refine wpAny_truthy_bool ?_
  cases c with
  | true => exact hb pins s1 σ H1 Q I1 q1
  | false => exact ⟨.bl false, H1, I1, rfl, q1⟩
theorem pe_not (ha : PE X a ta) : PE X (.UnaryOp .Not a pos) (tNotV ta) := by
  intro pins s σ H Q I h
  refine UnaryOp_ (thn (ha pins s σ H _ I h) fun v s1 ⟨x, H1, I1, r1, q1⟩ => ?_)
  obtain ⟨c, rfl, q1⟩ := q1
  cases r1
  exact not_of (wpAny_truthy_bool ⟨.bl (!c), H1, I1, rfl, q1⟩)
/-- a if t else b -/
def tIf (t : TT) (ta tb : TE) : TE := fun σ H Q => t σ H fun c H1 => if c = true then ta σ H1 Q else tb σ H1 Q
theorem pe_ifExp {c : Expr} (hc : PT X c tA) (ha : PE X a ta) (hb : PE X b tb) : PE X (.IfExp c a b pos) (tIf tA ta tb) := by
  intro pins s σ H Q I h
  refine wpAny_IfExp (thn (hc pins s σ H _ I h) fun d s1 ⟨H1, I1, q1⟩ => ?_)
  cases d with
  | true => exact ha pins s1 σ H1 Q I1 q1
  | false => exact hb pins s1 σ H1 Q I1 q1
end
end L2

namespace L2
open PySem PySem.Spec PyProof.Rows

/-! ### a list, a tuple that is read: tracked, frozen, or an object of the module -/
def SqL (K : PySem.W.Frag) (H : Hp) (a : Addr) (xs : List V) : Prop :=
  Rd H a (.lst xs) ∨
    ∃ (o : Obj) (its : Array Value) (n : Nat), K.lookup a = some o ∧ o.cls = .type "list" ∧ o.dict = none ∧ o.data = .seq its n ∧ its.size ≤ sizeLine ∧ Vals xs its.toList
def SqT (K : PySem.W.Frag) (H : Hp) (a : Addr) (xs : List V) : Prop :=
  Rd H a (.tup xs) ∨
    ∃ (o : Obj) (its : Array Value) (n : Nat), K.lookup a = some o ∧ o.cls = .type "tuple" ∧ o.data = .seq its n ∧ its.size ≤ sizeLine ∧ Vals xs its.toList
def absV : Value → Option V
  | .none => some .non
  | .bool b => some (.bl b)
  | .int i _ => some (.int i)
  | .str x _ => some (.str x)
  | .bytes b _ => some (.byt b)
  | .float b _ => some (.flt b)
  | .ref a => some (.ref a)
  | .type n => some (.ty n)
  | _ => none
theorem RelV.abs {x : V} {u : Value} (r : RelV x u) : absV u = some x := by
  cases x with
  | non => cases r; rfl
  | bl _ => cases r; rfl
  | int _ => obtain ⟨t, rfl⟩ := r; rfl
  | str _ => obtain ⟨t, rfl⟩ := r; rfl
  | byt _ => obtain ⟨t, rfl⟩ := r; rfl
  | flt _ => obtain ⟨t, rfl⟩ := r; rfl
  | ref _ => cases r; rfl
  | ty _ => cases r; rfl
theorem RelV.inj {x y : V} {u : Value} (r : RelV x u) (q : RelV y u) : x = y := Option.some.inj (r.abs.symm.trans q.abs)
theorem Vals.inj : ∀ {xs ys : List V} {us : List Value}, Vals xs us → Vals ys us → xs = ys
  | _, _, _, .nil, .nil => rfl
  | _, _, _, .cons r t, .cons r' t' => by rw [r.inj r', Vals.inj t t']
section
variable {X : Cx} {pins : List (Addr × Obj)} {σ : St} {H : Hp} {s : Shared} {a : Addr} {xs ys : List V}
theorem SqL.of {K : PySem.W.Frag} (h : H a = some (.lst xs)) : SqL K H a xs := .inl (.inl h)
theorem SqT.of {K : PySem.W.Frag} (h : H a = some (.tup xs)) : SqT K H a xs := .inl (.inl h)
theorem Inv.list (I : Inv X pins σ H s) (h : SqL X.K H a xs) : ∃ its : List Value, Vals xs its ∧ PlainL s.heap a its.toArray ∧ xs.length ≤ sizeLine := by
  rcases h with h | ⟨o, its, n, hk, hc, hd, hs, hz, r⟩
  · obtain ⟨z, its, n, r, e⟩ := h.ok I.hok
    exact ⟨its, r, ⟨_, n, e, rfl, rfl, rfl⟩, z⟩
  · refine ⟨its.toList, r, ⟨o, n, I.kIn a o hk, hc, hd, by simpa using hs⟩, ?_⟩
    have e := r.length
    simp only [Array.length_toList] at e
    omega
theorem Inv.tuple (I : Inv X pins σ H s) (h : SqT X.K H a xs) : ∃ its : List Value, Vals xs its ∧ IsTup s.heap a its.toArray ∧ xs.length ≤ sizeLine := by
  rcases h with h | ⟨o, its, n, hk, hc, hs, hz, r⟩
  · obtain ⟨z, its, r, p⟩ := h.ok I.hok
    exact ⟨its, r, p, z⟩
  · refine ⟨its.toList, r, ⟨o, I.kIn a o hk, hc, n, by simpa using hs⟩, ?_⟩
    have e := r.length
    simp only [Array.length_toList] at e
    omega
theorem Inv.list_inj (I : Inv X pins σ H s) (h : SqL X.K H a xs) (h' : SqL X.K H a ys) : xs = ys := by
  obtain ⟨its, r, ⟨o, n, e, _, _, d⟩, _⟩ := I.list h
  obtain ⟨its', r', ⟨o', n', e', _, _, d'⟩, _⟩ := I.list h'
  rw [e] at e'; cases e'
  rw [d] at d'
  injection d' with d1 _
  have : its = its' := by simpa using congrArg Array.toList d1
  subst this
  exact r.inj r'
theorem Inv.tuple_inj (I : Inv X pins σ H s) (h : SqT X.K H a xs) (h' : SqT X.K H a ys) : xs = ys := by
  obtain ⟨its, r, ⟨o, e, _, n, d⟩, _⟩ := I.tuple h
  obtain ⟨its', r', ⟨o', e', _, n', d'⟩, _⟩ := I.tuple h'
  rw [e] at e'; cases e'
  rw [d] at d'
  injection d' with d1 _
  have : its = its' := by simpa using congrArg Array.toList d1
  subst this
  exact r.inj r'
end

/-! ### another wish about exceptions -/
abbrev Cx.wish (X : Cx) (E : Value → Shared → Prop) : Cx := { X with xe := E }
/-- no exception leaves -/
abbrev Cx.nox (X : Cx) : Cx := X.wish fun _ _ => False
theorem Cx.Ok.wish {X : Cx} (ok : X.Ok) (E : Value → Shared → Prop) : (X.wish E).Ok :=
  ⟨ok.mod, ok.kind, ok.glob, ok.blt, ok.above, ok.inj, ok.has, ok.cab, ok.hd, ok.frames, ok.stk, ok.exf, ok.bs, ok.bsz, ok.noex, ok.exfs, ok.funs, ok.frf⟩
theorem Cx.Ok.unwish {X : Cx} {E : Value → Shared → Prop} (ok : (X.wish E).Ok) : X.Ok :=
  ⟨ok.mod, ok.kind, ok.glob, ok.blt, ok.above, ok.inj, ok.has, ok.cab, ok.hd, ok.frames, ok.stk, ok.exf, ok.bs, ok.bsz, ok.noex, ok.exfs, ok.funs, ok.frf⟩
section
variable {X : Cx} {pins : List (Addr × Obj)} {σ : St} {H : Hp} {s : Shared} {E : Value → Shared → Prop}
theorem Inv.wish (I : Inv X pins σ H s) (E : Value → Shared → Prop) : Inv (X.wish E) pins σ H s := ⟨I.ok.wish E, I.os, I.bare, I.base, I.loc, I.cell, I.free, I.freeC, I.pin, I.hok, I.len⟩
theorem Inv.unwish (I : Inv (X.wish E) pins σ H s) : Inv X pins σ H s := ⟨I.ok.unwish, I.os, I.bare, I.base, I.loc, I.cell, I.free, I.freeC, I.pin, I.hok, I.len⟩
theorem SP.unwish {D : Ends} {f : Flow} {s' : Shared} (h : SP (X.wish E) pins D f s') : SP X pins D f s' := by
  cases f with
  | next => obtain ⟨σ', H', I, q⟩ := h; exact ⟨σ', H', I.unwish, q⟩
  | brk => obtain ⟨σ', H', I, q⟩ := h; exact ⟨σ', H', I.unwish, q⟩
  | cont => obtain ⟨σ', H', I, q⟩ := h; exact ⟨σ', H', I.unwish, q⟩
  | ret u => obtain ⟨v, σ', H', I, r, q⟩ := h; exact ⟨v, σ', H', I.unwish, r, q⟩
theorem PE.nox {e : Expr} {t : TE} (h : PE X.nox e t) : PE X e t := fun pins s σ H Q I hw =>
  wpAny_mono (h pins s σ H Q (I.wish _) hw) (fun _ _ ⟨v, H', I', r, q⟩ => ⟨v, H', I'.unwish, r, q⟩) fun _ _ z => False.elim z
theorem PT.nox {e : Expr} {t : TT} (h : PT X.nox e t) : PT X e t := fun pins s σ H Q I hw =>
  wpAny_mono (h pins s σ H Q (I.wish _) hw) (fun _ _ ⟨H', I', q⟩ => ⟨H', I'.unwish, q⟩) fun _ _ z => False.elim z
theorem PSs.nox {st : List Stmt} {t : TS} (h : PSs X.nox st t) : PSs X st t := fun pins s σ H D I hw =>
  wpAny_mono (h pins s σ H D (I.wish _) hw) (fun _ _ q => q.unwish) fun _ _ z => False.elim z
end

/-! ### blocks and small statements -/
section
variable {X : Cx} {st : Stmt} {rest : List Stmt} {t u : TS} {e : Expr} {te : TE} {pos : Pos}
def tNext : TS := fun D σ H => D.nx σ H
def tSeq (t u : TS) : TS := fun D σ H => t { D with nx := u D } σ H
theorem pss_nil : PSs X [] tNext := fun _ _ σ H _ I h => wpAny_execs_nil ⟨σ, H, I, h⟩
theorem pss_cons (h1 : PS X st t) (h2 : PSs X rest u) : PSs X (st :: rest) (tSeq t u) := by
  intro pins s σ H D I h
  refine wpAny_execs_cons (thn (h1 pins s σ H { D with nx := u D } I h) fun f s1 q => ?_)
  cases f with
  | next =>
    obtain ⟨σ', H', I', q⟩ := q
    exact h2 pins s1 σ' H' D I' q
  | ret v => exact q
  | brk => exact q
  | cont => exact q
theorem pss_one (h1 : PS X st t) : PSs X [st] t := by
  intro pins s σ H D I h
  refine wpAny_execs_cons (thn (h1 pins s σ H D I h) fun f s1 q => ?_)
  cases f with
  | next => exact wpAny_execs_nil q
  | ret v => exact q
  | brk => exact q
  | cont => exact q
/-- in a def's body nothing is shown -/
theorem Inv.quiet {pins : List (Addr × Obj)} {σ : St} {H : Hp} {s : Shared} (I : Inv X pins σ H s) : interactive X.env = false := by simp [interactive, I.ok.kind]
/-- an expression whose value is dropped -/
def tDrop (te : TE) : TS := fun D σ H => te σ H fun _ H1 => D.nx σ H1
theorem ps_expr (he : PE X e te) (hs : swapsWith e none pos.line X.env = pure false := by rfl) : PS X (.Expr e pos) (tDrop te) := by
  intro pins s σ H D I h
  exact wpAny_Expr_any (thn (he pins s σ H _ I h) fun v s1 ⟨x, H1, I1, r1, q1⟩ => ⟨σ, H1, I1, q1⟩) I.quiet hs
def tRet (te : TE) : TS := fun D σ H => te σ H D.rt
theorem ps_ret (he : PE X e te) : PS X (.Return (some e) pos) (tRet te) := by
  intro pins s σ H D I h
  exact wpAny_Return_some (thn (he pins s σ H _ I h) fun v s1 ⟨x, H1, I1, r1, q1⟩ => ⟨x, σ, H1, I1, r1, q1⟩)
def tIfS (c : TT) (t u : TS) : TS := fun D σ H => c σ H fun b H1 => if b = true then t D σ H1 else u D σ H1
theorem ps_if {c : Expr} {a b : List Stmt} {tc : TT} (hc : PT X c tc) (ha : PSs X a t) (hb : PSs X b u) : PS X (.If c a b pos) (tIfS tc t u) := by
  intro pins s σ H D I h
  refine wpAny_If (thn (hc pins s σ H _ I h) fun d s1 ⟨H1, I1, q1⟩ => ?_)
  cases d with
  | true => exact ha pins s1 σ H1 D I1 q1
  | false => exact hb pins s1 σ H1 D I1 q1
end

/-! ### targets -/
abbrev TG := V → St → Hp → (St → Hp → Prop) → Prop
abbrev TGs := List V → St → Hp → (St → Hp → Prop) → Prop
def PG (X : Cx) (target : Expr) (t : TG) : Prop :=
  ∀ (pins : List (Addr × Obj)) (s : Shared) (σ : St) (H : Hp) (v : V) (u : Value) (Q : St → Hp → Prop), Inv X pins σ H s → RelV v u → t v σ H Q →
    wpAny (model X.prog X.w) X.A (assign target X.env u) (fun _ s' => ∃ σ' H', Inv X pins σ' H' s' ∧ Q σ' H') X.xe s
/-- several targets, one after another -/
def PGs (X : Cx) (ts : List Expr) (t : TGs) : Prop :=
  ∀ (pins : List (Addr × Obj)) (s : Shared) (σ : St) (H : Hp) (vs : List V) (us : List Value) (Q : St → Hp → Prop), Inv X pins σ H s → Vals vs us → t vs σ H Q →
    wpAny (model X.prog X.w) X.A (assignInOrder ((assignEach ts X.env).map (·.2)) us) (fun _ s' => ∃ σ' H', Inv X pins σ' H' s' ∧ Q σ' H') X.xe s
/-- o[i] = v, by values -/
abbrev TSet := V → V → V → Hp → (Hp → Prop) → Prop
def PSet (X : Cx) (t : TSet) : Prop :=
  ∀ (pins : List (Addr × Obj)) (s : Shared) (σ : St) (H : Hp) (o i v : V) (ov iv u : Value) (Q : Hp → Prop), Inv X pins σ H s → RelV o ov → RelV i iv → RelV v u → t o i v H Q →
    wpAny (model X.prog X.w) X.A (setItem ov iv u) (fun _ s' => ∃ H', Inv X pins σ H' s' ∧ Q H') X.xe s
section
variable {X : Cx} {pos : Pos}
def gName (i : Nat) : TG := fun v σ H Q => Q (σ.set i (some v)) H
theorem pg_name {i : Nat} {x : Str} (hN : X.N.Nodup) (hi : X.N[i]? = some x) (hx : Loc X.env.scope x) (hf : X.fn x = true ∨ X.env.scope.names.lookup x = some .local := by first | exact .inl rfl | exact .inr rfl | assumption) : PG X (.Name x pos) (gName i) := by
  intro pins s σ H v u Q I r h
  exact wpAny_assign_Name (store_ok I hN hi hx r (fun s' I' => ⟨_, H, I', h⟩) hf)
def gNil : TGs := fun vs σ H Q => vs = [] ∧ Q σ H
def gCons (t : TG) (u : TGs) : TGs := fun vs σ H Q => ∃ v r, vs = v :: r ∧ t v σ H fun σ' H' => u r σ' H' Q
theorem pgs_nil : PGs X [] gNil := by
  intro pins s σ H vs us Q I r h
  obtain ⟨e, h⟩ := h
  subst e
  cases r
  exact assignInOrder_nil ⟨σ, H, I, h⟩
theorem pgs_cons {e : Expr} {es : List Expr} {t : TG} {u : TGs} (h1 : PG X e t) (h2 : PGs X es u)
    (hs : (assignEach (e :: es) X.env).map (·.2) = assign e X.env :: (assignEach es X.env).map (·.2) := by rfl) : PGs X (e :: es) (gCons t u) := by
  intro pins s σ H vs us Q I r h
  obtain ⟨v, vr, e1, h⟩ := h
  subst e1
  cases r with
  | cons r rr =>
    rw [hs]
    refine assignInOrder_cons (thn (h1 pins s σ H _ _ _ I r h) fun _ s1 ⟨σ1, H1, I1, q1⟩ => ?_)
    exact h2 pins s1 σ1 H1 _ _ Q I1 rr q1
/-- (a, b, ..) = a tuple of that length -/
def gTup (K : PySem.W.Frag) (n : Nat) (t : TGs) : TG := fun v σ H Q => ∃ a xs, v = .ref a ∧ SqT K H a xs ∧ xs.length = n ∧ t xs σ H Q
theorem pg_tup {es : List Expr} {k : Nat} {t : TGs} {n : Nat} (hc : X.calm = true) (h : PGs X es t)
    (hn : (assignEach es X.env).length = n := by rfl) (hst : (assignEach es X.env).findIdx? (·.1) = none := by rfl) : PG X (.Tuple es k pos) (gTup X.K n t) := by
  intro pins s σ H v u Q I r hw
  obtain ⟨a, xs, e1, hq, hl, hw⟩ := hw
  subst e1
  cases r
  obtain ⟨its, rv, ht, hz⟩ := I.tuple hq
  refine assign_Tuple_tuple (I.ok.hd hc) ht (by simp [hn, ← hl, rv.length]) hst fun h' hx => ?_
  have I1 : Inv X pins σ H { s with heap := h' } := I.kept (t' := s.toks) fun b o e => hx b o (Nat.ne_of_lt (Heap.lt_size e)) e
  exact h pins _ σ H xs _ Q I1 (by simpa using rv) hw
/-- o[i] = .. -/
def gSub (to ti : TE) (t : TSet) : TG := fun v σ H Q => to σ H fun o H1 => ti σ H1 fun i H2 => t o i v H2 fun H3 => Q σ H3
theorem pg_sub {o i : Expr} {to ti : TE} {t : TSet} (ho : PE X o to) (hi : PE X i ti) (hs : PSet X t)
    (ha : ∀ v, assign (.Subscript o i pos) X.env v = (do
      let ov ← holding [v] (eval o X.env)
      let iv ← holding [v, ov] (eval i X.env)
      standAt pos
      holding [v, ov, iv] (setItem ov iv v)
      release [v, ov, iv] []) := by intro _; rfl) : PG X (.Subscript o i pos) (gSub to ti t) := by
  intro pins s σ H v u Q I r h
  rw [ha]
  refine wpAny_bind (wpAny_holding (thn (ho pins s σ H _ I h) fun ov s1 ⟨x, H1, I1, r1, q1⟩ => ?_))
  refine wpAny_bind (wpAny_holding (thn (hi pins s1 σ H1 _ I1 q1) fun iv s2 ⟨y, H2, I2, r2, q2⟩ => ?_))
  refine wpAny_bind (wpAny_standAt (wpAny_bind (wpAny_holding (thn (hs pins s2 σ H2 x y v ov iv u _ I2 r1 r2 r q2) fun _ s3 ⟨H3, I3, q3⟩ => ?_))))
  exact wpAny_release ⟨σ, H3, I3, q3⟩
/-- target = value -/
def tAsg (te : TE) (g : TG) : TS := fun D σ H => te σ H fun x H1 => g x σ H1 D.nx
theorem ps_asg {tg e : Expr} {te : TE} {g : TG} (he : PE X e te) (hg : PG X tg g) (hs : swapsWithSole [tg] e pos.line X.env = pure false := by rfl) (hw : swappedStores [tg] e X.env = pure none := by rfl)
    (h1 : (assignEach [tg] X.env).map (·.2) = [assign tg X.env] := by rfl) : PS X (.Assign [tg] e pos) (tAsg te g) := by
  intro pins s σ H D I h
  refine wpAny_Assign_stores (thn (he pins s σ H _ I h) fun v s1 ⟨x, H1, I1, r1, q1⟩ => ?_) hs hw
  rw [h1]
  exact thn (hg pins s1 σ H1 x v _ I1 r1 q1) fun _ s2 q => q
/-- name = value -/
theorem ps_set {i : Nat} {x : Str} {e : Expr} {te : TE} {pos' : Pos} (hN : X.N.Nodup) (hi : X.N[i]? = some x) (hx : Loc X.env.scope x) (he : PE X e te) (hs : swapsWith e (some (.Name x pos')) pos.line X.env = pure false := by rfl) (hf : X.fn x = true ∨ X.env.scope.names.lookup x = some .local := by first | exact .inl rfl | exact .inr rfl | assumption) :
    PS X (.Assign [.Name x pos'] e pos) (tAsg te (gName i)) := by
  intro pins s σ H D I h
  refine wpAny_Assign_Name (thn (he pins s σ H _ I h) fun v s1 ⟨y, H1, I1, r1, q1⟩ => ?_) hs
  exact store_ok I1 hN hi hx r1 (fun s2 I2 => ⟨_, H1, I2, q1⟩) hf
end

/-! ### while -/
section
variable {X : Cx} {pos : Pos}
end

/-! ### what a loop or a comprehension walks -/
/-- at turn i: it yields x (the heap may grow), or it stops -/
structure It where
  go : Nat → Hp → Prop
  yld : Nat → Hp → V → Hp → Prop
  stop : Nat → Hp → Prop
/-- the iterator's own objects may turn: they are not the frame's, not pinned, younger than the entry (or a comprehension's own) -/
def FpOk (X : Cx) (pins : List (Addr × Obj)) (H : Hp) (b : Addr) : Prop :=
  H b = none ∧ b ≠ X.env.locals ∧ b ∉ X.fs ∧ (b ∈ X.ex ∨ X.s₀.heap.objs.size ≤ b) ∧ (∀ x c, X.env.cells.lookup x = some c → c ≠ b) ∧ ∀ p ∈ X.pn ++ pins, p.1 ≠ b
theorem Inv.fpOk {X : Cx} {pins : List (Addr × Obj)} {σ : St} {H H' : Hp} {s : Shared} {b : Addr} (I : Inv X pins σ H s) (hb : s.heap.objs.size ≤ b) (hn : H' b = none) : FpOk X pins H' b := by
  refine ⟨hn, Nat.ne_of_gt (Nat.lt_of_lt_of_le I.lt hb), I.nofs hb, .inr (Nat.le_trans I.sz hb), fun x c e z => ?_, fun p hp z => ?_⟩
  · obtain ⟨v, q⟩ := I.cell x c e
    exact absurd (Nat.lt_of_lt_of_le q.lt (by rw [z]; exact hb)) (Nat.lt_irrefl _)
  · exact absurd (Nat.lt_of_lt_of_le (Heap.lt_size (I.pin p hp).1) (by rw [z]; exact hb)) (Nat.lt_irrefl _)
structure Turn (P : Program) (w : World) (K : PySem.W.Frag) (tg : Expr) (J : It) (fp : List Addr) (it : Addr) (tn : Nat → Heap → Prop) : Prop where
  mem : it ∈ fp
  obj : ∀ i h, tn i h → ∀ b ∈ fp, ∃ o, h.get? b = some o ∧ ∀ v, o.data ≠ .cell v
  keep : ∀ i h h', tn i h → (∀ b ∈ fp, ∀ o, h.get? b = some o → h'.get? b = some o) → tn i h'
  item : ∀ (X : Cx), X.prog = P → X.w = w → X.K = K → X.calm = true → ∀ (i : Nat) (pins : List (Addr × Obj)) (s : Shared) (σ : St) (H : Hp) (E : Value → Shared → Prop), Inv X pins σ H s → (∀ b ∈ fp, FpOk X pins H b) → tn i s.heap → J.go i H →
    wpAny (model P w) X.A (pyNext (.ref it)) (fun r s1 => ∃ u, r = some u ∧
      wpAny (model P w) X.A (letOwnedTupleGo tg (.ref it) u) (fun _ s2 => ∃ x H', Inv X pins σ H' s2 ∧ RelV x u ∧ J.yld i H x H' ∧ tn (i + 1) s2.heap ∧ ∀ b ∈ fp, H' b = none) E s1) E s
  done : ∀ (X : Cx), X.prog = P → X.w = w → X.K = K → X.calm = true → ∀ (i : Nat) (pins : List (Addr × Obj)) (s : Shared) (σ : St) (H : Hp) (E : Value → Shared → Prop), Inv X pins σ H s → (∀ b ∈ fp, FpOk X pins H b) → tn i s.heap → J.stop i H →
    wpAny (model P w) X.A (pyNext (.ref it)) (fun r s1 => r = none ∧ Inv X pins σ H s1) E s
  self : ∀ (A : Around) (i : Nat) (s : Shared) (Q : Value → Shared → Prop) (E : Value → Shared → Prop), tn i s.heap → Q (.ref it) s → wpAny (model P w) A (pyIter (.ref it)) Q E s
abbrev TI := St → Hp → (It → Hp → Prop) → Prop
/-- an iterator has come -/
def PIE (X : Cx) (pins : List (Addr × Obj)) (σ : St) (tg : Expr) (R : It → Hp → Prop) (itv : Value) (s2 : Shared) : Prop :=
  ∃ (it : Addr) (fp : List Addr) (tn : Nat → Heap → Prop) (J : It) (H' : Hp), itv = .ref it ∧ Inv X pins σ H' s2 ∧ Turn X.prog X.w X.K tg J fp it tn ∧ tn 0 s2.heap ∧ (∀ b ∈ fp, FpOk X pins H' b) ∧ R J H'
def PI (X : Cx) (tg iter : Expr) (wi : TI) : Prop :=
  ∀ (pins : List (Addr × Obj)) (s : Shared) (σ : St) (H : Hp) (R : It → Hp → Prop), Inv X pins σ H s → wi σ H R →
    wpAny (model X.prog X.w) X.A (eval iter X.env) (fun v s1 => wpAny (model X.prog X.w) X.A (pyIter v) (PIE X pins σ tg R) X.xe s1) X.xe s

/-- the step ahead of the store is nothing for an iterator that keeps no tuple -/
theorem go_of {M : Model} {A : Around} {E : Value → Shared → Prop} {s : Shared} {tg : Expr} {it : Addr} {u : Value} {o : Obj} {n : String} {vs : Array Value} {Q : Unit → Shared → Prop} (ho : s.heap.get? it = some o) (hc : o.cls = .type n) (hd : o.data = .fields vs)
    (hn : ["enumerate", "zip", "dict_itemiterator", "dict_reverseitemiterator", "odict_iterator", "itertools.zip_longest", "itertools.pairwise"].contains n = false) (hQ : Q () s) : wpAny M A (letOwnedTupleGo tg (.ref it) u) Q E s := by
  unfold letOwnedTupleGo
  cases tg <;> first
    | exact wpAny_pure hQ
    | (cases u <;> first
        | exact wpAny_pure hQ
        | (refine wpAny_bind (wpAny_load ho ?_)
           rw [hc, hd]
           show wpAny M A (if (["enumerate", "zip", "dict_itemiterator", "dict_reverseitemiterator", "odict_iterator", "itertools.zip_longest", "itertools.pairwise"].contains n && vs[0]? == some (rawInt _)) = true then _ else _) Q E s
           rw [if_neg (by intro h; rw [hn, Bool.false_and] at h; cases h)]
           exact wpAny_pure hQ))

/-- the list at a, as it stands at each turn (a loop may append to it) -/
def Itl (K : PySem.W.Frag) (a : Addr) : It :=
  ⟨fun i H => ∃ xs x, SqL K H a xs ∧ xs[i]? = some x, fun i H x H' => H' = H ∧ ∀ xs, SqL K H a xs → xs[i]? = some x, fun i H => ∃ xs, SqL K H a xs ∧ xs.length ≤ i⟩
/-- lo, lo + 1, .. (n of them) -/
def Itr (lo : Int) (n : Nat) : It := ⟨fun i _ => i < n, fun i H x H' => H' = H ∧ x = .int (lo + i), fun i _ => n ≤ i⟩
theorem turn_list {P : Program} {w : World} {K : PySem.W.Frag} {tg : Expr} (a it : Addr) : Turn P w K tg (Itl K a) [it] it (fun i h => h.IsListIter it a i) where
  mem := by simp
  obj := fun i h st b hb => by
    have e : b = it := by simpa using hb
    subst e
    obtain ⟨o, e, c, d⟩ := st
    exact ⟨o, e, fun v z => by rw [d] at z; cases z⟩
  keep := fun i h h' st k => st.at fun o e => k it (by simp) o e
  item := by
    intro X hP hw hK hc i pins s σ H E I hf st hg
    subst hP hw hK
    obtain ⟨xs, x, hq, hx⟩ := hg
    obtain ⟨its, rv, p, hz⟩ := I.list hq
    obtain ⟨u, hu, ru⟩ := rv.get hx
    obtain ⟨f0, f1, f2, f3, f4, f5⟩ := hf it (by simp)
    refine wpAny_pyNext_list_item st p.isList (x := u) (by simpa using hu) fun h' st' sb => ?_
    have I1 : Inv X pins σ H { s with heap := h' } := I.turned (t' := s.toks) (fun b o hb e => (sb.2 b hb).trans e) f0 f1 f3 f4 f5
    obtain ⟨o, e, c, d⟩ := id st'
    exact ⟨u, rfl, go_of (s := { s with heap := h' }) e c d (by decide) ⟨x, H, I1, ru, ⟨rfl, fun ys hy => by rw [I.list_inj hy hq]; exact hx⟩, st', fun b hb => (hf b hb).1⟩⟩
  done := by
    intro X hP hw hK hc i pins s σ H E I hf st hg
    subst hP hw hK
    obtain ⟨xs, hq, hx⟩ := hg
    obtain ⟨its, rv, p, hz⟩ := I.list hq
    obtain ⟨f0, f1, f2, f3, f4, f5⟩ := hf it (by simp)
    have hl := rv.length
    exact wpAny_pyNext_list_end (I.ok.hd hc) st p.isList (by simp; omega) fun h' eb => ⟨rfl, I.turned (t' := s.toks) (fun b o hb e => eb b o hb e) f0 f1 f3 f4 f5⟩
  self := fun _ _ _ _ _ st h => wpAny_pyIter_listiter st h
theorem turn_range {P : Program} {w : World} {K : PySem.W.Frag} {tg : Expr} (it : Addr) (lo : Int) (n : Nat) : Turn P w K tg (Itr lo n) [it] it (fun i h => IsRangeIter h it (lo + (i : Nat) * 1) ((n : Int) - (i : Nat)) 1) where
  mem := by simp
  obj := fun i h st b hb => by
    have e : b = it := by simpa using hb
    subst e
    exact ⟨_, st, fun v z => by
      have z' : Data.fields _ = Data.cell v := z
      cases z'⟩
  keep := fun i h h' st k => k it (by simp) _ st
  item := by
    intro X hP hw hK hc i pins s σ H E I hf st hg
    subst hP hw hK
    obtain ⟨f0, f1, f2, f3, f4, f5⟩ := hf it (by simp)
    have W := Walks.range (prog := X.prog) (w := X.w) (I.ok.hd hc) it lo 1 n
    refine W.item i s _ _ hg st fun v h' tk hv st' kk => ?_
    obtain ⟨t, rfl⟩ := hv
    have I1 : Inv X pins σ H { s with heap := h', toks := tk } := I.turned (fun b o hb e => kk b o (by simpa using hb) e) f0 f1 f3 f4 f5
    refine ⟨_, rfl, go_of (s := { s with heap := h', toks := tk }) (n := "range_iterator") st' rfl rfl (by decide) ⟨.int (lo + i), H, I1, ⟨t, ?_⟩, ⟨rfl, rfl⟩, st', fun b hb => (hf b hb).1⟩⟩
    rw [Int.mul_one]
  done := by
    intro X hP hw hK hc i pins s σ H E I hf st hg
    subst hP hw hK
    obtain ⟨f0, f1, f2, f3, f4, f5⟩ := hf it (by simp)
    exact wpAny_pyNext_range_end (I.ok.hd hc) st (by have : n ≤ i := hg; omega) fun h' eb => ⟨rfl, I.turned (t' := s.toks) (fun b o hb e => eb b o hb e) f0 f1 f3 f4 f5⟩
  self := fun _ _ _ _ _ st h => wpAny_pyIter_rangeiter st h
end L2

namespace L2
open PySem PySem.Spec PyProof.Rows
section
variable {X : Cx} {tg : Expr}
def iList (K : PySem.W.Frag) (tl : TE) : TI := fun σ H R => tl σ H fun x H1 => ∃ a, x = .ref a ∧ (∃ xs, SqL K H1 a xs) ∧ R (Itl K a) H1
theorem pi_list {l : Expr} {tl : TE} (hl : PE X l tl) : PI X tg l (iList X.K tl) := by
  intro pins s σ H R I h
  refine thn (hl pins s σ H _ I h) fun v s1 ⟨x, H1, I1, r1, q1⟩ => ?_
  obtain ⟨a, e, ⟨xs, hq⟩, q⟩ := q1
  subst e
  cases r1
  obtain ⟨its, rv, p, hz⟩ := I1.list hq
  refine wpAny_pyIter_list p.isList ?_
  refine ⟨s1.heap.objs.size, [s1.heap.objs.size], _, _, H1, rfl, I1.kept (t' := s1.toks) fun b o e => Heap.get?_push_of_some _ e, turn_list a _, ⟨_, Heap.get?_push_size _ rfl, rfl, rfl⟩, fun b hb => ?_, q⟩
  have e : b = s1.heap.objs.size := by simpa using hb
  subst e
  exact I1.fpOk (Nat.le_refl _) (I1.hok.fresh (Nat.le_refl _))
/-- a range object just made, walked -/
theorem range_it {pins : List (Addr × Obj)} {σ : St} {H : Hp} {s : Shared} {R : It → Hp → Prop} {E : Value → Shared → Prop} {lo hi : Int} {t u v : Tok} {tk : Nat} (I : Inv X pins σ H s) (h1 : -(2 ^ 62) ≤ lo) (h2 : lo < 2 ^ 62) (h3 : -(2 ^ 62) ≤ hi) (h4 : hi < 2 ^ 62)
    (q : R (Itr lo (hi - lo).toNat) H) : wpAny (model X.prog X.w) X.A (pyIter (.ref s.heap.objs.size)) (PIE X pins σ tg R) E { s with heap := s.heap.push { cls := .type "range", data := .fields #[.int lo t, .int hi u, .int 1 v] }, toks := tk } := by
  refine wpAny_pyIter_range (IsRange.new ..) (small_one h1 h2 h3 h4) ?_
  have I1 : Inv X pins σ H { s with heap := s.heap.push { cls := .type "range", data := .fields #[.int lo t, .int hi u, .int 1 v] }, toks := tk } := I.kept fun b o e => Heap.get?_push_of_some _ e
  refine ⟨(s.heap.push { cls := .type "range", data := .fields #[.int lo t, .int hi u, .int 1 v] }).objs.size, [(s.heap.push { cls := .type "range", data := .fields #[.int lo t, .int hi u, .int 1 v] }).objs.size], _, _, H, rfl,
    I1.kept (t' := tk) fun b o e => Heap.get?_push_of_some _ e, turn_range _ lo (hi - lo).toNat, ?_, fun b hb => ?_, q⟩
  · have e1 : lo + ((0 : Nat) : Int) * 1 = lo := by simp
    have e2 : (((hi - lo).toNat : Nat) : Int) - ((0 : Nat) : Int) = Builtin.Range.rangeSize lo hi 1 := by rw [rangeSize_one]; split <;> omega
    show IsRangeIter _ _ (lo + ((0 : Nat) : Int) * 1) ((((hi - lo).toNat : Nat) : Int) - ((0 : Nat) : Int)) 1
    rw [e1, e2]
    exact Heap.get?_push_size _ rfl
  · have e : b = (s.heap.push { cls := .type "range", data := .fields #[.int lo t, .int hi u, .int 1 v] }).objs.size := by simpa using hb
    subst e
    exact I1.fpOk (Nat.le_refl _) (I1.hok.fresh (Nat.le_refl _))
def iRng1 (ta : TA) : TI := fun σ H R => ta σ H fun vs H1 => ∃ j : Int, vs = [.int j] ∧ -(2 ^ 62) ≤ j ∧ j < 2 ^ 62 ∧ R (Itr 0 j.toNat) H1
theorem pi_range1 {a : Expr} {ta : TA} {p pos : Pos} (hg : Gl X "range") (hm : X.mg "range" = none) (ha : PA X [a] ta) (hs : starEach [a] X.env = [(false, eval a X.env)] := by rfl) : PI X tg (.Call (.Name "range" p) [a] [] pos) (iRng1 ta) := by
  intro pins s σ H R I h
  refine Call_ (ld_blt I hg hm boot_range (PyProof.Rows.callWith_type1 (thn (ha pos pins s σ H _ I h) fun us s1 ⟨vs, H1, I1, r1, q1⟩ => ?_) hs rfl))
  obtain ⟨j, e, q1, q2, q⟩ := q1
  subst e
  cases r1 with
  | cons r rr =>
    cases rr
    obtain ⟨t, rfl⟩ := r
    exact call_range_1 (range_it I1 (by omega) (by omega) q1 q2 (by simpa using q))
/-! ### for -/
/-- W: the invariant by the turn and a measure; N: what the body is to reach -/
def tFor (wi : TI) (g : TG) (tb : TS) : TS := fun D σ H => wi σ H fun J H1 => ∃ W : Nat → Nat → St → Hp → Prop, (∃ m, W 0 m σ H1) ∧ ∀ i m σ H, W i m σ H →
  (J.stop i H ∧ D.nx σ H) ∨ (J.go i H ∧ ∃ N : St → Hp → Prop, (∀ σ' H', N σ' H' → ∃ m', m' < m ∧ W (i + 1) m' σ' H') ∧ ∀ x H', J.yld i H x H' → g x σ H' fun σ2 H2 => tb { D with nx := N, ct := N, bk := D.nx } σ2 H2)
/-- the records at fp as they stand -/
def pinsAt (fp : List Addr) (h : Heap) : List (Addr × Obj) := fp.filterMap fun b => (h.get? b).map fun o => (b, o)
theorem mem_pinsAt {fp : List Addr} {h : Heap} {b : Addr} {o : Obj} (hb : b ∈ fp) (e : h.get? b = some o) : (b, o) ∈ pinsAt fp h := List.mem_filterMap.mpr ⟨b, hb, by rw [e]; rfl⟩
theorem of_pinsAt {fp : List Addr} {h : Heap} {p : Addr × Obj} (hp : p ∈ pinsAt fp h) : p.1 ∈ fp ∧ h.get? p.1 = some p.2 := by
  obtain ⟨b, hb, e⟩ := List.mem_filterMap.mp hp
  cases q : h.get? b with
  | none => rw [q] at e; cases e
  | some o =>
    rw [q] at e
    have e' : (b, o) = p := Option.some.inj e
    subst e'
    exact ⟨hb, q⟩
theorem Inv.pinned {pins : List (Addr × Obj)} {σ : St} {H : Hp} {s : Shared} {fp : List Addr} (I : Inv X pins σ H s) (hf : ∀ b ∈ fp, FpOk X pins H b) (ho : ∀ b ∈ fp, ∃ o, s.heap.get? b = some o ∧ ∀ v, o.data ≠ .cell v) : Inv X (pins ++ pinsAt fp s.heap) σ H s :=
  I.pins_of fun p hp => (List.mem_append.mp hp).elim (fun z => I.pin p (List.mem_append_right _ z)) fun z => by
    obtain ⟨hb, e⟩ := of_pinsAt z
    obtain ⟨f0, f1, f2, _⟩ := hf p.1 hb
    obtain ⟨o, e', d⟩ := ho p.1 hb
    rw [e] at e'; cases e'
    exact ⟨e, f0, f1, f2, d⟩
theorem Inv.unpinned {pins pl : List (Addr × Obj)} {σ : St} {H : Hp} {s : Shared} (I : Inv X (pins ++ pl) σ H s) : Inv X pins σ H s := I.pins_of fun p hp => I.pin p (List.mem_append_right _ (List.mem_append_left _ hp))
theorem ps_for {iter : Expr} {body : List Stmt} {wi : TI} {g : TG} {tb : TS} {pos : Pos} (hp : PassesOwn (model X.prog X.w) X.A X.env X.xe) (hc : X.calm = true) (hi : PI X tg iter wi) (hg : PG X tg g) (hb : PSs X body tb)
    (hs : ∀ x, foldedSetIterable iter X.env x = pure x := by intro _; rfl) : PS X (.For tg iter body [] pos) (tFor wi g tb) := by
  intro pins s σ H D I h
  refine wpAny_For (thn (hi pins s σ H _ I h) fun v s1 h1 => thn h1 fun itv s2 h2 => ?_) hs
  obtain ⟨it, fp, tn, J, H2, e, I2, T, st2, f2, W, ⟨m0, w0⟩, turn⟩ := h2
  subst e
  -- what stays true of the iterator's objects through the loop
  have stat : ∀ {H' : Hp}, (∀ b ∈ fp, H' b = none) → ∀ b ∈ fp, FpOk X pins H' b := fun hn b hb => ⟨hn b hb, (f2 b hb).2⟩
  refine codeAny_forLoop_any (fun n s' => ∃ i σ' H', Inv X pins σ' H' s' ∧ tn i s'.heap ∧ (∀ b ∈ fp, H' b = none) ∧ W i n σ' H') ?_ m0 ⟨0, σ, H2, I2, st2, fun b hb => (f2 b hb).1, w0⟩
  rintro n s3 ⟨i, σ3, H3, I3, st3, fr3, w3⟩
  rcases turn i n σ3 H3 w3 with ⟨stop, qn⟩ | ⟨go, N, hN, step⟩
  · refine wpAny_passesOwn hp (thn (T.done X rfl rfl rfl hc i pins s3 σ3 H3 X.xe I3 (stat fr3) st3 stop) fun r s4 ⟨hr, I4⟩ => ?_)
    subst hr
    exact wpAny_execs_nil ⟨σ3, H3, I4, qn⟩
  · refine wpAny_passesOwn hp (thn (T.item X rfl rfl rfl hc i pins s3 σ3 H3 X.xe I3 (stat fr3) st3 go) fun r s4 ⟨u, hr, h4⟩ => ?_)
    subst hr
    refine wpAny_passesOwn hp (thn h4 fun _ s5 ⟨x, H5, I5, r5, y5, st5, fr5⟩ => ?_)
    have I5' := I5.pinned (stat fr5) (T.obj _ _ st5)
    refine wpAny_passesOwn hp (thn (hg _ s5 σ3 H5 x u _ I5' r5 (step x H5 y5)) fun _ s6 ⟨σ6, H6, I6, q6⟩ => ?_)
    refine wpAny_passesOwn hp (thn (hb _ s6 σ6 H6 _ I6 q6) fun f s7 q7 => ?_)
    have again : ∀ {σ7 : St} {H7 : Hp}, Inv X (pins ++ pinsAt fp s5.heap) σ7 H7 s7 → N σ7 H7 → ∃ m, m < n ∧ ∃ i σ' H', Inv X pins σ' H' s7 ∧ tn i s7.heap ∧ (∀ b ∈ fp, H' b = none) ∧ W i m σ' H' := fun {σ7 H7} I7 n7 => by
      obtain ⟨m', hm, w7⟩ := hN σ7 H7 n7
      refine ⟨m', hm, i + 1, σ7, H7, I7.unpinned, T.keep _ _ _ st5 fun b hb o e => (I7.pin (b, o) (List.mem_append_right _ (List.mem_append_right _ (mem_pinsAt hb e)))).1, fun b hb => ?_, w7⟩
      obtain ⟨o, e, d⟩ := T.obj _ _ st5 b hb
      exact (I7.pin (b, o) (List.mem_append_right _ (List.mem_append_right _ (mem_pinsAt hb e)))).2.1
    cases f with
    | next => obtain ⟨σ7, H7, I7, n7⟩ := q7; exact again I7 n7
    | cont => obtain ⟨σ7, H7, I7, n7⟩ := q7; exact again I7 n7
    | brk => obtain ⟨σ7, H7, I7, q7⟩ := q7; exact ⟨σ7, H7, I7.unpinned, q7⟩
    | ret v => obtain ⟨x7, σ7, H7, I7, r7, q7⟩ := q7; exact ⟨x7, σ7, H7, I7.unpinned, r7, q7⟩
end

/-! ### the forms one uses -/
/-- over a list that the body leaves as it is -/
theorem for_list {K : PySem.W.Frag} {a : Addr} {xs : List V} {g : TG} {tb : TS} {D : Ends} {σ : St} {H : Hp} (Pv : Nat → St → Hp → Prop) (h0 : Pv 0 σ H) (hl : ∀ i σ H, i ≤ xs.length → Pv i σ H → SqL K H a xs)
    (hs : ∀ i x σ H, xs[i]? = some x → Pv i σ H → g x σ H fun σ2 H2 => tb { D with nx := Pv (i + 1), ct := Pv (i + 1), bk := D.nx } σ2 H2) (hd : ∀ σ H, Pv xs.length σ H → D.nx σ H) :
    ∃ W : Nat → Nat → St → Hp → Prop, (∃ m, W 0 m σ H) ∧ ∀ i m σ H, W i m σ H →
      ((Itl K a).stop i H ∧ D.nx σ H) ∨ ((Itl K a).go i H ∧ ∃ N : St → Hp → Prop, (∀ σ' H', N σ' H' → ∃ m', m' < m ∧ W (i + 1) m' σ' H') ∧ ∀ x H', (Itl K a).yld i H x H' → g x σ H' fun σ2 H2 => tb { D with nx := N, ct := N, bk := D.nx } σ2 H2) := by
  refine ⟨fun i m σ H => m = xs.length - i ∧ i ≤ xs.length ∧ Pv i σ H, ⟨xs.length, by simp, Nat.zero_le _, h0⟩, ?_⟩
  rintro i m σ H ⟨rfl, hi, p⟩
  have q := hl i σ H hi p
  by_cases hlt : i < xs.length
  · refine .inr ⟨⟨xs, xs[i], q, by simp [hlt]⟩, Pv (i + 1), fun σ' H' p' => ⟨xs.length - (i + 1), by omega, rfl, hlt, p'⟩, fun x H' y => ?_⟩
    obtain ⟨e, y⟩ := y
    subst e
    exact hs i x σ _ (y xs q) p
  · have e : i = xs.length := by omega
    subst e
    exact .inl ⟨⟨xs, q, Nat.le_refl _⟩, hd σ H p⟩
theorem for_range {lo : Int} {n : Nat} {g : TG} {tb : TS} {D : Ends} {σ : St} {H : Hp} (Pv : Nat → St → Hp → Prop) (h0 : Pv 0 σ H)
    (hs : ∀ i σ H, i < n → Pv i σ H → g (.int (lo + i)) σ H fun σ2 H2 => tb { D with nx := Pv (i + 1), ct := Pv (i + 1), bk := D.nx } σ2 H2) (hd : ∀ σ H, Pv n σ H → D.nx σ H) :
    ∃ W : Nat → Nat → St → Hp → Prop, (∃ m, W 0 m σ H) ∧ ∀ i m σ H, W i m σ H →
      ((Itr lo n).stop i H ∧ D.nx σ H) ∨ ((Itr lo n).go i H ∧ ∃ N : St → Hp → Prop, (∀ σ' H', N σ' H' → ∃ m', m' < m ∧ W (i + 1) m' σ' H') ∧ ∀ x H', (Itr lo n).yld i H x H' → g x σ H' fun σ2 H2 => tb { D with nx := N, ct := N, bk := D.nx } σ2 H2) := by
  refine ⟨fun i m σ H => m = n - i ∧ i ≤ n ∧ Pv i σ H, ⟨n, by simp, Nat.zero_le _, h0⟩, ?_⟩
  rintro i m σ H ⟨rfl, hi, p⟩
  by_cases hlt : i < n
  · refine .inr ⟨hlt, Pv (i + 1), fun σ' H' p' => ⟨n - (i + 1), by omega, rfl, hlt, p'⟩, fun x H' y => ?_⟩
    obtain ⟨e, y⟩ := y
    subst e y
    exact hs i σ _ hlt p
  · have e : i = n := by omega
    subst e
    exact .inl ⟨Nat.le_refl _, hd σ H p⟩
end L2

namespace L2
open PySem PySem.Spec PyProof.Rows

abbrev R2 := V → V → Hp → VK → Prop
/-- a two-place operation on values: f is binaryOp op, inplaceOp op or compareOp op -/
def OpR (X : Cx) (f : Value → Value → Sem Value) (r : R2) : Prop :=
  ∀ (pins : List (Addr × Obj)) (s : Shared) (σ : St) (H : Hp) (x y : V) (v u : Value) (Q : VK), Inv X pins σ H s → RelV x v → RelV y u → r x y H Q →
    wpAny (model X.prog X.w) X.A (f v u) (EP X pins σ Q) X.xe s
/-- a one-place operation -/
def UnR (X : Cx) (f : Value → Sem Value) (r : V → Hp → VK → Prop) : Prop :=
  ∀ (pins : List (Addr × Obj)) (s : Shared) (σ : St) (H : Hp) (x : V) (v : Value) (Q : VK), Inv X pins σ H s → RelV x v → r x H Q →
    wpAny (model X.prog X.w) X.A (f v) (EP X pins σ Q) X.xe s
/-- a call of a value that is known (a builtin, a type) with values -/
def CallR (X : Cx) (f : Value) (r : List V → Hp → VK → Prop) : Prop :=
  ∀ (pins : List (Addr × Obj)) (s : Shared) (σ : St) (H : Hp) (xs : List V) (us : List Value) (Q : VK), Inv X pins σ H s → Vals xs us → r xs H Q →
    wpAny (model X.prog X.w) X.A (call f us) (EP X pins σ Q) X.xe s
def tOp (r : R2) (ta tb : TE) : TE := fun σ H Q => ta σ H fun x H1 => tb σ H1 fun y H2 => r x y H2 Q
def tUn (r : V → Hp → VK → Prop) (ta : TE) : TE := fun σ H Q => ta σ H fun x H1 => r x H1 Q
/-- ints in, under C, and a value out -/
def rI (C : Int → Int → Prop) (g : Int → Int → V) : R2 := fun x y H Q => ∃ i j, x = .int i ∧ y = .int j ∧ C i j ∧ Q (g i j) H
def rI0 (g : Int → Int → V) : R2 := fun x y H Q => ∃ i j, x = .int i ∧ y = .int j ∧ Q (g i j) H
def rU (g : Int → V) : V → Hp → VK → Prop := fun x H Q => ∃ i, x = .int i ∧ Q (g i) H

section
variable {X : Cx} {a b c : Expr} {ta tb tc : TE} {pos : Pos}

theorem binT (ha : PE X a ta) (hb : PE X b tb) {pins : List (Addr × Obj)} {s : Shared} {σ : St} {H : Hp} {R : V → V → Hp → Prop} (I : Inv X pins σ H s)
    (h : ta σ H fun x H1 => tb σ H1 fun y H2 => R x y H2) {Q : Value → Shared → Prop} {f : Value → Value → Sem Value}
    (hf : ∀ v u s2 x y H2, Inv X pins σ H2 s2 → RelV x v → RelV y u → R x y H2 → wpAny (model X.prog X.w) X.A (f v u) Q X.xe s2) :
    wpAny (model X.prog X.w) X.A (eval a X.env) (fun v s₁ => wpAny (model X.prog X.w) X.A (eval b X.env) (fun u s₂ => wpAny (model X.prog X.w) X.A (f v u) Q X.xe s₂) X.xe s₁) X.xe s := by
  refine thn (ha pins s σ H _ I h) fun v s1 ⟨x, H1, I1, r1, q1⟩ => ?_
  refine thn (hb pins s1 σ H1 _ I1 q1) fun u s2 ⟨y, H2, I2, r2, q2⟩ => ?_
  exact hf v u s2 x y H2 I2 r1 r2 q2

theorem pe_op {op : Operator} {r : R2} (ho : OpR X (binaryOp op) r) (ha : PE X a ta) (hb : PE X b tb) : PE X (.BinOp a op b pos) (tOp r ta tb) := by
  intro pins s σ H Q I h
  exact wpAny_BinOp (binT ha hb I h fun v u s2 x y H2 I2 rx ry q => ho pins s2 σ H2 x y v u Q I2 rx ry q)
theorem pe_un {op : UnaryOp} {r : V → Hp → VK → Prop} (ho : UnR X (unaryOp op) r) (ha : PE X a ta) : PE X (.UnaryOp op a pos) (tUn r ta) := by
  intro pins s σ H Q I h
  exact UnaryOp_ (thn (ha pins s σ H _ I h) fun v s1 ⟨x, H1, I1, r1, q1⟩ => ho pins s1 σ H1 x v Q I1 r1 q1)
/-! ### ints -/
theorem opI {f : Value → Value → Sem Value} {C : Int → Int → Prop} {g : Int → Int → Int}
    (rule : ∀ (i j : Int) (t u : Tok) (s : Shared) (Q : Value → Shared → Prop) (E : Value → Shared → Prop), C i j → Q (.int (g i j) s.toks) { s with toks := s.toks + 1 } → wpAny (model X.prog X.w) X.A (f (.int i t) (.int j u)) Q E s) :
    OpR X f (rI C fun i j => .int (g i j)) := by
  intro pins s σ H x y v u Q I rx ry h
  obtain ⟨i, j, rfl, rfl, hc, q⟩ := h
  obtain ⟨t, rfl⟩ := rx
  obtain ⟨t', rfl⟩ := ry
  exact rule i j t t' s _ _ hc ⟨.int (g i j), H, I.tok _, ⟨_, rfl⟩, q⟩
theorem opI0 {f : Value → Value → Sem Value} {g : Int → Int → Int}
    (rule : ∀ (i j : Int) (t u : Tok) (s : Shared) (Q : Value → Shared → Prop) (E : Value → Shared → Prop), Q (.int (g i j) s.toks) { s with toks := s.toks + 1 } → wpAny (model X.prog X.w) X.A (f (.int i t) (.int j u)) Q E s) :
    OpR X f (rI0 fun i j => .int (g i j)) := by
  intro pins s σ H x y v u Q I rx ry h
  obtain ⟨i, j, rfl, rfl, q⟩ := h
  obtain ⟨t, rfl⟩ := rx
  obtain ⟨t', rfl⟩ := ry
  exact rule i j t t' s _ _ ⟨.int (g i j), H, I.tok _, ⟨_, rfl⟩, q⟩
theorem opB0 {f : Value → Value → Sem Value} {g : Int → Int → Bool}
    (rule : ∀ (i j : Int) (t u : Tok) (s : Shared) (Q : Value → Shared → Prop) (E : Value → Shared → Prop), Q (.bool (g i j)) s → wpAny (model X.prog X.w) X.A (f (.int i t) (.int j u)) Q E s) :
    OpR X f (rI0 fun i j => .bl (g i j)) := by
  intro pins s σ H x y v u Q I rx ry h
  obtain ⟨i, j, rfl, rfl, q⟩ := h
  obtain ⟨t, rfl⟩ := rx
  obtain ⟨t', rfl⟩ := ry
  exact rule i j t t' s _ _ ⟨.bl (g i j), H, I, rfl, q⟩

def CDiv (i j : Int) : Prop := 0 < j ∧ j < 1073741824
def CMul (i j : Int) : Prop := (-(2 ^ 64) < i ∧ i < 2 ^ 64) ∨ (-(2 ^ 64) < j ∧ j < 2 ^ 64)
theorem CMul.ok {i j : Int} (h : CMul i j) : IntMulOk i j := by
  rcases h with ⟨h1, h2⟩ | ⟨h1, h2⟩
  · exact .of_left (intBits_le_64 h1 h2)
  · exact .of_right (intBits_le_64 h1 h2)
theorem op_add : OpR X (binaryOp .Add) (rI0 fun i j => .int (i + j)) := opI0 fun _ _ _ _ _ _ _ q => add_int q
theorem op_sub : OpR X (binaryOp .Sub) (rI0 fun i j => .int (i - j)) := opI0 fun _ _ _ _ _ _ _ q => sub_int q
theorem op_mul : OpR X (binaryOp .Mult) (rI CMul fun i j => .int (i * j)) := opI fun _ _ _ _ _ _ _ hc q => mul_int q hc.ok
/-- // by a positive divisor -/
theorem op_fdiv : OpR X (binaryOp .FloorDiv) (rI CDiv fun i j => .int (i / j)) := opI fun i j _ _ _ _ _ hc q => by
  have h1 : (0 : Int) < j := hc.1
  have h2 : j < 1073741824 := hc.2
  exact floordiv_int (by omega) (by rw [Int.fdiv_eq_ediv_of_nonneg i (by omega)]; exact q) (.inl (PyProof.noPylong_small (by omega)))
/-- % by a positive divisor of any size -/
theorem op_mod : OpR X (binaryOp .Mod) (rI (fun _ j => 0 < j) fun i j => .int (i % j)) := opI fun i j _ _ _ _ _ hc q => by
  have h1 : (0 : Int) < j := hc
  exact mod_int' (by omega) (by rw [Int.fmod_eq_emod_of_nonneg i (by omega)]; exact q)
theorem unI {f : Value → Sem Value} {g : Int → Int}
    (rule : ∀ (i : Int) (t : Tok) (s : Shared) (Q : Value → Shared → Prop) (E : Value → Shared → Prop), Q (.int (g i) s.toks) { s with toks := s.toks + 1 } → wpAny (model X.prog X.w) X.A (f (.int i t)) Q E s) :
    UnR X f (rU fun i => .int (g i)) := by
  intro pins s σ H x v Q I rx h
  obtain ⟨i, rfl, q⟩ := h
  obtain ⟨t, rfl⟩ := rx
  exact rule i t s _ _ ⟨.int (g i), H, I.tok _, ⟨_, rfl⟩, q⟩
theorem un_neg : UnR X (unaryOp .USub) (rU fun i => .int (-i)) := unI fun _ _ _ _ _ q => neg_int q
/-! ### bools among ints: n += (a < b) -/
end

/-! ### comparisons -/
/-- the scalars that == tells apart as data does -/
def scal : V → V → Bool
  | .non, .non => true | .non, .int _ => true | .int _, .non => true | .non, .bl _ => true | .bl _, .non => true | .non, .str _ => true | .str _, .non => true
  | .int _, .int _ => true | .bl _, .bl _ => true | .str _, .str _ => true | .byt _, .byt _ => true
  | .int _, .str _ => true | .str _, .int _ => true | .bl _, .str _ => true | .str _, .bl _ => true
  | _, _ => false
def rEq : R2 := fun x y H Q => scal x y = true ∧ Q (.bl (decide (x = y))) H
def rNe : R2 := fun x y H Q => scal x y = true ∧ Q (.bl (!decide (x = y))) H

theorem dec_int {i j : Int} : decide (V.int i = V.int j) = (i == j) := by
  rw [Bool.eq_iff_iff]
  simp
theorem dec_bl {i j : Bool} : decide (V.bl i = V.bl j) = (i == j) := by
  rw [Bool.eq_iff_iff]
  simp
theorem dec_str {i j : Str} : decide (V.str i = V.str j) = (i == j) := by
  rw [Bool.eq_iff_iff]
  simp
theorem dec_byt {i j : Array UInt8} : decide (V.byt i = V.byt j) = (i.toList == j.toList) := by
  rw [Bool.eq_iff_iff]
  cases i
  cases j
  simp

section
variable {X : Cx} {a b c : Expr} {ta tb tc : TE} {pos : Pos}
theorem fin_bl {pins : List (Addr × Obj)} {σ : St} {H : Hp} {s : Shared} {Q : VK} {k k' : Bool} (I : Inv X pins σ H s) (q : Q (.bl k) H) (e : k = k') : EP X pins σ Q (.bool k') s := by
  subst e
  exact ⟨.bl k, H, I, rfl, q⟩
theorem op_eq : OpR X (compareOp .Eq) rEq := by
  intro pins s σ H x y v u Q I rx ry h
  obtain ⟨hs, q⟩ := h
  cases x with
  | non =>
    cases rx
    cases y with
    | non => cases ry; exact PySem.EqNone.eq_none_none (fin_bl I q (by simp))
    | bl j => cases ry; exact PySem.EqNone.eq_none_bool (fin_bl I q (by simp))
    | int j => obtain ⟨t', rfl⟩ := ry; exact PySem.EqNone.eq_none_int (fin_bl I q (by simp))
    | str j => obtain ⟨t', rfl⟩ := ry; exact PySem.EqNone.eq_none_str (fin_bl I q (by simp))
    | _ => exact absurd (show false = true from hs) Bool.false_ne_true
  | bl i =>
    cases rx
    cases y with
    | non => cases ry; exact PySem.EqNone.eq_bool_none (fin_bl I q (by simp))
    | bl j => cases ry; exact eq_bool (fin_bl I q dec_bl)
    | str j => obtain ⟨t', rfl⟩ := ry; exact PySem.EqMixed.eq_bool_str (fin_bl I q (by simp))
    | _ => exact absurd (show false = true from hs) Bool.false_ne_true
  | int i =>
    obtain ⟨t, rfl⟩ := rx
    cases y with
    | non => cases ry; exact PySem.EqNone.eq_int_none (fin_bl I q (by simp))
    | int j => obtain ⟨t', rfl⟩ := ry; exact eq_int (fin_bl I q dec_int)
    | str j => obtain ⟨t', rfl⟩ := ry; exact PySem.EqMixed.eq_int_str (fin_bl I q (by simp))
    | _ => exact absurd (show false = true from hs) Bool.false_ne_true
  | str i =>
    obtain ⟨t, rfl⟩ := rx
    cases y with
    | non => cases ry; exact PySem.EqNone.eq_str_none (fin_bl I q (by simp))
    | bl j => cases ry; exact PySem.EqMixed.eq_str_bool (fin_bl I q (by simp))
    | int j => obtain ⟨t', rfl⟩ := ry; exact PySem.EqMixed.eq_str_int (fin_bl I q (by simp))
    | str j => obtain ⟨t', rfl⟩ := ry; exact eq_str (fin_bl I q dec_str)
    | _ => exact absurd (show false = true from hs) Bool.false_ne_true
  | byt i =>
    obtain ⟨t, rfl⟩ := rx
    cases y with
    | byt j => obtain ⟨t', rfl⟩ := ry; exact PySem.W.eq_bytes (fin_bl I q dec_byt)
    | _ => exact absurd (show false = true from hs) Bool.false_ne_true
  | _ => cases y <;> exact absurd (show false = true from hs) Bool.false_ne_true
theorem op_ne : OpR X (compareOp .NotEq) rNe := by
  intro pins s σ H x y v u Q I rx ry h
  obtain ⟨hs, q⟩ := h
  cases x with
  | non =>
    cases rx
    cases y with
    | non => cases ry; exact PySem.EqNone.ne_none_none (fin_bl I q (by simp))
    | bl j => cases ry; exact PySem.EqNone.ne_none_bool (fin_bl I q (by simp))
    | int j => obtain ⟨t', rfl⟩ := ry; exact PySem.EqNone.ne_none_int (fin_bl I q (by simp))
    | str j => obtain ⟨t', rfl⟩ := ry; exact PySem.EqNone.ne_none_str (fin_bl I q (by simp))
    | _ => exact absurd (show false = true from hs) Bool.false_ne_true
  | bl i =>
    cases rx
    cases y with
    | non => cases ry; exact PySem.EqNone.ne_bool_none (fin_bl I q (by simp))
    | bl j => cases ry; exact ne_bool (fin_bl I q (congrArg not dec_bl))
    | str j => obtain ⟨t', rfl⟩ := ry; exact PySem.EqMixed.ne_bool_str (fin_bl I q (by simp))
    | _ => exact absurd (show false = true from hs) Bool.false_ne_true
  | int i =>
    obtain ⟨t, rfl⟩ := rx
    cases y with
    | non => cases ry; exact PySem.EqNone.ne_int_none (fin_bl I q (by simp))
    | int j => obtain ⟨t', rfl⟩ := ry; exact ne_int (fin_bl I q (congrArg not dec_int))
    | str j => obtain ⟨t', rfl⟩ := ry; exact PySem.EqMixed.ne_int_str (fin_bl I q (by simp))
    | _ => exact absurd (show false = true from hs) Bool.false_ne_true
  | str i =>
    obtain ⟨t, rfl⟩ := rx
    cases y with
    | non => cases ry; exact PySem.EqNone.ne_str_none (fin_bl I q (by simp))
    | bl j => cases ry; exact PySem.EqMixed.ne_str_bool (fin_bl I q (by simp))
    | int j => obtain ⟨t', rfl⟩ := ry; exact PySem.EqMixed.ne_str_int (fin_bl I q (by simp))
    | str j => obtain ⟨t', rfl⟩ := ry; exact ne_str (fin_bl I q (congrArg not dec_str))
    | _ => exact absurd (show false = true from hs) Bool.false_ne_true
  | byt i =>
    obtain ⟨t, rfl⟩ := rx
    cases y with
    | byt j => obtain ⟨t', rfl⟩ := ry; exact PySem.W.ne_bytes (fin_bl I q (congrArg not dec_byt))
    | _ => exact absurd (show false = true from hs) Bool.false_ne_true
  | _ => cases y <;> exact absurd (show false = true from hs) Bool.false_ne_true

theorem op_lt : OpR X (compareOp .Lt) (rI0 fun i j => .bl (decide (i < j))) := opB0 fun _ _ _ _ _ _ _ q => lt_int q
theorem op_gt : OpR X (compareOp .Gt) (rI0 fun i j => .bl (decide (j < i))) := opB0 fun _ _ _ _ _ _ _ q => gt_int q
theorem op_lt_str : OpR X (compareOp .Lt) (fun x y H Q => ∃ i j, x = .str i ∧ y = .str j ∧ Q (.bl (decide (i.cps.toList < j.cps.toList))) H) := by
  intro pins s σ H x y v u Q I rx ry h
  obtain ⟨i, j, rfl, rfl, q⟩ := h
  obtain ⟨t, rfl⟩ := rx
  obtain ⟨t', rfl⟩ := ry
  exact lt_str (fin_bl I q rfl)
/-- the one string within the other -/
theorem op_in_str : OpR X (compareOp .In) (fun x y H Q => ∃ i j, x = .str i ∧ y = .str j ∧ Q (.bl (!(Builtin.Str.occurrences j i 0 j.length 1).isEmpty)) H) := by
  intro pins s σ H x y v u Q I rx ry h
  obtain ⟨i, j, rfl, rfl, q⟩ := h
  obtain ⟨t, rfl⟩ := rx
  obtain ⟨t', rfl⟩ := ry
  exact in_str (fin_bl I q rfl)

/-- is None, is not None: the right side a value none -/
theorem op_isN : OpR X (compareOp .Is) (fun x y H Q => y = .non ∧ Q (.bl (decide (x = .non))) H) := by
  intro pins s σ H x y v u Q I rx ry h
  obtain ⟨rfl, q⟩ := h
  cases ry
  refine is_none_gen (fin_bl I q ?_)
  cases x <;> first
    | (cases rx; rfl)
    | (obtain ⟨t, rfl⟩ := rx; rfl)
theorem op_notN : OpR X (compareOp .IsNot) (fun x y H Q => y = .non ∧ Q (.bl (!decide (x = .non))) H) := by
  intro pins s σ H x y v u Q I rx ry h
  obtain ⟨rfl, q⟩ := h
  cases ry
  refine isnot_none_gen (fin_bl I q ?_)
  cases x <;> first
    | (cases rx; rfl)
    | (obtain ⟨t, rfl⟩ := rx; rfl)

theorem op_notin_str : OpR X (compareOp .NotIn) (fun x y H Q => ∃ i j, x = .str i ∧ y = .str j ∧ Q (.bl (!(!(Builtin.Str.occurrences j i 0 j.length 1).isEmpty))) H) := by
  intro pins s σ H x y v u Q I rx ry h
  obtain ⟨i, j, rfl, rfl, q⟩ := h
  obtain ⟨t, rfl⟩ := rx
  obtain ⟨t', rfl⟩ := ry
  exact notIn_str (fin_bl I q rfl)
/-- two rules for one operation: by cases -/
theorem OpR.or {f : Value → Value → Sem Value} {r r' : R2} (h : OpR X f r) (h' : OpR X f r') : OpR X f (fun x y H Q => r x y H Q ∨ r' x y H Q) := by
  intro pins s σ H x y v u Q I rx ry q
  rcases q with q | q
  · exact h pins s σ H x y v u Q I rx ry q
  · exact h' pins s σ H x y v u Q I rx ry q

theorem nomark (b : Expr) {op : CmpOp} (h : op ≠ .In := by decide) (h2 : op ≠ .NotIn := by decide) : behindInMarks op b = false := by
  have e1 : (op == CmpOp.In) = false := by cases op <;> first | rfl | exact absurd rfl h
  have e2 : (op == CmpOp.NotIn) = false := by cases op <;> first | rfl | exact absurd rfl h2
  cases b <;> simp [behindInMarks, e1, e2]
/-- a comparison as a value; hm: nomark b, or (for in, not in) by with_unfolding_all rfl -/
theorem pe_cmpR {op : CmpOp} {r : R2} (ho : OpR X (compareOp op) r) (ha : PE X a ta) (hb : PE X b tb) (hm : behindInMarks op b = false) : PE X (.Compare a [op] [b] pos) (tOp r ta tb) := by
  intro pins s σ H Q I h
  exact wpAny_Compare1 (binT ha hb I h fun v u s2 x y H2 I2 rx ry q => ho pins s2 σ H2 x y v u Q I2 rx ry q) hm
/-- a reading of a value as a test -/
def tTest (t : TE) : TT := fun σ H Q => t σ H fun x H' => ∃ k, x = .bl k ∧ Q k H'
theorem pt_cmpR {op : CmpOp} {r : R2} (ho : OpR X (compareOp op) r) (ha : PE X a ta) (hb : PE X b tb) (hm : behindInMarks op b = false) : PT X (.Compare a [op] [b] pos) (tTest (tOp r ta tb)) := by
  intro pins s σ H Q I h
  refine wpAny_isTrue_Compare1 (thn (ha pins s σ H _ I h) fun v s1 ⟨x, H1, I1, r1, q1⟩ => thn (hb pins s1 σ H1 _ I1 q1) fun u s2 ⟨y, H2, I2, r2, q2⟩ =>
    thn (ho pins s2 σ H2 x y v u _ I2 r1 r2 q2) fun c s3 ⟨z, H3, I3, r3, k, e, q3⟩ => ?_) hm
  subst e
  cases r3
  exact wpAny_truthy_bool ⟨H3, I3, q3⟩
/-! ### truth -/
theorem line63 : (sizeLine : Nat) < 2 ^ 63 := by rw [sizeLine_eq]; decide
/-! ### strs and bytes -/
theorem op_add_str : OpR X (binaryOp .Add) (fun x y H Q => ∃ i j, x = .str i ∧ y = .str j ∧ i.length + j.length ≤ sizeLine ∧ Q (.str (i ++ j)) H) := by
  intro pins s σ H x y v u Q I rx ry h
  obtain ⟨i, j, rfl, rfl, hz, q⟩ := h
  obtain ⟨t, rfl⟩ := rx
  obtain ⟨t', rfl⟩ := ry
  exact add_str (fun t' tk => ⟨.str (i ++ j), H, I.tok _, ⟨_, rfl⟩, q⟩) hz
/-! ### scalar builtins, by CallR -/
theorem vals1 {x : V} {us : List Value} (r : Vals [x] us) : ∃ u, us = [u] ∧ RelV x u := by
  cases r with
  | cons r1 r2 => cases r2; exact ⟨_, rfl, r1⟩
theorem vals2 {x y : V} {us : List Value} (r : Vals [x, y] us) : ∃ u w', us = [u, w'] ∧ RelV x u ∧ RelV y w' := by
  cases r with
  | cons r1 r2 =>
    cases r2 with
    | cons r3 r4 => cases r4; exact ⟨_, _, rfl, r1, r3⟩
theorem call_int1 : CallR X (.type "int") (fun xs H Q => (∃ i, xs = [.int i] ∧ Q (.int i) H) ∨ ∃ k, xs = [.bl k] ∧ Q (.int (if k then 1 else 0)) H) := by
  intro pins s σ H xs us Q I r h
  rcases h with ⟨i, rfl, q⟩ | ⟨k, rfl, q⟩
  · obtain ⟨u, rfl, t, rfl⟩ := vals1 r
    exact call_int_int ⟨.int i, H, I, ⟨_, rfl⟩, q⟩
  · obtain ⟨u, rfl, r1⟩ := vals1 r
    cases r1
    exact call_int_bool ⟨.int (if k then 1 else 0), H, I.tok _, ⟨_, rfl⟩, q⟩
end
end L2

namespace L2
open PySem PySem.Spec PyProof.Rows

/-! ### an instance, its attributes a map -/
structure ObjM (h : Heap) (x dx C : Addr) (mA : Str → Option Value) : Prop where
  obj : h.get? x = some (PySem.W.instObj C dx)
  ns : h.Ns1 dx mA
  ne : dx ≠ x

theorem lookIn_ns {h : Heap} {dx : Addr} {mA : Str → Option Value} (n : h.Ns1 dx mA) : ∃ od, h.get? dx = some od ∧ ∀ name, PySem.W.lookIn name od = some (mA name) := by
  obtain ⟨o, es, ep, ho, hd, hk, _, hm⟩ := n
  refine ⟨o, ho, fun name => ?_⟩
  have e := hm name
  unfold nsFind findBy at e
  rw [← Array.find?_toList] at e
  unfold PySem.W.lookIn
  rw [hd]
  dsimp only
  split
  · rename_i y q
    rw [q] at e
    exact congrArg some e
  · rename_i q
    rw [q] at e
    have a : es.toList.any (·.refKey) = false := by
      rw [List.any_eq_false]
      intro y hy
      obtain ⟨z, t, hkey⟩ := hk y (Array.mem_toList_iff.mp hy)
      simp [DictEntry.refKey, hkey]
    have a' : ¬ es.toList.any (·.refKey) = true := by rw [a]; exact Bool.false_ne_true
    rw [if_neg a']
    exact congrArg some e

theorem ObjM.look {h : Heap} {x dx C : Addr} {mA : Str → Option Value} (I : ObjM h x dx C mA) : ∃ od, PySem.W.InstAt h x (PySem.W.instObj C dx) C (some od) ∧ ∀ name, PySem.W.lookIn name od = some (mA name) :=
  let ⟨od, ho, hl⟩ := lookIn_ns I.ns
  ⟨od, ⟨I.obj, rfl, rfl, ho⟩, hl⟩

section
variable {prog : Program} {w : World} {A : Around} {E : Value → Shared → Prop} {s : Shared} {K : PySem.W.Frag} {x dx C f : Addr} {mA : Str → Option Value} {name : Str} {v : Value}

end

/-! ### the attributes as a list of pairs -/
def putF (f : Str) (v : V) : List (Str × V) → List (Str × V)
  | [] => [(f, v)]
  | (g, x) :: r => if g = f then (g, v) :: r else (g, x) :: putF f v r
section
variable {P : Program} {w : World} {H H' : Hp} {h h' : Heap} {a C dx : Addr} {fs fs' : List (Str × V)}
theorem ins_get (hok : HOk P w H h) (e : H a = some (.ins C dx fs)) : ∃ mA, ObjM h a dx C mA ∧ (∀ f, RelO (fs.lookup f) (mA f)) ∧ PySem.Within mA (fs.map (·.1)) ∧ fs.length ≤ 1000 ∧ H dx = some (.own a) := by
  obtain ⟨d, z, ne, ob, mA, n, r, q⟩ := (show ObjOk P w H h a (.ins C dx fs) from hok a _ e)
  exact ⟨mA, ⟨ob, n, ne⟩, r, q, z, d⟩
end

/-! ### what of the text a class must have -/
structure Cls (K : PySem.W.Frag) (C : Addr) : Prop where
  pg : PySem.W.plainGet K C Str.empty = true
  hd : PySem.W.hasDictIn K C = true
  po : PySem.W.plainOver K C = true
  sa : PySem.W.findIn K (.ref C) "__setattr__" = some (some (.builtin "object.__setattr__"))
theorem Cls.get {K : PySem.W.Frag} {C : Addr} (c : Cls K C) (f : Str) : PySem.W.plainGet K C f = true := c.pg
/-- no class of it has the name -/
def NoAttr (K : PySem.W.Frag) (C : Addr) (f : Str) : Prop := PySem.W.findIn K (.ref C) f = some none
/-- a constant of the class -/
structure Con (K : PySem.W.Frag) (C : Addr) (f : Str) (v : V) (u : Value) : Prop where
  at_ : PySem.W.findIn K (.ref C) f = some (some u)
  rel : RelV v u
  get : PySem.W.specialIn K u "__get__" = some none
  cp : PySem.W.copiedNames.contains f = false
/-- a method: a plain def of the class or of one above it -/
structure Meth (K : PySem.W.Frag) (C : Addr) (m : Str) (f : Addr) : Prop where
  at_ : PySem.W.findIn K (.ref C) m = some (some (.ref f))
  fn : PySem.W.isFn K (.ref f) = true
  kp : PySem.W.keepIn K (.ref f) = true

section
variable {X : Cx} {pins : List (Addr × Obj)} {σ : St} {H : Hp} {s : Shared} {a C dx : Addr} {fs : List (Str × V)} {f : Str} {v : V} {A : Around} {E : Value → Shared → Prop}

end

/-! ### readings and rules -/
section
variable {X : Cx} {o e value : Expr} {f : Str} {pos pos' tpos : Pos} {ta tv : TE}
end

/-! ### isinstance -/
section
variable {X : Cx} {pins : List (Addr × Obj)} {σ : St} {H : Hp} {s : Shared} {A : Around} {E : Value → Shared → Prop} {Q : Value → Shared → Prop} {c : Value} {b : Bool}
/-- the type of a value, as the fragment's deciders take it; for an instance its class -/
inductive TyOf (K : PySem.W.Frag) (H : Hp) : V → Value → Prop where
  | non : TyOf K H .non (.type "NoneType")
  | bl (x : Bool) : TyOf K H (.bl x) (.type "bool")
  | int (i : Int) : TyOf K H (.int i) (.type "int")
  | str (x : Str) : TyOf K H (.str x) (.type "str")
  | flt (x : UInt64) : TyOf K H (.flt x) (.type "float")
  | lst {a : Addr} {xs : List V} (e : H a = some (.lst xs)) : TyOf K H (.ref a) (.type "list")
  | frz {a : Addr} {o : Obj} {xs : List V} (e : H a = some (.frz o (.lst xs))) : TyOf K H (.ref a) (.type "list")
  | tup {a : Addr} {xs : List V} (e : H a = some (.tup xs)) : TyOf K H (.ref a) (.type "tuple")
  | dK {a : Addr} {kvs : List (Key × V)} (e : H a = some (.dK kvs)) : TyOf K H (.ref a) (.type "dict")
  | dT {a : Addr} {kvs : List (List Key × V)} (e : H a = some (.dT kvs)) : TyOf K H (.ref a) (.type "dict")
  | ins {a C dx : Addr} {fs : List (Str × V)} (e : H a = some (.ins C dx fs)) (cl : Cls K C) (ha : PySem.W.findIn K (.ref C) "__class__" = some (some (.builtin "object.__class__")))
      (hn : PySem.W.specialIn K (.builtin "object.__class__") "__get__" = some (some (.builtin "getset_descriptor.__get__"))) (htk : PySem.W.takesIn K (.builtin "object.__class__") = some true)
      (hm : PySem.W.mroIn K C (.type "object") = some true) : TyOf K H (.ref a) (.ref C)
/-- isinstance(x, c) for one class c, a built-in or an own one: kitOne's answer -/
theorem isinst_ok {x : V} {u t : Value} (I : Inv X pins σ H s) (rx : RelV x u) (ty : TyOf X.K H x t) (e : PySem.W.kitOne X.K t c = some b) (h : ∀ tk, Q (.bool b) { s with toks := tk }) :
    wpAny (model X.prog X.w) A (call (.builtin "isinstance") [u, c]) Q E s := by
  cases ty with
  | non => cases (show u = Value.none from rx); exact PySem.W.kia_one PySem.W.kitx_none I.kIn True.intro e (fun z => nomatch z) h
  | bl y => cases (show u = Value.bool y from rx); exact PySem.W.kia_one PySem.W.kitx_bool I.kIn True.intro e (fun z => nomatch z) h
  | int i => obtain ⟨t, q⟩ := (show ∃ t, u = Value.int i t from rx); cases q; exact PySem.W.kia_one PySem.W.kitx_int I.kIn True.intro e (fun z => nomatch z) h
  | str y => obtain ⟨t, q⟩ := (show ∃ t, u = Value.str y t from rx); cases q; exact PySem.W.kia_one PySem.W.kitx_str I.kIn True.intro e (fun z => nomatch z) h
  | flt y => obtain ⟨t, q⟩ := (show ∃ t, u = Value.float y t from rx); cases q; exact PySem.W.kia_one PySem.W.kitx_float I.kIn True.intro e (fun z => nomatch z) h
  | @lst a xs ea =>
    cases (show u = Value.ref a from rx)
    obtain ⟨_, _, n, _, h1⟩ := (show ObjOk X.prog X.w H s.heap a (.lst xs) from I.hok a _ ea)
    exact PySem.W.kia_one PySem.W.kitx_list I.kIn ⟨_, h1, rfl⟩ e (fun z => nomatch z) h
  | @frz a ob xs ea =>
    cases (show u = Value.ref a from rx)
    obtain ⟨_, _, _, n, _, h1⟩ := (show ObjOk X.prog X.w H s.heap a (.frz ob (.lst xs)) from I.hok a _ ea)
    exact PySem.W.kia_one PySem.W.kitx_list I.kIn ⟨_, h1, rfl⟩ e (fun z => nomatch z) h
  | @tup a xs ea =>
    cases (show u = Value.ref a from rx)
    obtain ⟨_, _, _, p⟩ := (show ObjOk X.prog X.w H s.heap a (.tup xs) from I.hok a _ ea)
    obtain ⟨o, h1, h2, _⟩ := p
    exact PySem.W.kia_one PySem.W.kitx_tuple I.kIn ⟨o, h1, h2⟩ e (fun z => nomatch z) h
  | @dK a kvs ea =>
    cases (show u = Value.ref a from rx)
    obtain ⟨_, _, vs, _, p⟩ := (show ObjOk X.prog X.w H s.heap a (.dK kvs) from I.hok a _ ea)
    obtain ⟨o, es, ep, h1, h2, _⟩ := p
    exact PySem.W.kia_one PySem.W.kitx_dict I.kIn ⟨o, h1, h2.1⟩ e (fun z => nomatch z) h
  | @dT a kvs ea =>
    cases (show u = Value.ref a from rx)
    obtain ⟨_, _, xs, _, o, es, ep, h1, h2, _⟩ := (show ObjOk X.prog X.w H s.heap a (.dT kvs) from I.hok a _ ea)
    exact PySem.W.kia_one PySem.W.kitx_dict I.kIn ⟨o, h1, h2.1⟩ e (fun z => nomatch z) h
  | @ins a C dx fs ea cl ha hn htk hm =>
    cases (show u = Value.ref a from rx)
    obtain ⟨mA, O, _⟩ := ins_get I.hok ea
    obtain ⟨od, J, _⟩ := O.look
    exact PySem.W.kia_one (PySem.W.kitx_own (cl.get _) cl.hd ha hn htk hm) I.kIn J e (fun z => nomatch z) h
end
end L2

namespace L2
open PySem PySem.Spec PyProof.Rows

/-! ### room -/
structure Room (k : Nat) (A : Around) : Prop where
  hd : A.handled = none
  dp : A.depth + 3 * k + 5 < recursionLimit
  un : A.units + 16 * k + 200 < cLine
theorem Room.mono {j k : Nat} {A : Around} (r : Room k A) (h : j ≤ k) : Room j A := ⟨r.hd, by have := r.dp; omega, by have := r.un; omega⟩
theorem Room.deeper {k : Nat} {A : Around} (r : Room (k + 1) A) (env : Env) : Room k (A.deeper env) :=
  ⟨r.hd, by have := r.dp; show A.depth + 1 + 3 * k + 5 < _; omega, by have := r.un; show A.units + 3 + 16 * k + 200 < _; omega⟩
theorem Room.in1 {k : Nat} {A : Around} (r : Room (k + 1) A) : Room k A.in1 :=
  ⟨r.hd, by have := r.dp; show A.depth + 3 * k + 5 < _; omega, by have := r.un; show A.units + 1 + 16 * k + 200 < _; omega⟩
theorem Room.depth {k : Nat} {A : Around} (r : Room k A) : A.depth < recursionLimit := by have := r.dp; omega
theorem Room.units {k : Nat} {A : Around} (r : Room k A) : A.units + 64 < cLine := by have := r.un; omega
/-! ### argument lists and displays -/
def tNil : TA := fun _ H Q => Q [] H
def tCons (ta : TE) (tr : TA) : TA := fun σ H Q => ta σ H fun x H1 => tr σ H1 fun xs H2 => Q (x :: xs) H2
section
variable {X : Cx} {e : Expr} {es : List Expr} {te : TE} {t : TA} {pos : Pos}
theorem pa_nil : PA X [] tNil := fun _ _ _ _ H Q I h => Calls.spliced_nil ⟨[], H, I, .nil, h⟩
theorem pa_cons (ha : PE X e te) (hr : PA X es t) (hs : starEach (e :: es) X.env = (false, eval e X.env) :: starEach es X.env := by rfl) : PA X (e :: es) (tCons te t) := by
  intro pos pins s σ H Q I h
  rw [hs]
  show wpAny _ _ (spliced ((false, eval e X.env) :: backTo pos (starEach es X.env))) _ _ s
  refine Calls.spliced_cons (thn (ha pins s σ H _ I h) fun u s1 ⟨x, H1, I1, r1, q1⟩ => ?_)
  exact thn (hr pos pins s1 σ H1 _ I1 q1) fun us s2 ⟨xs, H2, I2, r2, q2⟩ => ⟨x :: xs, H2, I2, .cons r1 r2, q2⟩

/-- a tuple, a list of written items -/
def tTup (t : TA) : TE := fun σ H Q => t σ H fun xs H1 => xs.length ≤ sizeLine ∧ ∀ p, H1 p = none → Q (.ref p) (upd H1 p (.tup xs))
def tLst (t : TA) : TE := fun σ H Q => t σ H fun xs H1 => xs.length ≤ sizeLine ∧ ∀ p, H1 p = none → Q (.ref p) (upd H1 p (.lst xs))
theorem pe_tup {x1} (h : PA X es t) : PE X (.Tuple es x1 pos) (tTup t) := by
  intro pins s σ H Q I hq
  refine wpAny_Tuple_spliced (thn (h pos pins s σ H _ I hq) fun us s1 ⟨xs, H1, I1, r, z, q⟩ => ⟨by rw [← r.length]; exact z, ?_⟩)
  have hf : H1 s1.heap.objs.size = none := I1.hok.fresh (Nat.le_refl _)
  refine ⟨.ref s1.heap.objs.size, upd H1 s1.heap.objs.size (.tup xs), I1.laid (t' := s1.toks) (fun b u e => Heap.get?_push_of_some _ e) (Nat.le_refl _) ?_, rfl, q _ hf⟩
  exact ⟨z, us, r, ⟨_, Heap.get?_push_size _ rfl, rfl, _, rfl⟩⟩
theorem pe_lst (h : PA X es t) : PE X (.List es pos) (tLst t) := by
  intro pins s σ H Q I hq
  refine wpAny_List_spliced (thn (h pos pins s σ H _ I hq) fun us s1 ⟨xs, H1, I1, r, z, q⟩ => ⟨by rw [← r.length]; exact z, ?_⟩)
  have hf : H1 s1.heap.objs.size = none := I1.hok.fresh (Nat.le_refl _)
  refine ⟨.ref s1.heap.objs.size, upd H1 s1.heap.objs.size (.lst xs), I1.laid (t' := s1.toks) (fun b u e => Heap.get?_push_of_some _ e) (Nat.le_refl _) ?_, rfl, q _ hf⟩
  exact ⟨z, us, 0, r, Heap.get?_push_size _ rfl⟩
end

/-! ### what a def promises -/
/-- a def's promise: the bound arguments in the parameters' order, the heap, the wanted end, the wanted exception -/
abbrev Sp := List V → Hp → VK → XK → Prop
/-- how an exception lies behind a call (file 08 gives it): the callers' frames, abstract heap and state ahead of the call, the wish, the exception, the state -/
abbrev CXT := List Env → Hp → Shared → XK → Value → Shared → Prop

/-- the state at a call -/
structure Env0 (P : Program) (w : World) (K : PySem.W.Frag) (mg : Str → Option Value) (base : Heap) (A : Around) (outer : List Env) (s : Shared) (H : Hp) : Prop where
  frames : A.frames = some outer
  mod : Mod K mg base
  bs : ∀ b o, base.get? b = some o → s.heap.get? b = some o ∧ H b = none
  bsz : base.objs.size ≤ s.heap.objs.size
  funs : s.heap.FunFrames base outer
  frf : ∀ b ∈ frs outer, H b = none
  hok : HOk P w H s.heap
  bare : AllBare s.gens
/-- a call's end -/
def CE (outer : List Env) (P : Program) (w : World) (H : Hp) (s : Shared) (Q : VK) (u : Value) (s' : Shared) : Prop :=
  ∃ v H', s'.os = s.os ∧ AllBare s'.gens ∧ Un (frs outer) [] H H' s.heap s'.heap ∧ HOk P w H' s'.heap ∧ RelV v u ∧ Q v H'
def CR (CX : CXT) (outer : List Env) (P : Program) (w : World) (H : Hp) (s : Shared) (Q : VK) (E : XK) (r : Result) (s' : Shared) : Prop :=
  match r with
  | .ok (.ret u) => CE outer P w H s Q u s'
  | .ok _ => False
  | .error e => CX outer H s E e s'
structure FnOk (P : Program) (w : World) (K : PySem.W.Frag) (mg : Str → Option Value) (base : Heap) (CX : CXT) (k : Nat) (f : Addr) (fd : FuncData) (ps : List Str) (sp : Sp) : Prop where
  len : ∀ vs H Q E, sp vs H Q E → vs.length = ps.length
  run : ∀ (A : Around) (outer : List Env) (s : Shared) (H : Hp) (args : Args) (us : List Value) (vs : List V) (Q : VK) (E : XK), Room k A → Env0 P w K mg base A outer s H → BindsTo s fd args (ps.zip us) → Vals vs us → sp vs H Q E →
    codeAny (model P w) A (.call (.ref f) args) (CR CX outer P w H s Q E) s
theorem FnOk.mono {P : Program} {w : World} {K : PySem.W.Frag} {mg : Str → Option Value} {base : Heap} {CX : CXT} {j k : Nat} {f : Addr} {fd : FuncData} {ps : List Str} {sp : Sp} (F : FnOk P w K mg base CX j f fd ps sp) (h : j ≤ k) :
    FnOk P w K mg base CX k f fd ps sp := ⟨F.len, fun A outer s H args us vs Q E hr => F.run A outer s H args us vs Q E (hr.mono h)⟩
theorem Env0.in1 {P : Program} {w : World} {K : PySem.W.Frag} {mg : Str → Option Value} {base : Heap} {A : Around} {outer : List Env} {s : Shared} {H : Hp} (e : Env0 P w K mg base A outer s H) :
    Env0 P w K mg base A.in1 outer s H := ⟨e.frames, e.mod, e.bs, e.bsz, e.funs, e.frf, e.hok, e.bare⟩

section
variable {X : Cx} {pins : List (Addr × Obj)} {σ : St} {H : Hp} {s s' : Shared}
/-- from a body: what a callee wants -/
theorem Inv.env0 (I : Inv X pins σ H s) : Env0 X.prog X.w X.K X.mg X.base X.A X.stack s H :=
  ⟨I.ok.frames, I.ok.mod, I.bs, Nat.le_trans I.ok.bsz I.sz, I.stack, I.stkFree, I.hok, I.bare⟩
/-- behind a call -/
theorem Inv.after {Q : VK} {u : Value} (I : Inv X pins σ H s) (h : CE X.stack X.prog X.w H s Q u s') : EP X pins σ Q u s' := by
  obtain ⟨v, H', os, bare, un, hok, r, q⟩ := h
  obtain ⟨hh, g, d, t, os'⟩ := s'
  obtain rfl : os' = s.os := os
  exact ⟨v, H', I.call (h' := hh) (g' := g) (d' := d) (t' := t) (ch := []) un hok bare (fun b z => absurd z (by simp)), r, q⟩
end

/-! ### calls -/
/-- f(..): the written arguments, then the defaults dvs; E: what is wanted of an exception -/
def tCall (sp : Sp) (dvs : List V) (E : XK) (t : TA) : TE := fun σ H Q => t σ H fun vs H1 => sp (vs ++ dvs) H1 Q E
/-- how the parameters are bound: us the positional arguments, kw the keywords' values by name, ds the defaults that fill up -/
def Binds (K : PySem.W.Frag) (fd : FuncData) (ps : List Str) (ds : List Value) : Prop :=
  ∀ (s : Shared) (us : List Value), K.In s.heap → (us ++ ds).length = ps.length → BindsTo s fd ⟨us, []⟩ (ps.zip (us ++ ds))
/-- every parameter is given -/
theorem Binds.all {K : PySem.W.Frag} {fd : FuncData} {ps : List Str} (h : ∀ us : List Value, us.length = ps.length → bindArgs fd ⟨us, []⟩ = pure (ps.zip us)) : Binds K fd ps [] := fun s us _ hl => by
  rw [List.append_nil] at hl ⊢
  exact .of_eq (h us hl)

/-- an exception of a callee reaches what this body wants of exceptions -/
def Passes (CX : CXT) (X : Cx) (E : XK) : Prop := ∀ (pins : List (Addr × Obj)) (σ : St) (H : Hp) (s : Shared) (e : Value) (s' : Shared), Inv X pins σ H s → CX X.stack H s E e s' → X.xe e s'

section
variable {X : Cx} {CX : CXT} {k : Nat} {f C : Addr} {fd : FuncData} {ps : List Str} {sp : Sp} {dvs : List V} {ds : List Value} {E : XK} {x m : Str} {p pos apos : Pos} {e o : Expr} {es : List Expr} {ta : TE} {t : TA}

/-- the callee runs -/
theorem run_fn {pins : List (Addr × Obj)} {σ : St} {H : Hp} {s : Shared} {Q : VK} {us : List Value} {vs : List V} (F : FnOk X.prog X.w X.K X.mg X.base CX k f fd ps sp) (hr : Room k X.A) (hb : Binds X.K fd ps ds) (hd : Vals dvs ds) (hx : Passes CX X E)
    (I : Inv X pins σ H s) (r : Vals vs us) (h : sp (vs ++ dvs) H Q E) : wpAny (model X.prog X.w) X.A (call (.ref f) us) (EP X pins σ Q) X.xe s := by
  have r2 : Vals (vs ++ dvs) (us ++ ds) := r.append hd
  have hl : (us ++ ds).length = ps.length := by rw [← r2.length]; exact F.len _ _ _ _ h
  refine wpAny_call (codeAny_mono (F.run X.A X.stack s H ⟨us, []⟩ (us ++ ds) (vs ++ dvs) Q E hr I.env0 (hb s us I.kIn hl) r2 h) fun r s' hq => ?_)
  cases r with
  | error e => exact hx pins σ H s e s' I hq
  | ok fl =>
    cases fl with
    | ret u => exact I.after hq
    | next => exact False.elim hq
    | brk => exact False.elim hq
    | cont => exact False.elim hq

theorem pe_call (F : FnOk X.prog X.w X.K X.mg X.base CX k f fd ps sp) (hr : Room k X.A) (hg : Gl X x) (hm : X.mg x = some (.ref f)) (hk : PySem.W.keepIn X.K (.ref f) = true) (hb : Binds X.K fd ps ds) (hd : Vals dvs ds) (hx : Passes CX X E)
    (ha : PA X (e :: es) t) (hdb : (x == ("__debug__" : Str)) = false := by decide) (he : starEach (e :: es) X.env = (false, eval e X.env) :: starEach es X.env := by rfl) (hpl : (backTo pos (starEach es X.env)).any (·.1) = false := by rfl) :
    PE X (.Call (.Name x p) (e :: es) [] pos) (tCall sp dvs E t) := by
  intro pins s σ H Q I h
  refine wpAny_Call_Name_kw (ld_glob I hg hm ?_ hdb)
  refine PySem.W.callWith_K (h₀ := X.base) I.ok.mod.kin hk (thn (ha pos pins s σ H _ I h) fun us s1 ⟨vs, H1, I1, r, q⟩ => ⟨I1.kIn, ?_⟩) he hpl
  exact run_fn F hr hb hd hx I1 r q
/-- what a class must have to be made -/
structure Mk (K : PySem.W.Frag) (C f : Addr) : Prop where
  makes : PySem.W.makesIn K C = true
  init : PySem.W.findIn K (.ref C) "__init__" = some (some (.ref f))
  fn : PySem.W.isFn K (.ref f) = true
  kp : PySem.W.keepIn K (.ref C) = true

end

/-! ### keywords -/
section
variable {X : Cx} {CX : CXT} {k : Nat} {f C : Addr} {fd : FuncData} {ps ks : List Str} {sp : Sp} {E : XK} {x m : Str} {p pos apos kpos : Pos} {e o : Expr} {es : List Expr} {kws : List Keyword} {te ta : TE} {t tk : TA} {nm : Option Str}
/-- how a call with keywords binds: g puts the positional values us and the keywords' values ws (names ks) in the parameters' order, defaults among them -/
structure KBinds (K : PySem.W.Frag) (fd : FuncData) (ps ks : List Str) (g : List Value → List Value → List Value) (gV : List V → List V → List V) : Prop where
  to : ∀ (s : Shared) (us ws : List Value), K.In s.heap → (g us ws).length = ps.length → BindsTo s fd ⟨us, ks.zip ws⟩ (ps.zip (g us ws))
  rel : ∀ {vs : List V} {us : List Value} {zs : List V} {ws : List Value}, Vals vs us → Vals zs ws → Vals (gV vs zs) (g us ws)
variable {g : List Value → List Value → List Value} {gV : List V → List V → List V}
end

/-! ### a def's body keeps its promise -/
/-- names: the parameters first -/
structure FnScope (N P : List Str) (sc : Scope) : Prop where
  kind : sc.kind = .function
  co : sc.isCoroutine = false
  gen : sc.isGenerator = false
  nd : N.Nodup
  pre : N.take P.length = P
  par : ∀ x ∈ P, sc.names.lookup x = some .local ∨ sc.names.lookup x = some .cell
  nofree : ∀ y ∈ sc.names, y.2 ≠ .free

theorem bindL_out {kindOf : Str → Option NameKind} {x : Str} : ∀ {binds : List (Str × Value)} {m : Str → Option Value}, (∀ v, (x, v) ∉ binds) → bindL kindOf binds m x = m x
  | [], _, _ => rfl
  | (n, v) :: r, m, h => by
    unfold bindL
    rw [bindL_out fun w hw => h w (List.mem_cons_of_mem _ hw)]
    split
    · have : x ≠ n := by rintro rfl; exact h v List.mem_cons_self
      simp [this]
    · rfl
theorem bindC_out {kindOf : Str → Option NameKind} {x : Str} : ∀ {binds : List (Str × Value)} {m : Str → Option Value}, (∀ v, (x, v) ∉ binds) → bindC kindOf binds m x = m x
  | [], _, _ => rfl
  | (n, v) :: r, m, h => by
    unfold bindC
    rw [bindC_out fun w hw => h w (List.mem_cons_of_mem _ hw)]
    split
    · rfl
    · have : x ≠ n := by rintro rfl; exact h v List.mem_cons_self
      simp [this]
theorem bindL_get {kindOf : Str → Option NameKind} {x : Str} {v : Value} : ∀ {P : List Str} {vs : List Value} {i : Nat} {m : Str → Option Value}, P.Nodup → P[i]? = some x → vs[i]? = some v → kindOf x = some .local →
    bindL kindOf (P.zip vs) m x = some v
  | [], _, _, _, _, h, _, _ => by simp at h
  | _ :: _, [], _, _, _, _, h, _ => by simp at h
  | p :: P, w :: vs, 0, m, nd, h1, h2, hk => by
    simp at h1 h2; subst h1; subst h2
    show bindL kindOf ((p, w) :: P.zip vs) m p = _
    unfold bindL
    rw [bindL_out fun v hv => (List.nodup_cons.mp nd).1 (List.of_mem_zip hv).1, if_pos hk]
    simp
  | p :: P, w :: vs, i + 1, m, nd, h1, h2, hk => by
    show bindL kindOf ((p, w) :: P.zip vs) m x = _
    unfold bindL
    exact bindL_get (i := i) (List.nodup_cons.mp nd).2 (by simpa using h1) (by simpa using h2) hk
theorem bindC_get {kindOf : Str → Option NameKind} {x : Str} {v : Value} : ∀ {P : List Str} {vs : List Value} {i : Nat} {m : Str → Option Value}, P.Nodup → P[i]? = some x → vs[i]? = some v → kindOf x ≠ some .local →
    bindC kindOf (P.zip vs) m x = some v
  | [], _, _, _, _, h, _, _ => by simp at h
  | _ :: _, [], _, _, _, _, h, _ => by simp at h
  | p :: P, w :: vs, 0, m, nd, h1, h2, hk => by
    simp at h1 h2; subst h1; subst h2
    show bindC kindOf ((p, w) :: P.zip vs) m p = _
    unfold bindC
    rw [bindC_out fun v hv => (List.nodup_cons.mp nd).1 (List.of_mem_zip hv).1, if_neg hk]
    simp
  | p :: P, w :: vs, i + 1, m, nd, h1, h2, hk => by
    show bindC kindOf ((p, w) :: P.zip vs) m x = _
    unfold bindC
    exact bindC_get (i := i) (List.nodup_cons.mp nd).2 (by simpa using h1) (by simpa using h2) hk

/-- the names' values at the entry -/
def start (N : List Str) (vs : List V) : St := vs.map some ++ List.replicate (N.length - vs.length) none

/-- the context of a def's body, at its entry; an exception leaves the frame, then lies as CX says -/
def cxOf (CX : CXT) (P : Program) (w : World) (K : PySem.W.Frag) (mg : Str → Option Value) (base : Heap) (N : List Str) (qual : Str) (scope : Scope) (f : Addr) (cd : Value) (A : Around) (outer : List Env) (s : Shared) (H : Hp) (E : XK) : Cx where
  prog := P
  w := w
  K := K
  mg := mg
  base := base
  A := A.deeper (envOfC qual scope s.heap.objs.size f cd)
  N := N
  s₀ := s
  H₀ := H
  env := envOfC qual scope s.heap.objs.size f cd
  outer := outer
  stack := envOfC qual scope s.heap.objs.size f cd :: outer
  ex := []
  calm := true
  fn := fun _ => true
  pn := []
  xe := fun e s' => wpAny (model P w) (A.deeper (envOfC qual scope s.heap.objs.size f cd)) (leaving (envOfC qual scope s.heap.objs.size f cd) e) (fun _ s'' => CX outer H s E e s'') (fun e' s'' => CX outer H s E e' s'') s'

theorem cell_has {sc : Scope} {n : Nat} {x : Str} (h : sc.names.lookup x = some .cell) : ∃ c, (cellsFrom n sc.names []).lookup x = some c := by
  have q := PySem.W.cellsFrom_some sc.names n [] (.inl h)
  exact Option.isSome_iff_exists.mp q

theorem inv_start {CX : CXT} {P : Program} {w : World} {K : PySem.W.Frag} {mg : Str → Option Value} {base : Heap} {N ps : List Str} {qual : Str} {scope : Scope} {f : Addr} {cd : Value} {A : Around} {outer : List Env} {s s1 : Shared} {H : Hp} {E : XK} {us : List Value} {vs : List V}
    (S : FnScope N ps scope) (hd : A.handled = none) (e0 : Env0 P w K mg base A outer s H) (hl : vs.length = ps.length) (r : Vals vs us)
    (x : InCallC s s.heap.objs.size (bindL (envOfC qual scope s.heap.objs.size f cd).kindOf (ps.zip us) fun _ => none) (cellsFrom (s.heap.objs.size + 1) scope.names []) (bindC (envOfC qual scope s.heap.objs.size f cd).kindOf (ps.zip us) fun _ => none) s1) :
    Inv (cxOf CX P w K mg base N qual scope f cd A outer s H E) [] (start N vs) H s1 := by
  have hpl : ps.length ≤ N.length := by have := congrArg List.length S.pre; rw [List.length_take] at this; omega
  obtain ⟨h1, tk, rfl, hk⟩ := x.done
  have noA : ∀ b : Addr, b ∉ (cxOf CX P w K mg base N qual scope f cd A outer s H E).ex := fun b z => absurd (show b ∈ ([] : List Addr) from z) (by simp)
  refine ⟨⟨e0.mod, S.kind, rfl, rfl, Nat.le_refl _, fun y z c h1 h2 => ?_, fun y hy => ?_, fun y c _ h => ?_, fun _ => hd, Around.frames_deeper e0.frames, .inr ⟨rfl, rfl⟩, fun b z => absurd z (noA b), e0.bs, e0.bsz, fun b _ _ => noA b, fun b z => absurd z (noA b), e0.funs, e0.frf⟩,
    rfl, e0.bare, Un.kept hk, ⟨_, x.toInCall.ns, fun i y v h1 h2 h3 => ?_⟩, fun y c h => ⟨_, x.cell y c h⟩, e0.hok.fresh (Nat.le_refl _), fun y c h => ?_, fun p hp => absurd (show p ∈ ([] : List (Addr × Obj)) from hp) (by simp), e0.hok.kept hk, ?_⟩
  · exact name_of_addr x.apart (PySem.mem_of_lookup h1) (PySem.mem_of_lookup h2)
  · have hy : scope.names.lookup y = some .cell ∨ scope.names.lookup y = some .free := hy
    rcases hy with hy | hy
    · exact cell_has hy
    · exact absurd rfl (S.nofree _ (PySem.mem_of_lookup hy))
  · exact Nat.le_of_lt (x.above y c (PySem.mem_of_lookup h))
  · have hi : i < vs.length := by
      unfold start at h2
      by_cases hi : i < vs.length
      · exact hi
      · rw [List.getElem?_append_right (by simpa using hi)] at h2
        rw [List.getElem?_replicate] at h2
        split at h2 <;> cases h2
    have ha : vs[i]? = some v := by
      unfold start at h2
      rw [List.getElem?_append_left (by simpa using hi), List.getElem?_map] at h2
      cases e : vs[i]? with
      | none => rw [e] at h2; cases h2
      | some a => rw [e] at h2; cases h2; rfl
    obtain ⟨u, hu, rv⟩ := r.get ha
    have hp : ps[i]? = some y := by
      rw [← S.pre, List.getElem?_take_of_lt (by omega)]; exact h1
    have ndP : ps.Nodup := by rw [← S.pre]; exact S.nd.sublist (List.take_sublist _ _)
    refine ⟨u, rv, ?_⟩
    rcases S.par y (List.mem_of_getElem? hp) with k | k
    · exact .inl ⟨k, bindL_get ndP hp hu k⟩
    · obtain ⟨c, e⟩ := cell_has (n := s.heap.objs.size + 1) k
      refine .inr ⟨.inl k, c, e, ?_⟩
      have q := x.cell y c e
      rw [bindC_get ndP hp hu (by show scope.names.lookup y ≠ _; rw [k]; decide)] at q
      exact q
  · exact e0.hok.fresh (Nat.le_of_lt (x.above y c (PySem.mem_of_lookup h)))
  · unfold start
    show _ = N.length
    rw [List.length_append, List.length_map, List.length_replicate]
    omega

/-- THE RULE: a def (or a method) of the text, by its body. The body's reading t is chosen for each entry; it is run at the parameters' values -/
theorem fn_of {CX : CXT} {P : Program} {w : World} {K : PySem.W.Frag} {mg : Str → Option Value} {base : Heap} {k : Nat} {f : Addr} {name qual : Str} {params : Arguments} {body : List Stmt} {scope : Scope} {dV kV doc pm cdv ct oc : Value} {an od : Option Addr}
    {osl : Array (Option Value)} {N ps : List Str} {sp : Sp} (lk : K.lookup f = some ⟨oc, od, .func (PySem.W.fnOf name qual params body scope dV kV doc pm an cdv ct), osl⟩) (hcd : PySem.W.codeIn K cdv qual = true) (S : FnScope N ps scope)
    (len : ∀ vs H Q E, sp vs H Q E → vs.length = ps.length)
    (hbody : ∀ (A : Around) (outer : List Env) (s : Shared) (H : Hp) (vs : List V) (Q : VK) (E : XK), Room k (A.deeper (envOfC qual scope s.heap.objs.size f cdv)) → sp vs H Q E →
      ∃ t, PSs (cxOf CX P w K mg base N qual scope f cdv A outer s H E) body t ∧ t { nx := fun _ H' => Q .non H', rt := Q } (start N vs) H) :
    FnOk P w K mg base CX (k + 1) f (PySem.W.fnOf name qual params body scope dV kV doc pm an cdv ct) ps sp := by
  refine ⟨len, fun A outer s H args us vs Q E hr e0 hb r hsp => ?_⟩
  have hl := len _ _ _ _ hsp
  have KX : K.In s.heap := e0.mod.kin.keeps fun b o e => (e0.bs b o e).1
  have lim : s.heap.NoLimit := e0.mod.nolimit.keeps fun b o e => (e0.bs b o e).1
  have hkind : ∀ y ∈ ps.zip us, scope.names.lookup y.1 = some .local ∨ (scope.names.lookup y.1 = some .cell ∧ ((cellsFrom (s.heap.objs.size + 1) scope.names []).lookup y.1).isSome = true) := fun ⟨n, v⟩ hy => by
    rcases S.par n (List.of_mem_zip hy).1 with q | q
    · exact .inl q
    · exact .inr ⟨q, PySem.W.cellsFrom_some _ _ _ (.inl q)⟩
  refine codeAny_call_function hr.depth (KX _ _ lk) rfl S.co S.gen rfl (PySem.W.codeRec_of KX hcd) (hb _ _ _ _ ?_)
  refine wpAny_newFunctionEnv_cells S.kind hkind fun env he s1 x => ?_
  subst he
  refine ⟨lim.keeps x.toInCall.keep, codeAny_func ?_⟩
  obtain ⟨t, ht, hq⟩ := hbody A outer s H vs Q E (hr.deeper _) hsp
  have I : Inv (cxOf CX P w K mg base N qual scope f cdv A outer s H E) [] (start N vs) H s1 := inv_start S hr.hd e0 hl r x
  refine wpAny_mono (ht [] s1 (start N vs) H _ I hq) (fun fl s' hs => ?_) fun e s' hs => hs
  have fin : ∀ {σ' : St} {H' : Hp} {v : V} {u : Value}, Inv (cxOf CX P w K mg base N qual scope f cdv A outer s H E) [] σ' H' s' → RelV v u → Q v H' → CE outer P w H s Q u s' :=
    fun {σ' H' v u} J rv q => ⟨v, H', J.os, J.bare, J.base, J.hok, rv, q⟩
  cases fl with
  | ret u =>
    obtain ⟨v, σ', H', J, rv, q⟩ := hs
    exact fin J rv q
  | next =>
    obtain ⟨σ', H', J, q⟩ := hs
    exact fin (v := V.non) (u := Value.none) J rfl q
  | brk =>
    obtain ⟨_, _, _, q⟩ := hs
    exact False.elim q
  | cont =>
    obtain ⟨_, _, _, q⟩ := hs
    exact False.elim q
end L2

namespace L2
open PySem PySem.Spec PyProof.Rows
section
variable {X : Cx} {x : Str} {p pos : Pos} {e : Expr} {es : List Expr} {t : TA} {id T : String} {r : List V → Hp → VK → Prop}

def tCB (r : List V → Hp → VK → Prop) (t : TA) : TE := fun σ H Q => t σ H fun vs H1 => r vs H1 Q
/-- f(e, ..), f a built-in function -/
theorem pe_callB (hc : CallR X (.builtin id) r) (hg : Gl X x) (hm : X.mg x = none) (hv : bootBuiltins x = some (.builtin id)) (ha : PA X (e :: es) t) (hn : x ≠ "__name__" := by decide) (hdb : (x == ("__debug__" : Str)) = false := by decide)
    (he : starEach (e :: es) X.env = (false, eval e X.env) :: starEach es X.env := by rfl) (hpl : (backTo pos (starEach es X.env)).any (·.1) = false := by rfl) : PE X (.Call (.Name x p) (e :: es) [] pos) (tCB r t) := by
  intro pins s σ H Q I h
  refine wpAny_Call_Name_kw (ld_blt I hg hm hv ?_ hn hdb)
  exact PyProof.Rows.callWith_builtin1 (thn (ha pos pins s σ H _ I h) fun us s1 ⟨vs, H1, I1, r1, q1⟩ => hc pins s1 σ H1 vs us Q I1 r1 q1) he hpl
/-- T(e, ..), T a built-in type -/
theorem pe_callTy (hc : CallR X (.type T) r) (hg : Gl X x) (hm : X.mg x = none) (hv : bootBuiltins x = some (.type T)) (ha : PA X (e :: es) t) (hn : x ≠ "__name__" := by decide) (hdb : (x == ("__debug__" : Str)) = false := by decide)
    (he : starEach (e :: es) X.env = (false, eval e X.env) :: starEach es X.env := by rfl) (hpl : (backTo pos (starEach es X.env)).any (·.1) = false := by rfl) : PE X (.Call (.Name x p) (e :: es) [] pos) (tCB r t) := by
  intro pins s σ H Q I h
  refine wpAny_Call_Name_kw (ld_blt I hg hm hv ?_ hn hdb)
  exact PyProof.Rows.callWith_type1 (thn (ha pos pins s σ H _ I h) fun us s1 ⟨vs, H1, I1, r1, q1⟩ => hc pins s1 σ H1 vs us Q I1 r1 q1) he hpl
end
end L2

namespace HT
open PySem PyProof.Rows

section
open PySem.SeqAt
open PySem.AutoSeq1 (wpAny_loadPart')
open PySem.MeetsSeq PySem.MeetsSeq2 PySem.MeetsSeq3

end

section
variable {prog : Program} {w : World} {A : Around} {E : Value → Shared → Prop} {s : Shared}

/-! ### t[a:b], not the whole -/
/-- a slice's bound as a place among n (d where it is left out) -/
def sIx (n d : Nat) : Option Int → Nat
  | none => d
  | some v => if v < 0 then (v + (n : Int)).toNat else min v.toNat n
theorem sIx_none (n d : Nat) : sIx n d none = d := rfl
theorem sIx_nat (n d k : Nat) : sIx n d (some (k : Int)) = min k n := by
  show (if (k : Int) < 0 then ((k : Int) + (n : Int)).toNat else min (k : Int).toNat n) = min k n
  rw [if_neg (by omega), Int.toNat_natCast]
end
end HT

namespace L2
open PySem PySem.Spec PyProof.Rows

/-! ### the parts of a slice -/
abbrev TO := St → Hp → (Option Int → Hp → Prop) → Prop
/-- a slice's part (left out, or an int) -/
def PO (X : Cx) (e : Option Expr) (t : TO) : Prop :=
  ∀ (pins : List (Addr × Obj)) (s : Shared) (σ : St) (H : Hp) (Q : Option Int → Hp → Prop), Inv X pins σ H s → t σ H Q →
    wpAny (model X.prog X.w) X.A (evalPart e X.env) (fun u s' => ∃ o H', Inv X pins σ H' s' ∧ IsPart u o ∧ Q o H') X.xe s
def tNoPart : TO := fun _ H Q => Q none H
def tPart (t : TE) : TO := fun σ H Q => t σ H fun x H1 => ∃ i, x = .int i ∧ Q (some i) H1

section
variable {X : Cx} {e : Expr} {te : TE} {lo hi : Option Expr} {tl th : TO} {pos p2 : Pos}

theorem po_none : PO X none tNoPart := by
  intro pins s σ H Q I h
  rw [evalPart_none]
  exact wpAny_pure ⟨none, H, I, .none, h⟩
theorem po_some (h : PE X e te) : PO X (some e) (tPart te) := by
  intro pins s σ H Q I hw
  rw [evalPart_some]
  refine thn (h pins s σ H _ I hw) fun u s1 ⟨x, H1, I1, r1, q1⟩ => ?_
  obtain ⟨i, rfl, q⟩ := q1
  obtain ⟨t, rfl⟩ := r1
  exact ⟨some i, H1, I1, .int i t, q⟩

/-- what a slice of a value is, by values: the slice object stands at sl -/
def SlR (X : Cx) (r : V → Option Int → Option Int → Hp → VK → Prop) : Prop :=
  ∀ (pins : List (Addr × Obj)) (s : Shared) (σ : St) (H : Hp) (x : V) (v vl vu : Value) (lo hi : Option Int) (sl : Addr) (Q : VK), Inv X pins σ H s → RelV x v → s.heap.IsSliceOf sl vl vu .none → IsPart vl lo → IsPart vu hi → r x lo hi H Q →
    ∃ T id, typeLookup (.type T) "__getitem__" = pure (some (.builtin id)) ∧ s.TypeIs v T ∧ wpAny (model X.prog X.w) X.A (getItem v (.ref sl)) (EP X pins σ Q) X.xe s
theorem SlR.or {r r' : V → Option Int → Option Int → Hp → VK → Prop} (h : SlR X r) (h' : SlR X r') : SlR X (fun x lo hi H Q => r x lo hi H Q ∨ r' x lo hi H Q) := by
  intro pins s σ H x v vl vu lo hi sl Q I rx hs pl pu q
  rcases q with q | q
  · exact h pins s σ H x v vl vu lo hi sl Q I rx hs pl pu q
  · exact h' pins s σ H x v vl vu lo hi sl Q I rx hs pl pu q
def tSl (r : V → Option Int → Option Int → Hp → VK → Prop) (te : TE) (tl th : TO) : TE := fun σ H Q => te σ H fun x H1 => tl σ H1 fun l H2 => th σ H2 fun u H3 => r x l u H3 Q
/-- a[lo:hi], any a -/
theorem pe_slice {r : V → Option Int → Option Int → Hp → VK → Prop} (hr : SlR X r) (he : PE X e te) (hl : PO X lo tl) (hu : PO X hi th) : PE X (.Subscript e (.Slice lo hi none p2) pos) (tSl r te tl th) := by
  intro pins s σ H Q I h
  refine Subscript_ (thn (he pins s σ H _ I h) fun v s1 ⟨x, H1, I1, r1, q1⟩ => ?_)
  refine wpAny_Slice (thn (hl pins s1 σ H1 _ I1 q1) fun vl s2 ⟨l, H2, I2, pl, q2⟩ => thn (hu pins s2 σ H2 _ I2 q2) fun vu s3 ⟨u, H3, I3, pu, q3⟩ => ?_)
  rw [evalPart_none]
  refine wpAny_pure ?_
  have I4 : Inv X pins σ H3 { s3 with heap := s3.heap.push { cls := .type "slice", data := .fields #[vl, vu, .none] } } := I3.kept (t' := s3.toks) fun b ob q => Heap.get?_push_of_some _ q
  obtain ⟨T, id, hT, ht, hg⟩ := hr pins { s3 with heap := s3.heap.push { cls := .type "slice", data := .fields #[vl, vu, .none] } } σ H3 x v vl vu l u s3.heap.objs.size Q I4 r1 (Heap.IsSliceOf.new ..) pl pu q3
  show wpAny (model X.prog X.w) X.A (subscriptTail e (.Slice lo hi none p2) v (.ref s3.heap.objs.size)) (EP X pins σ Q) X.xe { s3 with heap := s3.heap.push { cls := .type "slice", data := .fields #[vl, vu, .none] } }
  exact tail_any (ops := [.ref s3.heap.objs.size, v]) ht hT hg (by with_unfolding_all rfl)

/-- the items of xs[lo:hi] -/
def cutV (xs : List V) (lo hi : Option Int) : List V := (xs.drop (HT.sIx xs.length 0 lo)).take (HT.sIx xs.length xs.length hi - HT.sIx xs.length 0 lo)
theorem cutV_length (xs : List V) (lo hi : Option Int) : (cutV xs lo hi).length ≤ xs.length := by
  unfold cutV
  rw [List.length_take, List.length_drop]
  omega
/-! ### t < u, t + u -/
end
end L2

namespace L2
open PySem PySem.Spec PyProof.Rows

/-! ### places -/
/-- the place that an index of any sign means -/
def ixN (n : Nat) (i : Int) : Option Nat := if 0 ≤ i then (if i < n then some i.toNat else none) else if -(n : Int) ≤ i then some (i + n).toNat else none
def atI {α : Type} (xs : List α) (i : Int) : Option α := (ixN xs.length i).bind fun j => xs[j]?
theorem ixN_seq {n : Nat} {i : Int} {j : Nat} (h : ixN n i = some j) : seqIndex? i n = some j ∧ j < n ∧ -(n : Int) ≤ i ∧ i < n := by
  unfold ixN at h
  by_cases h0 : 0 ≤ i
  · rw [if_pos h0] at h
    by_cases h1 : i < n
    · rw [if_pos h1] at h
      have e : i.toNat = j := Option.some.inj h
      exact ⟨by rw [seqIndex_of h0 h1, e], by omega, by omega, h1⟩
    · rw [if_neg h1] at h; cases h
  · rw [if_neg h0] at h
    by_cases h1 : -(n : Int) ≤ i
    · rw [if_pos h1] at h
      have e : (i + n).toNat = j := Option.some.inj h
      exact ⟨by rw [seqIndex_neg (by omega) h1, e], by omega, h1, by omega⟩
    · rw [if_neg h1] at h; cases h
theorem atI_get {α : Type} {xs : List α} {i : Int} {v : α} (h : atI xs i = some v) : ∃ j, seqIndex? i xs.length = some j ∧ xs[j]? = some v ∧ j < xs.length ∧ -(xs.length : Int) ≤ i ∧ i < xs.length := by
  unfold atI at h
  cases e : ixN xs.length i with
  | none => rw [e] at h; cases h
  | some j =>
    rw [e] at h
    obtain ⟨h1, h2, h3, h4⟩ := ixN_seq e
    exact ⟨j, h1, h, h2, h3, h4⟩
theorem atI_nat {α : Type} {xs : List α} {j : Nat} {v : α} (h : xs[j]? = some v) : atI xs (j : Int) = some v := by
  have hj : j < xs.length := (List.getElem?_eq_some_iff.mp h).1
  have e : ixN xs.length (j : Int) = some j := by
    unfold ixN
    rw [if_pos (by omega), if_pos (by omega)]; simp
  unfold atI; rw [e]; exact h
/-! ### what may be subscripted -/
/-- what stands as an index of a plain subscript -/
def PlainIx (b : Expr) : Prop := ∀ o i, subscripted b false o i = operate [o, i] (getItem o i)
/-- a subscript by values -/
def IxR (X : Cx) (r : R2) : Prop :=
  ∀ (value slice : Expr) (pins : List (Addr × Obj)) (s : Shared) (σ : St) (H : Hp) (x y : V) (v u : Value) (Q : VK), Inv X pins σ H s → RelV x v → RelV y u → r x y H Q →
    subscripted slice false v u = operate [v, u] (getItem v u) → wpAny (model X.prog X.w) X.A (subscriptTail value slice v u) (EP X pins σ Q) X.xe s
/-- a call of a builtin's method by values: the receiver, the arguments -/
def MtR (X : Cx) (id : String) (r : V → List V → Hp → VK → Prop) : Prop :=
  ∀ (pins : List (Addr × Obj)) (s : Shared) (σ : St) (H : Hp) (x : V) (xs : List V) (v : Value) (us : List Value) (Q : VK), Inv X pins σ H s → RelV x v → Vals xs us → r x xs H Q →
    wpAny (model X.prog X.w) X.A (call (.builtin id) (v :: us)) (EP X pins σ Q) X.xe s
section
variable {X : Cx} {a b : Expr} {ta tb : TE} {pos : Pos}
theorem IxR.or {r r' : R2} (h : IxR X r) (h' : IxR X r') : IxR X (fun x y H Q => r x y H Q ∨ r' x y H Q) := by
  intro value slice pins s σ H x y v u Q I rx ry q hs
  rcases q with q | q
  · exact h value slice pins s σ H x y v u Q I rx ry q hs
  · exact h' value slice pins s σ H x y v u Q I rx ry q hs
theorem MtR.or {id : String} {r r' : V → List V → Hp → VK → Prop} (h : MtR X id r) (h' : MtR X id r') : MtR X id (fun x xs H Q => r x xs H Q ∨ r' x xs H Q) := by
  intro pins s σ H x xs v us Q I rx rs q
  rcases q with q | q
  · exact h pins s σ H x xs v us Q I rx rs q
  · exact h' pins s σ H x xs v us Q I rx rs q
/-- a[b] -/
theorem pe_ix {r : R2} (hr : IxR X r) (ha : PE X a ta) (hb : PE X b tb) (hs : PlainIx b) : PE X (.Subscript a b pos) (tOp r ta tb) := by
  intro pins s σ H Q I h
  exact Subscript_ (binT ha hb I h fun v u s2 x y H2 I2 rx ry q => hr a b pins s2 σ H2 x y v u Q I2 rx ry q (hs _ _))

def rIxL (K : PySem.W.Frag) : R2 := fun x y H Q => ∃ p xs i v, x = .ref p ∧ y = .int i ∧ SqL K H p xs ∧ atI xs i = some v ∧ Q v H
def rIxT (K : PySem.W.Frag) : R2 := fun x y H Q => ∃ p xs i v, x = .ref p ∧ y = .int i ∧ SqT K H p xs ∧ atI xs i = some v ∧ Q v H
def rIxS : R2 := fun x y H Q => ∃ z i c, x = .str z ∧ y = .int i ∧ z.length ≤ sizeLine ∧ atI z.cps.toList i = some c ∧ Q (.str ⟨#[c]⟩) H
theorem ix_list : IxR X (rIxL X.K) := by
  intro value slice pins s σ H x y v u Q I rx ry h hs
  obtain ⟨p, xs, i, z, rfl, rfl, hq, he, q⟩ := h
  cases rx
  obtain ⟨t, rfl⟩ := ry
  obtain ⟨its, r, pl, hz⟩ := I.list hq
  obtain ⟨j, h1, h2, h3, h4, h5⟩ := atI_get he
  obtain ⟨w, ew, rw'⟩ := r.get h2
  have hl := r.length
  have hn := line63
  have fin : EP X pins σ Q w s := ⟨z, H, I, rw', q⟩
  by_cases h0 : 0 ≤ i
  · have hj : i.toNat = j := by
      rw [seqIndex_of h0 h5] at h1
      exact Option.some.inj h1
    exact item_listR pl.isList h0 (by omega) (by rw [hj]; simpa using ew) fin hs
  · have hj : (i + (its.toArray.size : Int)).toNat = j := by
      rw [seqIndex_neg (by omega) h4] at h1
      rw [List.size_toArray, ← hl]
      exact Option.some.inj h1
    exact subscriptTail_builtinR (x := w) pl.isList.typeIs slot_list_getitem.lookup
      (wpAny_getItem_list_neg (Q := fun r s' => r = w ∧ EP X pins σ Q r s') pl.isList (by omega) (by rw [List.size_toArray] <;> omega) (by omega) (by rw [hj]; simpa using ew) ⟨rfl, fin⟩) hs
theorem ix_tup : IxR X (rIxT X.K) := by
  intro value slice pins s σ H x y v u Q I rx ry h hs
  obtain ⟨p, xs, i, z, rfl, rfl, hq, he, q⟩ := h
  cases rx
  obtain ⟨t, rfl⟩ := ry
  obtain ⟨its, r, pl, hz⟩ := I.tuple hq
  obtain ⟨j, h1, h2, h3, h4, h5⟩ := atI_get he
  obtain ⟨w, ew, rw'⟩ := r.get h2
  have hl := r.length
  have hn := line63
  have fin : EP X pins σ Q w s := ⟨z, H, I, rw', q⟩
  exact subscriptTail_builtinR (x := w) pl.typeIs slot_tuple_getitem.lookup
    (getItem_tuple (j := j) (Q := fun r s' => r = w ∧ EP X pins σ Q r s') pl (by omega) (by omega) (by rw [List.size_toArray, ← hl]; exact h1) (by simpa using ew) ⟨rfl, fin⟩) hs
theorem ix_str : IxR X rIxS := by
  intro value slice pins s σ H x y v u Q I rx ry h hs
  obtain ⟨z, i, c, rfl, rfl, hz, he, q⟩ := h
  obtain ⟨t, rfl⟩ := rx
  obtain ⟨t', rfl⟩ := ry
  obtain ⟨j, h1, h2, h3, h4, h5⟩ := atI_get he
  have hl : z.cps.toList.length = z.length := by simp [Str.length]
  rw [hl] at h1 h4 h5
  have hn := line63
  exact tail_any (typeIs_str s z t) slot_str_getitem.lookup (getItem_str (c := c) (by
    have e1 : decide (i < -(2 ^ 63 : Int)) = false := decide_eq_false (by omega)
    have e2 : decide (i ≥ 2 ^ 63) = false := decide_eq_false (by omega)
    rw [e1, e2, Bool.or_false]) (by rw [h1]; simpa using h2) ⟨.str ⟨#[c]⟩, H, I.tok _, ⟨_, rfl⟩, q⟩) hs
/-- list, tuple or str -/
def rIx (K : PySem.W.Frag) : R2 := fun x y H Q => rIxL K x y H Q ∨ rIxT K x y H Q ∨ rIxS x y H Q
theorem ix_seq : IxR X (rIx X.K) := ix_list.or (ix_tup.or ix_str)

/-! ### xs[i] = v, any sign -/
/-- the list's object behind a store -/
theorem mapSeq_set (its : List Value) (n j : Nat) (u : Value) : Obj.mapSeq (·.setIfInBounds j u) { cls := .type "list", data := .seq its.toArray n } = { cls := .type "list", data := .seq (its.set j u).toArray n } := by
  simp [Obj.mapSeq]
theorem Inv.lst {pins : List (Addr × Obj)} {σ : St} {H : Hp} {s : Shared} {p : Addr} {xs : List V} (I : Inv X pins σ H s) (h : H p = some (.lst xs)) :
    ∃ (its : List Value) (n : Nat), Vals xs its ∧ s.heap.get? p = some { cls := .type "list", data := .seq its.toArray n } ∧ xs.length ≤ sizeLine := by
  obtain ⟨z, its, n, r, e⟩ := I.hok p _ h
  exact ⟨its, n, r, e, z⟩
/-- the list at p is written by an update of its object -/
theorem Inv.lstUpd {pins : List (Addr × Obj)} {σ : St} {H : Hp} {s : Shared} {p : Addr} {xs ys : List V} {its its' : List Value} {n n' : Nat} {f : Obj → Obj} (I : Inv X pins σ H s) (h : H p = some (.lst xs))
    (ho : s.heap.get? p = some { cls := .type "list", data := .seq its.toArray n }) (hf : f { cls := .type "list", data := .seq its.toArray n } = { cls := .type "list", data := .seq its'.toArray n' }) (r : Vals ys its') (hz : ys.length ≤ sizeLine) (t : Nat) :
    Inv X pins σ (upd H p (.lst ys)) { s with heap := s.heap.update p f, toks := t } := by
  have e : (s.heap.update p f).get? p = some { cls := .type "list", data := .seq its'.toArray n' } := by
    rw [Heap.get?_update_self f ho (by rw [hf] <;> rfl), hf]
  refine I.write (x := p) (e := p) (by rw [h]; trivial) (.inl rfl) (fun b u hb q => (Heap.get?_update_other _ _ (Ne.symm hb)).trans q) ⟨_, e⟩ ?_
  exact ⟨hz, its', n', r, e⟩
def rSetL : V → V → V → Hp → (Hp → Prop) → Prop := fun o i v H Q => ∃ p xs k j, o = .ref p ∧ i = .int k ∧ H p = some (.lst xs) ∧ ixN xs.length k = some j ∧ Q (upd H p (.lst (xs.set j v)))
theorem set_list : PSet X rSetL := by
  intro pins s σ H o i v ov iv u Q I ro ri rv h
  obtain ⟨p, xs, k, j, rfl, rfl, hp, hj, q⟩ := h
  cases ro
  obtain ⟨t, rfl⟩ := ri
  obtain ⟨its, n, r, ho, hz⟩ := I.lst hp
  obtain ⟨h1, h2, h3, h4⟩ := ixN_seq hj
  have hl := r.length
  have hn := line63
  have I' : Inv X pins σ (upd H p (.lst (xs.set j v))) { s with heap := s.heap.update p (Obj.mapSeq (·.setIfInBounds j u)) } :=
    I.lstUpd hp ho (mapSeq_set its n j u) (r.set rv j) (by rw [List.length_set]; exact hz) s.toks
  by_cases h0 : 0 ≤ k
  · have hk : k.toNat = j := by
      rw [seqIndex_of h0 h4] at h1
      exact Option.some.inj h1
    exact PySem.W.ki_setAt ho h0 (by omega) (by rw [List.size_toArray, ← hl]; exact h4) (by rw [hk]; exact ⟨_, I', q⟩)
  · have hk : (k + (its.toArray.size : Int)).toNat = j := by
      rw [seqIndex_neg (by omega) h3] at h1
      rw [List.size_toArray, ← hl]
      exact Option.some.inj h1
    exact PySem.W.ki_setBack ho (by omega) (by rw [List.size_toArray, ← hl]; exact h3) (by omega) (by rw [hk]; exact ⟨_, I', q⟩)

/-! ### slices -/
theorem slice_bounds (lo hi : Option Int) (n : Nat) : (sliceBounds lo hi none n).1 = ((HT.sIx n 0 lo : Nat) : Int) ∧ (sliceBounds lo hi none n).2.1 = ((HT.sIx n n hi : Nat) : Int) ∧ (sliceBounds lo hi none n).2.2 = 1 := by
  refine ⟨?_, ?_, rfl⟩
  · cases lo with
    | none => simp [sliceBounds, HT.sIx]
    | some i =>
      simp only [sliceBounds, HT.sIx, Option.getD_none, show (1 : Int) > 0 by decide, if_true]
      by_cases h : i < 0
      · simp only [h, if_true] <;> omega
      · simp only [h, if_false] <;> omega
  · cases hi with
    | none => simp [sliceBounds, HT.sIx]
    | some i =>
      simp only [sliceBounds, HT.sIx, Option.getD_none, show (1 : Int) > 0 by decide, if_true]
      by_cases h : i < 0
      · simp only [h, if_true] <;> omega
      · simp only [h, if_false] <;> omega
theorem slicePick_cut (its : List Value) (lo hi : Option Int) : slicePick its.toArray lo hi none = ((its.drop (HT.sIx its.length 0 lo)).take (HT.sIx its.length its.length hi - HT.sIx its.length 0 lo)).toArray := by
  obtain ⟨h1, h2, h3⟩ := slice_bounds lo hi its.toArray.size
  unfold slicePick
  rw [h1, h2, h3]
  simp only [sliceRange_one, pick_run, List.size_toArray] <;> rfl
/-- xs[lo:hi] of a list: a new list -/
def rSlL (K : PySem.W.Frag) : V → Option Int → Option Int → Hp → VK → Prop := fun x lo hi H Q => ∃ a xs, x = .ref a ∧ SqL K H a xs ∧ ∀ p, H p = none → Q (.ref p) (upd H p (.lst (cutV xs lo hi)))
theorem sl_list : SlR X (rSlL X.K) := by
  intro pins s σ H x v vl vu lo hi sl Q I rx hs pl pu h
  obtain ⟨a, xs, rfl, hx, q⟩ := h
  cases rx
  obtain ⟨its, r, ht, hz⟩ := I.list hx
  have hlen := r.length
  refine ⟨"list", _, slot_list_getitem.lookup, ht.isList.typeIs, ?_⟩
  refine wpAny_getItem_list_slice ht.isList hs pl pu .none (by simp) ?_ (by rw [List.size_toArray] <;> omega)
  rw [slicePick_cut, ← hlen]
  refine ⟨.ref s.heap.objs.size, _, I.laid (t' := s.toks) (o := .lst (cutV xs lo hi)) (fun b ob q => Heap.get?_push_of_some _ q) (Nat.le_refl _) ?_, rfl, q _ (I.hok.fresh (Nat.le_refl _))⟩
  exact ⟨Nat.le_trans (cutV_length xs lo hi) hz, _, 0, (r.drop (HT.sIx xs.length 0 lo)).take (HT.sIx xs.length xs.length hi - HT.sIx xs.length 0 lo), Heap.get?_push_size _ rfl⟩

/-! ### in, not in: flat items -/
def flatV : V → Bool
  | .non => true
  | .bl _ => true
  | .int _ => true
  | .str _ => true
  | _ => false
/-- == of flat values -/
def eqV : V → V → Bool
  | .non, .non => true
  | .bl a, .bl b => a == b
  | .bl a, .int b => (if a then 1 else 0) == b
  | .int a, .bl b => a == (if b then 1 else 0)
  | .int a, .int b => a == b
  | .str a, .str b => a == b
  | _, _ => false
theorem eqAt_V {A : Around} {s : Shared} {y x : V} {u v : Value} (ry : RelV y u) (rx : RelV x v) (fy : flatV y = true) (fx : flatV x = true) : SeqAt.EqAt A s u v (eqV y x) := by
  cases y with
  | non =>
    cases ry
    cases x with
    | non => cases rx; exact SeqAt.EqAt.same _
    | bl b => cases rx; exact SeqAt.EqAt.none_bool b
    | int b => obtain ⟨t, rfl⟩ := rx; exact SeqAt.EqAt.none_int b t
    | str b => obtain ⟨t, rfl⟩ := rx; exact SeqAt.EqAt.none_str b t
    | _ => exact absurd (show false = true from fx) Bool.false_ne_true
  | bl a =>
    cases ry
    cases x with
    | non => cases rx; exact SeqAt.EqAt.bool_none a
    | bl b => cases rx; exact SeqAt.EqAt.bool_bool a b
    | int b => obtain ⟨t, rfl⟩ := rx; exact SeqAt.EqAt.bool_int a b t
    | str b => obtain ⟨t, rfl⟩ := rx; exact SeqAt.EqAt.bool_str a b t
    | _ => exact absurd (show false = true from fx) Bool.false_ne_true
  | int a =>
    obtain ⟨t', rfl⟩ := ry
    cases x with
    | non => cases rx; exact SeqAt.EqAt.int_none a t'
    | bl b => cases rx; exact SeqAt.EqAt.int_bool a t' b
    | int b => obtain ⟨t, rfl⟩ := rx; exact SeqAt.EqAt.int_int a t' b t
    | str b => obtain ⟨t, rfl⟩ := rx; exact SeqAt.EqAt.int_str a t' b t
    | _ => exact absurd (show false = true from fx) Bool.false_ne_true
  | str a =>
    obtain ⟨t', rfl⟩ := ry
    cases x with
    | non => cases rx; exact SeqAt.EqAt.str_none a t'
    | bl b => cases rx; exact SeqAt.EqAt.str_bool a t' b
    | int b => obtain ⟨t, rfl⟩ := rx; exact SeqAt.EqAt.str_int a t' b t
    | str b => obtain ⟨t, rfl⟩ := rx; exact SeqAt.EqAt.str_str a t' b t
    | _ => exact absurd (show false = true from fx) Bool.false_ne_true
  | _ => exact absurd (show false = true from fy) Bool.false_ne_true
/-- the items' answers, read off the values (a value's own answer does not lean on its token) -/
def eqU (x : V) (u : Value) : Bool := match u with
  | .none => eqV .non x
  | .bool b => eqV (.bl b) x
  | .int i _ => eqV (.int i) x
  | .str z _ => eqV (.str z) x
  | _ => false
theorem eqU_of {x y : V} {u : Value} (r : RelV y u) (f : flatV y = true) : eqU x u = eqV y x := by
  cases y with
  | non => cases r; rfl
  | bl b => cases r; rfl
  | int i => obtain ⟨t, rfl⟩ := r; rfl
  | str z => obtain ⟨t, rfl⟩ := r; rfl
  | _ => exact absurd (show false = true from f) Bool.false_ne_true
theorem any_eqU {x : V} : ∀ {xs : List V} {us : List Value}, Vals xs us → xs.all flatV = true → us.any (eqU x) = xs.any fun y => eqV y x
  | _, _, .nil, _ => rfl
  | y :: xs, u :: us, .cons r t, f => by
    rw [List.all_cons, Bool.and_eq_true] at f
    rw [List.any_cons, List.any_cons, eqU_of r f.1, any_eqU t f.2]
theorem mem_eqAt {A : Around} {s : Shared} {x : V} {v : Value} (rx : RelV x v) (fx : flatV x = true) : ∀ {xs : List V} {us : List Value}, Vals xs us → xs.all flatV = true → ∀ u ∈ us, SeqAt.EqAt A s u v (eqU x u)
  | _, _, .nil, _ => fun u hu => by cases hu
  | y :: xs, u :: us, .cons r t, f => fun u' hu => by
    rw [List.all_cons, Bool.and_eq_true] at f
    rcases List.mem_cons.mp hu with rfl | hu
    · rw [eqU_of r f.1]; exact eqAt_V r rx f.1 fx
    · exact mem_eqAt rx fx t f.2 u' hu
def inV (x : V) (xs : List V) : Bool := xs.any fun y => eqV y x
/-- x in a list or tuple of flat items -/
def rIn (K : PySem.W.Frag) (neg : Bool) : R2 := fun x y H Q => ∃ p xs, y = .ref p ∧ (SqL K H p xs ∨ SqT K H p xs) ∧ flatV x = true ∧ xs.all flatV = true ∧ Q (.bl (if neg then !inV x xs else inV x xs)) H
theorem op_in_seq : OpR X (compareOp .In) (rIn X.K false) := by
  intro pins s σ H x y v u Q I rx ry h
  obtain ⟨p, xs, rfl, hq, fx, fs, q⟩ := h
  cases ry
  rcases hq with hq | hq
  · obtain ⟨its, r, pl, hz⟩ := I.list hq
    refine SeqAt.in_listAt (eqU x) pl.isList (fun w hw => mem_eqAt rx fx r fs w (by simpa using hw)) ⟨.bl _, H, I, rfl, ?_⟩
    rw [show its.toArray.any (eqU x) = its.any (eqU x) by simp, any_eqU r fs]
    exact q
  · obtain ⟨its, r, pl, hz⟩ := I.tuple hq
    refine SeqAt.in_tupleAt (eqU x) pl (fun w hw => mem_eqAt rx fx r fs w (by simpa using hw)) ⟨.bl _, H, I, rfl, ?_⟩
    rw [show its.toArray.any (eqU x) = its.any (eqU x) by simp, any_eqU r fs]
    exact q
theorem op_notIn_seq : OpR X (compareOp .NotIn) (rIn X.K true) := by
  intro pins s σ H x y v u Q I rx ry h
  obtain ⟨p, xs, rfl, hq, fx, fs, q⟩ := h
  cases ry
  rcases hq with hq | hq
  · obtain ⟨its, r, pl, hz⟩ := I.list hq
    refine SeqAt.notIn_listAt (eqU x) pl.isList (fun w hw => mem_eqAt rx fx r fs w (by simpa using hw)) ⟨.bl _, H, I, rfl, ?_⟩
    rw [show its.toArray.any (eqU x) = its.any (eqU x) by simp, any_eqU r fs]
    exact q
  · obtain ⟨its, r, pl, hz⟩ := I.tuple hq
    refine SeqAt.notIn_tupleAt (eqU x) pl (fun w hw => mem_eqAt rx fx r fs w (by simpa using hw)) ⟨.bl _, H, I, rfl, ?_⟩
    rw [show its.toArray.any (eqU x) = its.any (eqU x) by simp, any_eqU r fs]
    exact q
/-! ### len, list(x), tuple(x) of any list or tuple that is read -/
theorem call_len_seq : CallR X (.builtin "len") (fun xs H Q => ∃ p ys, xs = [.ref p] ∧ (SqL X.K H p ys ∨ SqT X.K H p ys) ∧ Q (.int ys.length) H) := by
  intro pins s σ H xs us Q I r h
  obtain ⟨p, ys, rfl, hq, q⟩ := h
  obtain ⟨u, rfl, rx⟩ := vals1 r
  cases rx
  have hn := line63
  rcases hq with hq | hq
  · obtain ⟨its, r', pl, hz⟩ := I.list hq
    have hlen := r'.length
    exact Calls.call_len_list pl.isList (by simp only [List.size_toArray] <;> omega) ⟨.int ys.length, H, I.tok _, ⟨s.toks + 1, by rw [List.size_toArray, hlen]⟩, q⟩
  · obtain ⟨its, r', pl, hz⟩ := I.tuple hq
    have hlen := r'.length
    exact len_tuple pl (by simp only [List.size_toArray] <;> omega) ⟨.int ys.length, H, I.tok _, ⟨s.toks + 1, by rw [List.size_toArray, hlen]⟩, q⟩
theorem call_len_str : CallR X (.builtin "len") (fun xs H Q => ∃ z, xs = [.str z] ∧ z.length ≤ sizeLine ∧ Q (.int z.length) H) := by
  intro pins s σ H xs us Q I r h
  obtain ⟨z, rfl, hz, q⟩ := h
  obtain ⟨u, rfl, t, rfl⟩ := vals1 r
  have hn := line63
  exact len_str (by omega) ⟨.int z.length, H, I.tok _, ⟨_, rfl⟩, q⟩
theorem CallR.or {f : Value} {r r' : List V → Hp → VK → Prop} (h : CallR X f r) (h' : CallR X f r') : CallR X f (fun xs H Q => r xs H Q ∨ r' xs H Q) := by
  intro pins s σ H xs us Q I rs q
  rcases q with q | q
  · exact h pins s σ H xs us Q I rs q
  · exact h' pins s σ H xs us Q I rs q
theorem call_list_of : CallR X (.type "list") (fun xs H Q => ∃ p ys, xs = [.ref p] ∧ (SqL X.K H p ys ∨ SqT X.K H p ys) ∧ ∀ l, H l = none → Q (.ref l) (upd H l (.lst ys))) := by
  intro pins s σ H xs us Q I r h
  obtain ⟨p, ys, rfl, hq, q⟩ := h
  obtain ⟨u, rfl, rx⟩ := vals1 r
  cases rx
  have fin : ∀ (its : List Value), Vals ys its → ys.length ≤ sizeLine → ∀ (h' : Heap) (c' : Nat), (∀ b o', s.heap.get? b = some o' → h'.get? b = some o') →
      h'.get? s.heap.objs.size = some { cls := .type "list", dict := none, data := .seq its.toArray c', slots := #[] } → EP X pins σ Q (.ref s.heap.objs.size) { s with heap := h' } := fun its r' hz h' c' kp e =>
    ⟨.ref s.heap.objs.size, _, I.laid (t' := s.toks) kp (Nat.le_refl _) (show ObjOk X.prog X.w _ h' _ (.lst ys) from ⟨hz, its, c', r', e⟩), rfl, q _ (I.hok.fresh (Nat.le_refl _))⟩
  rcases hq with hq | hq
  · obtain ⟨its, r', pl, hz⟩ := I.list hq
    have hlen := r'.length
    obtain ⟨o, ho, hc, n, hd⟩ := pl.isList
    exact call_list_seq p (.inl rfl) ho hc hd (fun h' c' kp e => fin its r' hz h' c' kp e) (by simp only [List.size_toArray] <;> omega)
  · obtain ⟨its, r', pl, hz⟩ := I.tuple hq
    have hlen := r'.length
    obtain ⟨o, ho, hc, n, hd⟩ := pl
    exact call_list_seq p (.inr rfl) ho hc hd (fun h' c' kp e => fin its r' hz h' c' kp e) (by simp only [List.size_toArray] <;> omega)
/-! ### the call of a builtin's method: o.m(..) -/
/-- the value is of that builtin type -/
def tyV (K : PySem.W.Frag) (T : String) (x : V) (H : Hp) : Prop := match x with
  | .str _ => T = "str"
  | .int _ => T = "int"
  | .ref p => (T = "list" ∧ ∃ xs, SqL K H p xs) ∨ (T = "tuple" ∧ ∃ o, K.lookup p = some o ∧ o.cls = .type "tuple" ∧ o.dict = none) ∨
      (T = "dict" ∧ ((∃ kvs, H p = some (.dK kvs)) ∨ ∃ kvs, H p = some (.dT kvs))) ∨ (T = "set" ∧ ∃ S n, H p = some (.set S n))
  | _ => False
theorem tyV_is {pins : List (Addr × Obj)} {σ : St} {H : Hp} {s : Shared} {T : String} {x : V} {v : Value} (I : Inv X pins σ H s) (r : RelV x v) (ty : tyV X.K T x H) :
    s.TypeIs v T ∧ ∀ a, v = .ref a → ∃ ob, s.heap.get? a = some ob ∧ ob.dict = none := by
  cases x with
  | str z =>
    obtain ⟨t, rfl⟩ := r
    cases (show T = "str" from ty)
    exact ⟨typeIs_str s z t, fun _ e => nomatch e⟩
  | int i =>
    obtain ⟨t, rfl⟩ := r
    cases (show T = "int" from ty)
    exact ⟨typeIs_int s i t, fun _ e => nomatch e⟩
  | ref p =>
    cases r
    rcases ty with ⟨rfl, xs, hq⟩ | ⟨rfl, o, hk, hc, hd⟩ | ⟨rfl, hk⟩ | ⟨rfl, S, n, hk⟩
    · obtain ⟨its, _, pl, _⟩ := I.list hq
      refine ⟨pl.isList.typeIs, fun a e => ?_⟩
      cases e
      obtain ⟨o, n, e, c, hd, _⟩ := pl
      exact ⟨o, e, hd⟩
    · refine ⟨⟨o, I.kIn p o hk, hc⟩, fun a e => ?_⟩
      cases e
      exact ⟨o, I.kIn _ o hk, hd⟩
    · have z : ∃ o, s.heap.get? p = some o ∧ o.ExactDict := by
        rcases hk with ⟨kvs, hk⟩ | ⟨kvs, hk⟩
        · obtain ⟨_, _, _, _, o, _, _, e, ex, _⟩ := I.hok p _ hk
          exact ⟨o, e, ex⟩
        · obtain ⟨_, _, _, _, o, _, _, e, ex, _⟩ := I.hok p _ hk
          exact ⟨o, e, ex⟩
      obtain ⟨o, e, ex⟩ := z
      refine ⟨⟨o, e, ex.1⟩, fun a e2 => ?_⟩
      cases e2
      exact ⟨o, e, ex.2.1⟩
    · obtain ⟨o, _, _, _, e, ex, _⟩ := I.hok p _ hk
      refine ⟨⟨o, e, ex.1⟩, fun a e2 => ?_⟩
      cases e2
      exact ⟨o, e, ex.2.1⟩
  | _ => exact False.elim ty
def tBM (K : PySem.W.Frag) (T : String) (r : V → List V → Hp → VK → Prop) (to : TE) (t : TA) : TE := fun σ H Q => to σ H fun x H1 => tyV K T x H1 ∧ t σ H1 fun xs H2 => r x xs H2 Q
variable {o e : Expr} {es : List Expr} {to : TE} {t : TA} {name : Str} {apos cpos : Pos} {T id : String} {r : V → List V → Hp → VK → Prop}
theorem pe_bm (pa : PlainAttrs T) (slot : Slot T name id) (hty : typeOf (.builtin id) = pure (.type "method_descriptor")) (hm : MtR X id r) (ho : PE X o to) (ha : PA X (e :: es) t)
    (hbase : attributeBase o name X.env (eval o X.env) = eval o X.env := by rfl)
    (hfew : ((backTo cpos (starEach (e :: es) X.env)).all (fun x => !x.1) && (backToKw cpos (keywordEach [] X.env)).all (fun x => x.1.isSome)
      && decide ((e :: es).length + ([] : List Keyword).length + (if ([] : List Keyword).isEmpty then 0 else 1) < 30)) = true := by rfl)
    (hline : (apos.endLine == cpos.line) = true := by rfl) (hs : starEach (e :: es) X.env = (false, eval e X.env) :: starEach es X.env := by rfl) (hplain : (backTo cpos (starEach es X.env)).any (·.1) = false := by rfl) :
    PE X (.Call (.Attribute o name apos) (e :: es) [] cpos) (tBM X.K T r to t) := by
  intro pins s σ H Q I h
  refine wpAny_Call_method_late hbase hfew hline rfl (thn (ho pins s σ H _ I h) fun v s1 ⟨x, H1, I1, r1, ty, q1⟩ => ?_)
  obtain ⟨h1, h2⟩ := tyV_is I1 r1 ty
  refine ⟨T, id, pa, slot, hty, h1, h2, ?_⟩
  have hA := ha cpos pins s1 σ H1 _ I1 q1
  rw [hs] at hA ⊢
  refine Calls.callWith_builtin (by show (false || (backTo cpos (starEach es X.env)).any (·.1)) = false; rw [hplain] <;> rfl) (Calls.evalArgs_plain ?_)
  exact thn hA fun us s2 ⟨vs, H2, I2, r2, q2⟩ => hm pins s2 σ H2 x vs v us Q I2 r1 r2 q2
/- xs.append(e), list.index on a module's tuple .. are MtR facts of 06m -/
end
end L2

namespace L2
open PySem PySem.Spec PyProof.Rows

def MtM (X : Cx) (id : String) (r : V → List V → Hp → VK → Prop) : Prop :=
  ∀ (pins : List (Addr × Obj)) (s : Shared) (σ : St) (H : Hp) (x : V) (xs : List V) (v : Value) (us : List Value) (Q : VK), Inv X pins σ H s → RelV x v → Vals xs us → r x xs H Q →
    wpAny (model X.prog X.w) X.A (call (.builtin id) (v :: us)) (EP X pins σ Q) X.xe s

/-! ### lists of values -/
theorem Vals.one : ∀ {x : V} {us : List Value}, Vals [x] us → ∃ u, us = [u] ∧ RelV x u
  | _, _, .cons r .nil => ⟨_, rfl, r⟩
theorem Vals.zero : ∀ {us : List Value}, Vals [] us → us = []
  | _, .nil => rfl
theorem Vals.dropLast {xs : List V} {us : List Value} (h : Vals xs us) : Vals xs.dropLast us.dropLast := by
  induction h with
  | nil => exact .nil
  | cons r t ih =>
    cases t with
    | nil => exact .nil
    | cons q t' => exact .cons r ih
theorem Vals.reverse {xs : List V} {us : List Value} (h : Vals xs us) : Vals xs.reverse us.reverse := by
  induction h with
  | nil => exact .nil
  | cons r t ih => rw [List.reverse_cons, List.reverse_cons]; exact Vals.append ih (.cons r .nil)
section
variable {X : Cx} {pins : List (Addr × Obj)} {σ : St} {H : Hp} {s : Shared} {l b : Addr} {xs ys zs : List V}

/-! ### the two steps: a tracked list is rewritten, a new list is laid -/
theorem Inv.lset {its its' : List Value} {n : Nat} {f : Array Value → Array Value} {t' : Nat} (I : Inv X pins σ H s) (hH : H l = some (.lst xs))
    (e : s.heap.get? l = some { cls := .type "list", data := .seq its.toArray n }) (hf : f its.toArray = its'.toArray) (hv : Vals ys its') (hz : ys.length ≤ sizeLine) :
    Inv X pins σ (upd H l (.lst ys)) { s with heap := s.heap.update l (Obj.mapSeq f), toks := t' } := by
  have q := PySem.IsL.update e f
  rw [hf] at q
  refine I.write (x := l) (e := l) (by rw [hH]; exact trivial) (.inl rfl) (fun b' u hb hu => (Heap.get?_update_other s.heap (Obj.mapSeq f) (Ne.symm hb)).trans hu) ⟨_, q⟩ ?_
  exact ⟨hz, its', _, hv, q⟩
theorem Inv.lnew {its : List Value} {t' : Nat} (I : Inv X pins σ H s) (hv : Vals ys its) (hz : ys.length ≤ sizeLine) :
    Inv X pins σ (upd H s.heap.objs.size (.lst ys)) { s with heap := s.heap.push { cls := .type "list", data := .seq its.toArray }, toks := t' } :=
  I.laid (fun _ _ q => Heap.get?_push_of_some _ q) (Nat.le_refl _) ⟨hz, its, 0, hv, Heap.get?_push_size _ rfl⟩
theorem Inv.fresh (I : Inv X pins σ H s) : H s.heap.objs.size = none := I.hok.fresh (Nat.le_refl _)
theorem Inv.lstM (I : Inv X pins σ H s) (hH : H l = some (.lst xs)) : xs.length ≤ sizeLine ∧ ∃ (its : List Value) (n : Nat), Vals xs its ∧ xs.length = its.length ∧ s.heap.get? l = some { cls := .type "list", data := .seq its.toArray n } := by
  obtain ⟨z, its, n, r, e⟩ := I.hok l _ hH
  exact ⟨z, its, n, r, r.length, e⟩

end

section
variable {X : Cx}

/-! ### methods -/
def rAppend : V → List V → Hp → VK → Prop := fun x vs H Q => ∃ l xs y, x = .ref l ∧ vs = [y] ∧ H l = some (.lst xs) ∧ xs.length < sizeLine ∧ Q .non (upd H l (.lst (xs ++ [y])))
theorem mt_append : MtM X "list.append" rAppend := by
  intro pins s σ H x vs v us Q I rx rv h
  obtain ⟨l, xs, y, rfl, rfl, hH, hz, q⟩ := h
  cases rx
  obtain ⟨u, rfl, ru⟩ := rv.one
  obtain ⟨z, its, n, r, hl, e⟩ := I.lstM hH
  refine call_meets F.slot_list_append ⟨_, e, rfl⟩ F.entry_list_append (F.args_list_append_2 _ _) (PySem.list_append l its.toArray n u (by rw [List.size_toArray]; omega)) ⟨e, ?_⟩
  refine ⟨.non, _, I.lset (its' := its ++ [u]) hH e (by simp) (r.append (.cons ru .nil)) ?_, rfl, q⟩
  rw [List.length_append, List.length_singleton]
  omega

/-! ### list + list, list += list, list * int -/
def rCat : R2 := fun x y H Q => ∃ l b xs zs, x = .ref l ∧ y = .ref b ∧ H l = some (.lst xs) ∧ H b = some (.lst zs) ∧ xs.length + zs.length ≤ sizeLine ∧ ∀ p, H p = none → Q (.ref p) (upd H p (.lst (xs ++ zs)))
theorem op_cat : OpR X (binaryOp .Add) rCat := by
  intro pins s σ H x y v u Q I rx ry h
  obtain ⟨l, b, xs, zs, rfl, rfl, hH, hB, hz, q⟩ := h
  cases rx
  cases ry
  obtain ⟨z, its, n, r, hl, e⟩ := I.lstM hH
  obtain ⟨z2, its2, n2, r2, hl2, e2⟩ := I.lstM hB
  refine PySem.P.add_list e e2 ?_ (by rw [List.size_toArray, List.size_toArray]; omega)
  have ea : its.toArray ++ its2.toArray = (its ++ its2).toArray := by simp
  rw [ea]
  exact ⟨.ref _, _, I.lnew (t' := s.toks) (r.append r2) (by rw [List.length_append]; omega), rfl, q _ I.fresh⟩
/-! ### del xs[i] -/
end

/-! ### xs[a:b] = ys -/
section
variable {prog : Program} {w : World} {A : Around} {E : Value → Shared → Prop} {s : Shared}
end

section
variable {X : Cx}
end
end L2

namespace L2
open PySem PySem.Spec PyProof.Rows

/-! ### lists of pairs as tables -/
section
variable {κ : Type} [DecidableEq κ]
def valV (kvs : List (κ × V)) (k : κ) : Option V := (kvs.find? fun kv => decide (kv.1 = k)).map (·.2)
/-- in its place, or at the end -/
def putK (kvs : List (κ × V)) (k : κ) (v : V) : List (κ × V) :=
  if (kvs.any fun kv => decide (kv.1 = k)) = true then kvs.map (fun kv => if kv.1 = k then (kv.1, v) else kv) else kvs ++ [(k, v)]
def dropK (kvs : List (κ × V)) (k : κ) : List (κ × V) := kvs.filter fun kv => decide (kv.1 ≠ k)

theorem valV_pos {p : κ × V} {r : List (κ × V)} {k : κ} (e : p.1 = k) : valV (p :: r) k = some p.2 := by simp [valV, List.find?_cons, e]
theorem valV_neg {p : κ × V} {r : List (κ × V)} {k : κ} (e : ¬ p.1 = k) : valV (p :: r) k = valV r k := by simp [valV, List.find?_cons, e]
theorem valV_any (k : κ) : ∀ kvs : List (κ × V), (kvs.any fun kv => decide (kv.1 = k)) = (valV kvs k).isSome
  | [] => rfl
  | p :: r => by
    rw [List.any_cons]
    by_cases e : p.1 = k
    · simp only [valV_pos e, decide_eq_true e, Bool.true_or, Option.isSome_some]
    · rw [valV_neg e, decide_eq_false e, Bool.false_or]; exact valV_any k r
theorem valV_map (k j : κ) (y : V) : ∀ kvs : List (κ × V), valV (kvs.map fun kv => if kv.1 = k then (kv.1, y) else kv) j = (valV kvs j).map fun x => if j = k then y else x
  | [] => rfl
  | p :: r => by
    have ih := valV_map k j y r
    rw [List.map_cons]
    by_cases h : p.1 = k
    · rw [if_pos h]
      by_cases e : p.1 = j
      · rw [valV_pos (p := (p.1, y)) e, valV_pos e, Option.map_some, if_pos (e.symm.trans h)]
      · rw [valV_neg (p := (p.1, y)) e, valV_neg e, ih]
    · rw [if_neg h]
      by_cases e : p.1 = j
      · rw [valV_pos (p := p) e, valV_pos e, Option.map_some, if_neg (fun z => h (e.trans z))]
      · rw [valV_neg (p := p) e, valV_neg e, ih]
theorem valV_snoc (k j : κ) (y : V) : ∀ kvs : List (κ × V), valV kvs k = none → valV (kvs ++ [(k, y)]) j = if j = k then some y else valV kvs j
  | [], _ => by
    by_cases e : k = j
    · rw [if_pos e.symm]; exact valV_pos (p := (k, y)) e
    · rw [if_neg (fun z => e z.symm)]; exact valV_neg (p := (k, y)) e
  | p :: r, hn => by
    rw [List.cons_append]
    have hk : ¬ p.1 = k := fun z => by rw [valV_pos z] at hn; cases hn
    rw [valV_neg hk] at hn
    have ih := valV_snoc k j y r hn
    by_cases e : p.1 = j
    · rw [valV_pos e, valV_pos e, if_neg (fun z => hk (e.trans z))]
    · rw [valV_neg e, valV_neg e, ih]
theorem valV_put (kvs : List (κ × V)) (k j : κ) (y : V) : valV (putK kvs k y) j = if j = k then some y else valV kvs j := by
  unfold putK
  by_cases a : (kvs.any fun kv => decide (kv.1 = k)) = true
  · rw [if_pos a, valV_map]
    rw [valV_any] at a
    by_cases e : j = k
    · obtain ⟨x, hx⟩ := Option.isSome_iff_exists.mp a
      rw [if_pos e, e, hx, Option.map_some, if_pos rfl]
    · rw [if_neg e]
      cases valV kvs j with
      | none => rfl
      | some x => rw [Option.map_some, if_neg e]
  · rw [if_neg a]
    refine valV_snoc k j y kvs ?_
    rw [valV_any] at a
    cases q : valV kvs k with
    | none => rfl
    | some x => rw [q] at a; exact (a rfl).elim
theorem length_putK (kvs : List (κ × V)) (k : κ) (v : V) : (putK kvs k v).length ≤ kvs.length + 1 := by
  unfold putK
  split
  · rw [List.length_map]; omega
  · rw [List.length_append, List.length_cons, List.length_nil]; omega
theorem RelO.isSome_eq {o : Option V} {u : Option Value} (r : RelO o u) : o.isSome = u.isSome := by
  cases o with
  | none => cases u with
    | none => rfl
    | some _ => exact (show False from r).elim
  | some _ => cases u with
    | none => exact (show False from r).elim
    | some _ => rfl
theorem RelO.getD {o : Option V} {u : Option Value} {d : V} {d' : Value} (r : RelO o u) (rd : RelV d d') : RelV (o.getD d) (u.getD d') := by
  cases o with
  | none => cases u with
    | none => exact rd
    | some _ => exact (show False from r).elim
  | some _ => cases u with
    | none => exact (show False from r).elim
    | some _ => exact r

/-- raw tables of the same keys -/
theorem KV.val {kvs : List (κ × V)} {vs : List (κ × Value)} (r : KV kvs vs) (k : κ) : RelO (valV kvs k) (valueAt vs k) := by
  unfold KV at r
  induction r with
  | nil => exact True.intro
  | @cons p q ps qs h t ih =>
    obtain ⟨h1, h2⟩ := h
    by_cases e : p.1 = k
    · have e' : q.1 = k := h1.symm.trans e
      have b : valueAt (q :: qs) k = some q.2 := by simp [valueAt, List.find?_cons, e']
      rw [valV_pos e, b]; exact h2
    · have e' : ¬ q.1 = k := fun z => e (h1.trans z)
      have b : valueAt (q :: qs) k = valueAt qs k := by simp [valueAt, List.find?_cons, e']
      rw [valV_neg e, b]; exact ih
theorem KV.any {kvs : List (κ × V)} {vs : List (κ × Value)} (r : KV kvs vs) (k : κ) : (kvs.any fun kv => decide (kv.1 = k)) = vs.any fun kv => decide (kv.1 = k) := by
  unfold KV at r
  induction r with
  | nil => rfl
  | cons h t ih => rw [List.any_cons, List.any_cons, ih, h.1]
theorem KV.repl {kvs : List (κ × V)} {vs : List (κ × Value)} (r : KV kvs vs) (k : κ) {y : V} {u : Value} (ry : RelV y u) :
    KV (kvs.map fun kv => if kv.1 = k then (kv.1, y) else kv) (vs.map fun kv => if kv.1 = k then (kv.1, u) else kv) := by
  unfold KV at r ⊢
  induction r with
  | nil => exact .nil
  | @cons p q ps qs h t ih =>
    rw [List.map_cons, List.map_cons]
    refine .cons ?_ ih
    obtain ⟨h1, h2⟩ := h
    by_cases e : p.1 = k
    · rw [if_pos e, if_pos (h1.symm.trans e)]; exact ⟨h1, ry⟩
    · rw [if_neg e, if_neg (fun z => e (h1.trans z))]; exact ⟨h1, h2⟩
theorem KV.put {kvs : List (κ × V)} {vs : List (κ × Value)} (r : KV kvs vs) (k : κ) {y : V} {u : Value} (ry : RelV y u) : KV (putK kvs k y) (stored vs k u) := by
  unfold putK stored
  rw [r.any k]
  by_cases e : (vs.any fun kv => decide (kv.1 = k)) = true
  · rw [if_pos e, if_pos e]; exact r.repl k ry
  · rw [if_neg e, if_neg e]; exact Paired.snoc r ⟨rfl, ry⟩
theorem KV.drop {kvs : List (κ × V)} {vs : List (κ × Value)} (r : KV kvs vs) (k : κ) : KV (dropK kvs k) (without vs k) := by
  unfold KV at r ⊢
  unfold dropK without
  induction r with
  | nil => exact .nil
  | @cons p q ps qs h t ih =>
    obtain ⟨h1, h2⟩ := h
    rw [List.filter_cons, List.filter_cons]
    by_cases e : p.1 = k
    · have a : ¬ decide (p.1 ≠ k) = true := by simp [e]
      have b : ¬ decide (q.1 ≠ k) = true := by simp [h1.symm.trans e]
      rw [if_neg a, if_neg b]; exact ih
    · have e' : ¬ q.1 = k := fun z => e (h1.trans z)
      have a : decide (p.1 ≠ k) = true := by simp [e]
      have b : decide (q.1 ≠ k) = true := by simp [e']
      rw [if_pos a, if_pos b]; exact .cons ⟨h1, h2⟩ ih
theorem KV.keys {kvs : List (κ × V)} {vs : List (κ × Value)} (r : KV kvs vs) : kvs.map (·.1) = vs.map (·.1) := by
  unfold KV at r
  induction r with
  | nil => rfl
  | cons h t ih => rw [List.map_cons, List.map_cons, ih, h.1]
theorem KV.length {kvs : List (κ × V)} {vs : List (κ × Value)} (r : KV kvs vs) : kvs.length = vs.length := Paired.length r
end


/-! ### a tracked dict, its keys ints and texts or tuples of these -/
theorem kV_is {P : Program} {w : World} {k : Key} {u : Value} (r : RelV (kV k) u) : (mixKind P w).is k u = true := by
  cases k with
  | inl i => obtain ⟨t, e⟩ := (show ∃ t, u = Value.int i t from r); subst e; exact mixKind_int P w i t
  | inr x => obtain ⟨t, e⟩ := (show ∃ t, u = Value.str x t from r); subst e; exact mixKind_str P w x t
theorem items_are {P : Program} {w : World} : ∀ {ks : List Key} {us : List Value}, Vals (ks.map kV) us → ItemsAre (mixKind P w) ks us
  | [], _, r => by rw [List.map_nil] at r; cases r; exact .nil
  | k :: ks, _, r => by
    rw [List.map_cons] at r
    cases r with
    | cons h t => exact .cons (kV_is h) (items_are t)

/-- raw entries of a dict with tuple keys -/
abbrev KT (H : Hp) : List (List Key × V) → List (List Key × Addr × Value) → Prop := Paired fun p q => p.1 = q.1 ∧ H q.2.1 = some (.tup (p.1.map kV)) ∧ RelV p.2 q.2.2
theorem KT.val {H : Hp} {kvs : List (List Key × V)} {xs : List (List Key × Addr × Value)} (r : KT H kvs xs) (k : List Key) : RelO (valV kvs k) ((atKey xs k).map (·.2)) := by
  induction r with
  | nil => exact True.intro
  | @cons p q ps qs h t ih =>
    obtain ⟨h1, _, h2⟩ := h
    by_cases e : p.1 = k
    · have e' : q.1 = k := h1.symm.trans e
      have b : atKey (q :: qs) k = some q.2 := by simp [atKey, List.find?_cons, e']
      rw [valV_pos e, b]; exact h2
    · have e' : ¬ q.1 = k := fun z => e (h1.trans z)
      have b : atKey (q :: qs) k = atKey qs k := by simp [atKey, List.find?_cons, e']
      rw [valV_neg e, b]; exact ih
theorem KT.repl {H : Hp} {kvs : List (List Key × V)} {xs : List (List Key × Addr × Value)} (r : KT H kvs xs) (k : List Key) {y : V} {u : Value} (ry : RelV y u) :
    KT H (kvs.map fun kv => if kv.1 = k then (kv.1, y) else kv) (xs.map (putAt k u)) := by
  induction r with
  | nil => exact .nil
  | @cons p q ps qs h t ih =>
    rw [List.map_cons, List.map_cons]
    refine .cons ?_ ih
    obtain ⟨h1, h2, h3⟩ := h
    unfold putAt
    by_cases e : p.1 = k
    · rw [if_pos e, if_pos (h1.symm.trans e)]; exact ⟨h1, h2, ry⟩
    · rw [if_neg e, if_neg (fun z => e (h1.trans z))]; exact ⟨h1, h2, h3⟩
theorem KT.put {H : Hp} {kvs : List (List Key × V)} {xs : List (List Key × Addr × Value)} (r : KT H kvs xs) (k : List Key) {b : Addr} {y : V} {u : Value} (hb : H b = some (.tup (k.map kV))) (ry : RelV y u) :
    KT H (putK kvs k y) (storedH xs k b u) := by
  have e : (kvs.any fun kv => decide (kv.1 = k)) = (atKey xs k).isSome := by
    rw [valV_any, (r.val k).isSome_eq, Option.isSome_map]
  unfold putK storedH
  rw [e]
  by_cases q : (atKey xs k).isSome = true
  · rw [if_pos q, if_pos q]; exact r.repl k ry
  · rw [if_neg q, if_neg q]; exact Paired.snoc r ⟨rfl, hb, ry⟩
theorem KT.keeps {H H' : Hp} {kvs : List (List Key × V)} {xs : List (List Key × Addr × Value)} (r : KT H kvs xs) (ht : ∀ b ys, H b = some (.tup ys) → H' b = some (.tup ys)) : KT H' kvs xs :=
  Paired.mapP r fun _ _ z => ⟨z.1, ht _ _ z.2.1, z.2.2⟩

section
variable {P : Program} {w : World} {H : Hp} {h : Heap} {a : Addr}
theorem rd_of {u : HO} (ok : HOk P w H h) (e : Rd H a u) : ObjOk P w H h a u := e.ok ok
theorem dk_rd {kvs : List (Key × V)} (ok : HOk P w H h) (e : Rd H a (.dK kvs)) : kvs.length ≤ sizeLine ∧ (a == sysModules) = false ∧ ∃ vs, KV kvs vs ∧ h.DictOf (mixKind P w) a vs :=
  show ObjOk P w H h a (.dK kvs) from rd_of ok e
theorem dk_of {kvs : List (Key × V)} (ok : HOk P w H h) (e : H a = some (.dK kvs)) : kvs.length ≤ sizeLine ∧ (a == sysModules) = false ∧ ∃ vs, KV kvs vs ∧ h.DictOf (mixKind P w) a vs := dk_rd ok (.inl e)
/-- a tracked tuple of ints and texts is a key -/
theorem key_of {ks : List Key} (ok : HOk P w H h) (e : H a = some (.tup (ks.map kV))) : (tupleKind (mixKind P w)).is h ks a := by
  obtain ⟨_, its, r, o, h1, h2, n, h3⟩ := (show ObjOk P w H h a (.tup (ks.map kV)) from ok a _ e)
  exact ⟨o, its.toArray, n, h1, h2, h3, by simpa using items_are r⟩
theorem dt_rd {kvs : List (List Key × V)} (ok : HOk P w H h) (e : Rd H a (.dT kvs)) : kvs.length ≤ sizeLine ∧ (a == sysModules) = false ∧
    ∃ xs, KT H kvs xs ∧ h.DictOfH (tupleKind (mixKind P w)) a xs := by
  obtain ⟨z, y, xs, r, o, es, ep, h1, h2, h3, h4, h5⟩ := (show ObjOk P w H h a (.dT kvs) from rd_of ok e)
  refine ⟨z, y, xs, r, o, es, ep, h1, h2, h3, h4, fun x hx => ?_, h5⟩
  have all : ∀ {l : List (List Key × V)} {m : List (List Key × Addr × Value)}, KT H l m → ∀ x ∈ m, (tupleKind (mixKind P w)).is h x.1 x.2.1 := by
    intro l m q
    induction q with
    | nil => intro x hx; exact nomatch hx
    | @cons p q ps qs hq t ih =>
      intro x hx
      rcases List.mem_cons.mp hx with e | hx
      · subst e
        exact key_of ok (by rw [← hq.1]; exact hq.2.1)
      · exact ih x hx
  exact all r x hx
theorem dt_of {kvs : List (List Key × V)} (ok : HOk P w H h) (e : H a = some (.dT kvs)) : kvs.length ≤ sizeLine ∧ (a == sysModules) = false ∧
    ∃ xs, KT H kvs xs ∧ h.DictOfH (tupleKind (mixKind P w)) a xs := dt_rd ok (.inl e)
end

/-- what the dict at a holds at the key y -/
def DGet (H : Hp) (a : Addr) (y : V) (r : Option V) : Prop :=
  (∃ kvs k, Rd H a (.dK kvs) ∧ y = kV k ∧ r = valV kvs k) ∨ ∃ kvs k b, Rd H a (.dT kvs) ∧ y = .ref b ∧ H b = some (.tup (k.map kV)) ∧ r = valV kvs k
/-- the heap behind a[y] = v -/
def DPut (H : Hp) (a : Addr) (y v : V) (H' : Hp) : Prop :=
  (∃ kvs k, H a = some (.dK kvs) ∧ y = kV k ∧ kvs.length < sizeLine ∧ H' = upd H a (.dK (putK kvs k v))) ∨
  ∃ kvs k b, H a = some (.dT kvs) ∧ y = .ref b ∧ H b = some (.tup (k.map kV)) ∧ kvs.length < sizeLine ∧ H' = upd H a (.dT (putK kvs k v))
theorem DGet.k {H : Hp} {a : Addr} {kvs : List (Key × V)} {k : Key} (e : H a = some (.dK kvs)) : DGet H a (kV k) (valV kvs k) := .inl ⟨kvs, k, .inl e, rfl, rfl⟩
theorem DGet.t {H : Hp} {a b : Addr} {kvs : List (List Key × V)} {k : List Key} (e : H a = some (.dT kvs)) (eb : H b = some (.tup (k.map kV))) : DGet H a (.ref b) (valV kvs k) := .inr ⟨kvs, k, b, .inl e, rfl, eb, rfl⟩
theorem DPut.k {H : Hp} {a : Addr} {kvs : List (Key × V)} {k : Key} {v : V} (e : H a = some (.dK kvs)) (hl : kvs.length < sizeLine) : DPut H a (kV k) v (upd H a (.dK (putK kvs k v))) := .inl ⟨kvs, k, e, rfl, hl, rfl⟩
theorem DPut.t {H : Hp} {a b : Addr} {kvs : List (List Key × V)} {k : List Key} {v : V} (e : H a = some (.dT kvs)) (eb : H b = some (.tup (k.map kV))) (hl : kvs.length < sizeLine) :
    DPut H a (.ref b) v (upd H a (.dT (putK kvs k v))) := .inr ⟨kvs, k, b, e, rfl, eb, hl, rfl⟩


section
variable {X : Cx} {pins : List (Addr × Obj)} {σ : St} {H : Hp} {s : Shared} {a : Addr} {y v : V} {u r : Value} {o : Option V} {A : Around} {E : Value → Shared → Prop}

theorem Inv.big (I : Inv X pins σ H s) : sysModules < s.heap.objs.size := by
  have h : mainGlobals < s.heap.objs.size := (I.mod.glob.keeps I.bk).lt
  exact Nat.lt_trans (by decide) h

/-- a dict's object is replaced -/
theorem d_write {h' : Heap} {t' : Nat} {ob : HO} (I : Inv X pins σ H s) (mu : Mut (H a)) (hs : Heap.SameBut a s.heap h') (he : ∃ q, h'.get? a = some q) (new : ObjOk X.prog X.w (upd H a ob) h' a ob) :
    Inv X pins σ (upd H a ob) { s with heap := h', toks := t' } :=
  I.write (x := a) (e := a) mu (.inl rfl) (fun b q hb z => (hs.2 b hb).trans z) he new
theorem dk_new {P : Program} {w : World} {H' : Hp} {h' : Heap} {kvs : List (Key × V)} {vs : List (Key × Value)} (z : kvs.length ≤ sizeLine) (hd : (a == sysModules) = false) (rel : KV kvs vs) (dd : h'.DictOf (mixKind P w) a vs) :
    ObjOk P w H' h' a (.dK kvs) := ⟨z, hd, vs, rel, dd⟩
/-- d[y] = v -/
theorem d_setItem {H' : Hp} {Q : Unit → Shared → Prop} (hu : A.units + 1 < cLine) (I : Inv X pins σ H s) (g : DPut H a y v H') (ry : RelV y u) (rv : RelV v r) (h : ∀ s', Inv X pins σ H' s' → Q () s') :
    wpAny (model X.prog X.w) A (setItem (.ref a) u r) Q E s := by
  rcases g with ⟨kvs, k, e, ey, l, eH⟩ | ⟨kvs, k, b, e, ey, eb, l, eH⟩
  · subst ey eH
    obtain ⟨z, hd, vs, rel, dd⟩ := dk_of I.hok e
    have hz : vs.length ≤ sizeLine := by rw [← rel.length]; exact z
    have hl : (putK kvs k v).length ≤ sizeLine := by have := length_putK kvs k v; omega
    refine wpAny_setItem_pairs (hsz := hz) (kV_is ry) dd fun h' dd' hs => h _ ?_
    have he : ∃ q, h'.get? a = some q := let ⟨q, _, _, hq, _⟩ := dd'; ⟨q, hq⟩
    exact d_write I (by rw [e]; exact True.intro) hs he (dk_new hl hd (rel.put k rv) dd')
  · subst ey eH
    cases (show u = Value.ref b from ry)
    obtain ⟨z, hd, xs, rel, dd⟩ := dt_of I.hok e
    have hz : xs.length ≤ sizeLine := by rw [← Paired.length rel]; exact z
    have hl : (putK kvs k v).length ≤ sizeLine := by have := length_putK kvs k v; omega
    refine wpAny_setItem_heap (hsz := hz) (tupleKind_room_in1 hu) (key_of I.hok eb) dd fun h' dd' hs => h _ ?_
    obtain ⟨q, es, ep, hq, h2, h3, h4, _, h5⟩ := dd'
    refine d_write I (by rw [e]; exact True.intro) hs ⟨q, hq⟩ ⟨hl, hd, _, (rel.put k eb rv).keeps fun c ys ec => ?_, q, es, ep, hq, h2, h3, h4, h5⟩
    rw [upd_ne (ne_of ec e (fun z => nomatch z))]
    exact ec
end

section
variable {X : Cx} {pins : List (Addr × Obj)} {σ : St} {H : Hp} {s : Shared} {a : Addr} {kvs : List (Key × V)} {k : Key} {u : Value} {A : Around} {E : Value → Shared → Prop}
end


/-! ### readings and rules -/
section
variable {X : Cx} {o i e value : Expr} {pos pos' tpos : Pos} {td ty tv : TE}
end


/-! ### displays -/
theorem dk_empty {P : Program} {w : World} {H : Hp} (h : Heap) (hb : sysModules < h.objs.size) : ObjOk P w H (h.push { cls := .type "dict", data := .dict #[] }) h.objs.size (.dK []) :=
  ⟨Nat.zero_le _, beq_eq_false_iff_ne.mpr (Ne.symm (Nat.ne_of_lt hb)), [], .nil, Heap.DictOf.new h⟩
/-- {}, to be a dict of the kind that is wanted -/
def tDNewK : TE := fun _ H Q => ∀ p, H p = none → Q (.ref p) (upd H p (.dK []))
section
variable {X : Cx} {pos : Pos}
theorem pe_dnewK : PE X (.Dict [] [] pos) tDNewK := fun pins s σ H Q I h =>
  wpAny_Dict_empty ⟨.ref s.heap.objs.size, _, I.laid (a := s.heap.objs.size) (o := .dK []) (t' := s.toks) (fun _ _ q => Heap.get?_push_of_some _ q) (Nat.le_refl _) (dk_empty s.heap I.big), rfl, h _ (I.hok.fresh (Nat.le_refl _))⟩
end

/-- the pairs of a display, from the left -/
def tPairs : List (TE × TE) → St → Hp → (List (V × V) → Hp → Prop) → Prop
  | [], _, H, Q => Q [] H
  | (tk, tv) :: r, σ, H, Q => tk σ H fun x H1 => tv σ H1 fun y H2 => tPairs r σ H2 fun ps H3 => Q ((x, y) :: ps) H3
abbrev VV : List (V × V) → List (Value × Value) → Prop := Paired fun p q => RelV p.1 q.1 ∧ RelV p.2 q.2
def PPs (X : Cx) (pos : Pos) (keys : List (Option Expr)) (values : List Expr) (trs : List (TE × TE)) : Prop :=
  ∀ (pins : List (Addr × Obj)) (s : Shared) (σ : St) (H : Hp) (Q : List (V × V) → Hp → Prop), Inv X pins σ H s → tPairs trs σ H Q →
    wpAny (model X.prog X.w) X.A (evalPairs (pairTrees keys values X.env pos)) (fun vs s' => ∃ ps H', Inv X pins σ H' s' ∧ VV ps vs ∧ Q ps H') X.xe s
/-! ### methods -/
/-- a method call o.m(e) of a built-in, with one argument: what must be seen of the text -/
structure M1 (X : Cx) (o : Expr) (m : Str) (apos : Pos) (e : Expr) (cpos : Pos) : Prop where
  base : attributeBase o m X.env (eval o X.env) = eval o X.env
  few : ((backTo cpos (starEach [e] X.env)).all (fun x => !x.1) && (backToKw cpos (keywordEach [] X.env)).all (fun x => x.1.isSome)
    && decide (([e] : List Expr).length + ([] : List Keyword).length + (if ([] : List Keyword).isEmpty then 0 else 1) < 30)) = true
  line : (apos.endLine == cpos.line) = true
  trees : backTo cpos (starEach [e] X.env) = [(false, eval e X.env)]
structure M2 (X : Cx) (o : Expr) (m : Str) (apos : Pos) (e f : Expr) (cpos : Pos) : Prop where
  base : attributeBase o m X.env (eval o X.env) = eval o X.env
  few : ((backTo cpos (starEach [e, f] X.env)).all (fun x => !x.1) && (backToKw cpos (keywordEach [] X.env)).all (fun x => x.1.isSome)
    && decide (([e, f] : List Expr).length + ([] : List Keyword).length + (if ([] : List Keyword).isEmpty then 0 else 1) < 30)) = true
  line : (apos.endLine == cpos.line) = true
  trees : backTo cpos (starEach [e, f] X.env) = [(false, eval e X.env), (false, eval f X.env)]

/-- a is a dict, whatever its keys -/
def IsD (H : Hp) (a : Addr) : Prop := (∃ kvs, Rd H a (.dK kvs)) ∨ ∃ kvs, Rd H a (.dT kvs)
theorem isD_at {X : Cx} {pins : List (Addr × Obj)} {σ : St} {H : Hp} {s : Shared} {a : Addr} (I : Inv X pins σ H s) (d : IsD H a) :
    s.TypeIs (.ref a) "dict" ∧ (∀ b, Value.ref a = .ref b → ∃ ob, s.heap.get? b = some ob ∧ ob.dict = none) ∧ (a == sysModules) = false := by
  rcases d with ⟨kvs, e⟩ | ⟨kvs, e⟩
  · obtain ⟨_, hd, vs, _, dd⟩ := dk_rd I.hok e
    refine ⟨dd.typeIs, fun b q => ?_, hd⟩
    cases q
    obtain ⟨ob, _, _, h1, h2, _⟩ := dd
    exact ⟨ob, h1, h2.2.1⟩
  · obtain ⟨_, hd, xs, _, dd⟩ := dt_rd I.hok e
    refine ⟨dd.typeIs, fun b q => ?_, hd⟩
    cases q
    obtain ⟨ob, _, _, h1, h2, _⟩ := dd
    exact ⟨ob, h1, h2.2.1⟩

section
variable {X : Cx} {pins : List (Addr × Obj)} {σ : St} {H : Hp} {s : Shared} {a : Addr} {y d : V} {u r : Value} {o : Option V} {A : Around} {E : Value → Shared → Prop}
/-- d.get(y, x) -/
theorem d_get2 {Q : Value → Shared → Prop} (hu : A.units + 1 < cLine) (I : Inv X pins σ H s) (g : DGet H a y o) (ry : RelV y u) (rd : RelV d r) (h : ∀ w' s', Inv X pins σ H s' → RelV (o.getD d) w' → Q w' s') :
    wpAny (model X.prog X.w) A (call (.builtin "dict.get") [.ref a, u, r]) Q E s := by
  rcases g with ⟨kvs, k, e, ey, l⟩ | ⟨kvs, k, b, e, ey, eb, l⟩
  · subst ey
    obtain ⟨z, hd, vs, rel, dd⟩ := dk_rd I.hok e
    refine call_meetsIn PySem.F.slot_dict_get dd.typeIs PySem.F.entry_dict_get (PySem.F.args_dict_get_3 _ _ _) (meets_dict_get_default (mixKind X.prog X.w) a (kV_is ry) hd r) ⟨_, dd.mapOf, h _ _ (I.tok _) ?_⟩
    rw [l]
    exact (rel.val k).getD rd
  · subst ey
    cases (show u = Value.ref b from ry)
    obtain ⟨z, hd, xs, rel, dd⟩ := dt_rd I.hok e
    refine call_meetsIn PySem.F.slot_dict_get dd.typeIs PySem.F.entry_dict_get (PySem.F.args_dict_get_3 _ _ _) (meetsH_dict_get_default (tupleKind (mixKind X.prog X.w)) a b hd r) ⟨tupleKind_room_in1 hu, k, xs, key_of I.hok eb, dd, h _ _ (I.tok _) ?_⟩
    rw [l]
    exact (rel.val k).getD rd
end

def tDGet2 (td ty tx : TE) : TE := fun σ H Q => td σ H fun x H1 => ∃ a, x = .ref a ∧ IsD H1 a ∧ ty σ H1 fun y H2 => tx σ H2 fun z H3 => ∃ o, DGet H3 a y o ∧ Q (o.getD z) H3
section
variable {X : Cx} {o e f : Expr} {apos cpos : Pos} {td ty tx : TE}
theorem pe_dget2 (hu : X.A.units + 1 < cLine) (ho : PE X o td) (he : PE X e ty) (hf : PE X f tx) (m : M2 X o "get" apos e f cpos) : PE X (.Call (.Attribute o "get" apos) [e, f] [] cpos) (tDGet2 td ty tx) := by
  intro pins s σ H Q I h
  refine wpAny_Call_method m.base m.few m.line PySem.F.plainAttrs_dict PySem.F.slot_dict_get PySem.F.type_dict_get (thn (ho pins s σ H _ I h) fun u s1 ⟨x, H1, I1, rx, a, ex, d, q1⟩ => ?_)
  subst ex
  obtain rfl : u = Value.ref a := rx
  obtain ⟨t1, t2, _⟩ := isD_at I1 d
  refine ⟨t1, t2, ?_⟩
  rw [m.trees]
  refine Calls.callWith_builtin rfl (Calls.evalArgs_plain (Calls.spliced_cons (thn (he pins s1 σ H1 _ I1 q1) fun iv s2 ⟨y, H2, I2, ry, q2⟩ =>
    Calls.spliced_cons (thn (hf pins s2 σ H2 _ I2 q2) fun fv s3 ⟨z, H3, I3, rz, ov, g, q3⟩ => Calls.spliced_nil ?_))))
  exact d_get2 hu I3 g ry rz fun w' s4 I4 rw' => ⟨_, H3, I4, rw', q3⟩
end

/-! ### dict(d): a copy -/
section
variable {X : Cx} {pins : List (Addr × Obj)} {σ : St} {H : Hp} {s : Shared} {a : Addr} {kvs : List (Key × V)} {A : Around} {E : Value → Shared → Prop}
end


section
variable {X : Cx} {pins : List (Addr × Obj)} {σ : St} {H : Hp} {s : Shared} {a : Addr} {y : V} {u : Value} {A : Around} {E : Value → Shared → Prop}
end
end L2

namespace Att
open PySem PySem.W PySem.Calls PyProof.Rows

/-! ### the script -/
theorem ints_of_wellAll {P : Params} {h : Heap} : ∀ (ns : List Int) (vs : List Value), WellAll P h vs (ns.map WData.int) → IntsAre vs ns := by
  intro ns
  induction ns with
  | nil =>
    intro vs w
    rw [List.map_nil] at w
    cases w
    exact .nil
  | cons n ns ih =>
    intro vs w
    rw [List.map_cons] at w
    cases w with
    | cons a b =>
      cases a
      exact .cons _ _ (ih _ b)

theorem script_of {l : OpenLaw} {n : Nat} (hn : l.most = some n) {P : Params} {h : Heap} {args : List WData} {vals : List Value}
    (hpre : l.row.toRowW.claim.pre args = true) (hwl : WellAll P h vals args) :
    ∃ a vs ns, vals = [Value.ref a] ∧ args = [WData.list (ns.map WData.int)] ∧ h.get? a = some { cls := .type "list", data := .seq vs.toArray } ∧ IntsAre vs ns ∧ ns.length ≤ n := by
  have hsh : WShape.hasAll [] args [.list .int] = true := (pre_splitW hpre).1
  have hc : l.pre.holds [] { args := args } = true := (pre_splitW hpre).2
  obtain ⟨d, r, rfl, h1, h2⟩ := hasAllW_cons hsh
  obtain rfl := hasAllW_nil h2
  obtain ⟨xs, rfl, h3⟩ := hasW_list h1
  obtain ⟨ns, rfl⟩ := items_int h3
  have hlen : ns.length ≤ n := by
    unfold OpenLaw.pre at hc
    have h4 : (WTm.not (.lt (.lit (.int (n : Int))) (.len (.arg 0)))).holds [] { args := [.list (ns.map .int)] } = true := by
      have h4 := (holds_andW hc).1
      rw [hn] at h4
      exact h4
    have h5 := condW_of h4 (w_not (w_lt w_lit (w_len_list (w_arg rfl))))
    rw [List.length_map] at h5
    refine Nat.le_of_not_lt fun q => ?_
    have q' : (n : Int) < ((ns.length : Nat) : Int) := by omega
    first
      | (rw [decide_eq_true q'] at h5; exact absurd h5 (by decide))
      | (simp at h5; omega)
  cases hwl with
  | cons w1 w2 =>
    cases w2
    cases w1 with
    | list ho hall => exact ⟨_, _, ns, rfl, rfl, ho, ints_of_wellAll ns _ hall, hlen⟩

theorem post_true (l : OpenLaw) (args : List WData) : l.row.toRowW.claim.post args (.bool true) args = true :=
  postW_of (r := l.row.toRowW) (X := (true == true))
    (show WShape.has [] (.bool true) .bool = true by first | rfl | decide | simp [WShape.has, WShape.arms, WShape.armsAll])
    (show (WTm.eq .res (.lit (.bool true))).value [] { args := args, res := some (.bool true), after := args } = some (.bool (true == true)) from w_eq_bool (w_res rfl) w_lit) rfl

/-! ### the attachment: holds_open's last premise (the goal 'hc' behind k_head) from a wpAny of the law's body -/
/-- the same from a codeAny of the CALL (for a layer whose function contracts speak of calls) -/
theorem attach_call {l : OpenLaw} {n : Nat} {q : Program} {loose : List Str} {XP : (Str → Option Value) → Heap → Prop} {YP : World → Heap → Prop} {d : DefRec}
    (hn : l.most = some n) (hdf : d.params.defaults = [])
    (call : ∀ (w : World) (s₀ s₁ : Shared) (mg mb : Str → Option Value) (fa : Addr) (o : Obj) (pm cd doc : Value) (a : Addr) (vs : List Value) (ns : List Int),
      Ground q loose [] XP w s₀ mg mb s₁.heap → YP w s₁.heap →
      s₁.heap.get? fa = some o → o.data = .func (docDef d.name d.params d.body d.scope pm cd doc) → s₁.heap.CodeRec cd d.name → mg d.name = some (.ref fa) →
      s₁.heap.get? a = some { cls := .type "list", data := .seq vs.toArray } → IntsAre vs ns → ns.length ≤ n → s₁.gens = #[] →
      codeAny (model l.prog w) callerA (.call (.ref fa) ⟨[.ref a], []⟩) (fun r s' => r = .ok (.ret (.bool true)) ∧ OldK s₁.heap s'.heap ∧ s'.os = s₁.os ∧ AllBare s'.gens) s₁) :
    WalkO q loose XP YP l.row.toRowW d [] (fun f vs => PySem.call f vs) := by
  intro w s₀ s₁ mg mb G Y fa o pm cd doc dV kV ho hd hcd hD hmg hg args vals as hpre hlay hrd hwl hlo
  obtain rfl : dV = .none := Dflts.none hD hdf
  obtain rfl : kV = .none := Dflts.noKw hD
  obtain ⟨a, vs, ns, rfl, rfl, hobj, hints, hlen⟩ := script_of hn hpre hwl
  refine enter_call (codeAny_mono (call w s₀ s₁ mg mb fa o pm cd doc a vs ns G Y ho (fd_plain hd) hcd hmg hobj hints hlen hg) fun r s' hq => ?_)
  obtain ⟨rfl, h2, h3, h4⟩ := hq
  exact ⟨.inl ⟨.bool true, .bool true, [], rfl, fun _ => rfl, .bool true, post_true l _, fun _ => ⟨List.Pairwise.nil, fun _ hm => (nomatch hm)⟩⟩, h2, h3, h4⟩

/-! ### rules over ANY heap (no ledger) from facts about the written part K: the library's own take a ledger (News) for what they write -/
section
variable {prog : Program} {w : World} {A : Around} {E : Value → Shared → Prop} {s : Shared} {K : Frag}

/-! the whole heap as the ledger: makes every rule that writes through a ledger a rule over any heap -/
end
end Att

namespace L2
open PySem PySem.Spec PyProof.Rows

theorem vals_ints : ∀ {vs : List Value} {ns : List Int}, IntsAre vs ns → Vals (ns.map V.int) vs
  | _, _, .nil => .nil
  | _, _, .cons n t h => .cons ⟨t, rfl⟩ (vals_ints h)

/-- nothing is tracked but the script, known to the object (or it is an object of the module) -/
def Only (H : Hp) : Prop := ∀ b, H b = none ∨ ∃ o xs, H b = some (.frz o (.lst xs))

/-- THE HEAD: the law's promise, at the heap behind the top. F, the promise of the law's def, may use that base is part of the heap (so K.In base, base.Ns mainGlobals mg stand in Mod) -/
theorem law_call {P : Program} {w : World} {K : PySem.W.Frag} {mg mb : Str → Option Value} {CX : CXT} {k : Nat} {fa a : Addr} {fd : FuncData} {x : Str} {sp : Sp} {s₁ : Shared} {vs : List Value} {ns : List Int}
    (KX : K.In s₁.heap) (hns : s₁.heap.Ns mainGlobals mg) (hb : s₁.heap.Ns builtinsNs mb) (hbb : ∀ x : Str, x ≠ "__name__" → mb x = bootBuiltins x) (hlim : s₁.heap.NoLimit) (hg : s₁.gens = #[])
    (ha : s₁.heap.get? a = some { cls := .type "list", data := .seq vs.toArray }) (hi : IntsAre vs ns) (hl : ns.length ≤ sizeLine) (hr : Room k callerA)
    (F : ∀ base : Heap, K.In base → base.Ns mainGlobals mg → FnOk P w K mg base CX k fa fd [x] sp) (hbind : ∀ (s : Shared) (u : Value), BindsTo s fd ⟨[u], []⟩ [(x, u)])
    (hsp : ∀ H : Hp, Only H → SqL K H a (ns.map V.int) → sp [.ref a] H (fun v _ => v = .bl true) fun _ _ _ => False)
    (hCX : ∀ H e s', CX [] H s₁ (fun _ _ _ => False) e s' → False) :
    codeAny (model P w) callerA (.call (.ref fa) ⟨[.ref a], []⟩) (fun r s' => r = .ok (.ret (.bool true)) ∧ OldK s₁.heap s'.heap ∧ s'.os = s₁.os ∧ AllBare s'.gens) s₁ := by
  have rv := vals_ints hi
  have lenV := hi.length
  -- from an abstract heap in which nothing but the script may be tracked
  have core : ∀ H : Hp, Only H → SqL K H a (ns.map V.int) → HOk P w H s₁.heap → (∀ b, H b ≠ none → b = a) → (H a ≠ none → K.lookup a = none) →
      codeAny (model P w) callerA (.call (.ref fa) ⟨[.ref a], []⟩) (fun r s' => r = .ok (.ret (.bool true)) ∧ OldK s₁.heap s'.heap ∧ s'.os = s₁.os ∧ AllBare s'.gens) s₁ := by
    intro H hO hS hok hA hK
    have base_of : ∀ {b : Addr} {o : Obj}, s₁.heap.get? b = some o → H b = none → (hidT s₁.heap H).get? b = some o := fun e n => hidT_get e n
    have noA : ∀ {b : Addr} {o : Obj} {es : Array DictEntry} {ep : Nat}, s₁.heap.get? b = some o → o.data = .dict es ep → H b = none := fun {b o es ep} e d => by
      cases q : H b with
      | none => rfl
      | some u =>
        have e' : b = a := hA b (by rw [q]; simp)
        subst e'
        rw [ha] at e; cases e
        have d' : Data.seq vs.toArray _ = Data.dict es ep := d
        cases d'
    have nsK : ∀ {b : Addr} {m : Str → Option Value}, s₁.heap.Ns b m → (hidT s₁.heap H).Ns b m := fun {b m} ⟨o, es, ep, e, d, r⟩ => ⟨o, es, ep, base_of e (noA e d), d, r⟩
    have hKb : K.In (hidT s₁.heap H) := fun b o e => base_of (KX b o e) (by
      cases q : H b with
      | none => rfl
      | some u =>
        have e' : b = a := hA b (by rw [q]; simp)
        subst e'
        rw [hK (by rw [q]; simp)] at e; cases e)
    have hM : Mod K mg (hidT s₁.heap H) := ⟨hKb, nsK hns, ⟨mb, nsK hb, hbb⟩, let ⟨mc, h1, h2⟩ := hlim; ⟨mc, nsK h1, h2⟩⟩
    have e0 : Env0 P w K mg (hidT s₁.heap H) callerA [] s₁ H := ⟨rfl, hM, fun b o e => of_hidT e, Nat.le_of_eq (hidT_size _ _), trivial, fun b hb => absurd (show b ∈ ([] : List Addr) from hb) (by simp), hok, .of_eq hg⟩
    refine codeAny_mono ((F _ hKb (nsK hns)).run callerA [] s₁ H ⟨[.ref a], []⟩ [.ref a] [.ref a] _ _ hr e0 (hbind s₁ (.ref a)) (.cons rfl .nil) (hsp H hO hS)) fun r s' h => ?_
    cases r with
    | error e => exact (hCX H e s' h).elim
    | ok fl =>
      cases fl with
      | next => exact False.elim h
      | brk => exact False.elim h
      | cont => exact False.elim h
      | ret u =>
        obtain ⟨v, H', os, bare, un, hok', r', q⟩ := h
        have q' : v = .bl true := q
        subst q'
        obtain rfl : u = Value.bool true := r'
        refine ⟨rfl, OldK.of_keep fun b o e => ?_, os, bare⟩
        cases q : H b with
        | none => exact un.keep b o e q (by intro z; exact absurd (show b ∈ ([] : List Addr) from z) (by simp)) (by simp)
        | some u =>
          rcases hO b with z | ⟨ob, xs, z⟩
          · rw [q] at z; cases z
          · have z2 := un.frzs b ob _ z
            obtain ⟨e1, _⟩ := hok b _ z
            obtain ⟨e2, _⟩ := hok' b _ z2
            rw [e] at e1; cases e1
            exact e2
  cases hk : K.lookup a with
  | some o =>
    -- the script is one of the module's own objects
    have e := KX a o hk
    rw [ha] at e
    cases e
    refine core (fun _ => none) (fun _ => .inl rfl) (.inr ⟨_, vs.toArray, _, hk, rfl, rfl, rfl, by rw [List.size_toArray, lenV]; exact hl, by simpa using rv⟩) (fun b u z => by have z' : (none : Option HO) = some u := z; cases z') (fun b z => absurd rfl z) fun z => absurd rfl z
  | none =>
    refine core (fun b => if b = a then some (.frz { cls := .type "list", data := .seq vs.toArray } (.lst (ns.map V.int))) else none) (fun b => ?_) (.inl (.inr ⟨{ cls := .type "list", data := .seq vs.toArray }, if_pos rfl⟩)) (fun b u z => ?_) (fun b z => ?_) fun _ => hk
    · by_cases hb : b = a
      · exact .inr ⟨_, _, if_pos hb⟩
      · exact .inl (if_neg hb)
    · by_cases hb : b = a
      · have z' := (if_pos hb).symm.trans z
        cases z'
        subst hb
        exact ⟨ha, by rw [List.length_map]; exact hl, vs, _, rv, ha⟩
      · have z' := (if_neg hb).symm.trans z
        cases z'
    · by_cases hb : b = a
      · exact hb
      · exact absurd (if_neg hb) z
end L2

namespace L2
open PySem PySem.Spec PyProof.Rows

abbrev KOf {K : PySem.W.Frag} {h : Heap} (_ : K.In h) : PySem.W.Frag := K

/-- the goal that k_head leaves (case hc), from the law's promise. F gives the function object fd (K's own) once, then the promise over every base -/
theorem walk_of {l : PySem.W.OpenLaw} {n k : Nat} {q : Program} {loose : List Str} {XP : (Str → Option Value) → Heap → Prop} {YP : World → Heap → Prop} {d : DefRec} {K : Params → PySem.W.Frag} {CX : World → CXT} {sp : World → Sp} {x : Str}
    (hn : l.most = some n) (hn2 : n ≤ sizeLine) (hdf : d.params.defaults = []) (hr : Room k callerA)
    (hY : ∀ (w : World) (h : Heap), YP w h → (K w.params).In h)
    (F : ∀ (w : World) (mg : Str → Option Value) (fa : Addr) (h : Heap), (K w.params).In h → h.Ns mainGlobals mg → mg d.name = some (.ref fa) →
      ∃ fd : FuncData, (∀ (s : Shared) (u : Value), BindsTo s fd ⟨[u], []⟩ [(x, u)]) ∧
        ∀ base : Heap, (K w.params).In base → base.Ns mainGlobals mg → FnOk l.prog w (K w.params) mg base (CX w) k fa fd [x] (sp w))
    (hsp : ∀ (w : World) (H : Hp) (a : Addr) (ns : List Int), ns.length ≤ n → Only H → SqL (K w.params) H a (ns.map V.int) → sp w [.ref a] H (fun v _ => v = .bl true) fun _ _ _ => False)
    (hCX : ∀ (w : World) (H : Hp) (s : Shared) (e : Value) (s' : Shared), CX w [] H s (fun _ _ _ => False) e s' → False) :
    PySem.W.WalkO q loose XP YP l.row.toRowW d [] (fun f vs => PySem.call f vs) := by
  refine Att.attach_call hn hdf fun w s₀ s₁ mg mb fa o pm cd doc a vs ns G Y ho hd hcd hmg hobj hints hlen hg => ?_
  have KX := hY w _ Y
  obtain ⟨fd, hb, hF⟩ := F w mg fa _ KX G.T.g hmg
  exact law_call KX G.T.g G.T.b G.T.builtins G.T.nolimit hg hobj hints (Nat.le_trans hlen hn2) hr hF hb (fun H hO hS => hsp w H a ns hlen hO hS) fun H e s' => hCX w H s₁ e s'
end L2

/- THE LAST THEOREM (shape; LID, My.* are yours):
   My.Adr: a structure of the addresses that your layer names (classes, functions); My.Txt K t: a structure (Prop) of the equations over K;
   My.txt_mk : {K} {implicit addresses ..} (e1 : nsIn K mainGlobals "law" = some (some (.ref f))) (e2 : K.lookup f = some ⟨oc, od, .func (fnOf "law" "law" params body scope dV kV doc pm an cdv ct), sl⟩) (e3 : codeIn K cdv "law" = true) .. : ∃ t, My.Txt K t

set_option maxRecDepth 100000 in
set_option maxHeartbeats 0 in
theorem PySem.Challenge.cw_LID_holds : PySem.Challenge.rw_LID.Holds := by
  w_on; o_law; k_head; (case hw => w_witness2)
  k_fill
  refine L2.walk_of (l := PySem.Challenge.rw_LID) (n := 63) (k := 40) (x := "script") (CX := fun w => ..) (sp := fun _ => My.sp_law) rfl (by decide) rfl ⟨rfl, by decide, by decide⟩ (fun w h Y => PySem.W.kIn_of Y) ?F ?S ?C
  case F =>
    intro w mg fa h KX G hmg
    have T : ∃ t, My.Txt (L2.KOf KX) t := by
      dsimp only [L2.KOf]                          -- K must stand as «<heap const> w.params» for k_is
      refine' My.txt_mk ?e1 ?e2 ?e3 ..
      (case e1 => PySem.W.k_is)                    -- in the order: a name -> its address -> its object -> its parts
      (case e2 => PySem.W.k_is)
      ..
    obtain ⟨t, T⟩ := T
    have e0 := hmg.symm.trans (PySem.W.mg_of KX G T.law)
    cases e0                                       -- fa is the law's own address
    exact ⟨_, fun s u => .of_eq rfl, fun base kb nb => My.law_fn T kb nb⟩     -- if «.of_eq rfl» comes too early: refine' ⟨_, ?b, fun base kb nb => My.law_fn T kb nb⟩; exact fun s u => .of_eq rfl
  case S => exact fun w H a ns hl hO hS => ..
  case C => exact ..
(the tactic k_is has no namespace: write k_is) -/

/-! SHORT WORDS over the layer: a def of the text, its body, what a loop and a test want. -/
namespace L2
open PySem PySem.Spec PyProof.Rows

/-! ### the text by places -/
def defArgs (s : Stmt) : Arguments := match s with
  | .FunctionDef _ a _ _ _ _ _ _ _ _ => a
  | _ => { posonlyargs := [], args := [], vararg := none, kwonlyargs := [], kw_defaults := [], kwarg := none, defaults := [] }
def defBody (s : Stmt) : List Stmt := match s with
  | .FunctionDef _ _ b _ _ _ _ _ _ _ => b
  | _ => []
def defScope (s : Stmt) : Scope := match s with
  | .FunctionDef _ _ _ _ _ _ sc _ _ _ => sc
  | _ => { kind := .function, names := [], isGenerator := false, isCoroutine := false }

/-! ### no exception leaves a def -/
abbrev CX0 : CXT := fun _ _ _ _ _ _ => False
abbrev E0 : XK := fun _ _ _ => False
theorem pass0 {X : Cx} : Passes CX0 X E0 := fun _ _ _ _ _ _ _ h => h.elim

/-! ### a def (or method) of the text as it stands behind the top -/
structure Fun (K : PySem.W.Frag) (x qual : Str) (st : Stmt) (f : Addr) (fd : FuncData) : Prop where
  ex : ∃ (oc : Value) (od : Option Addr) (kV doc pm : Value) (an : Option Addr) (cdv ct : Value) (osl : Array (Option Value)),
    fd = PySem.W.fnOf x qual (defArgs st) (defBody st) (defScope st) .none kV doc pm an cdv ct ∧ K.lookup f = some ⟨oc, od, .func fd, osl⟩ ∧ PySem.W.codeIn K cdv qual = true
  kp : PySem.W.keepIn K (.ref f) = true
section
variable {P : Program} {w : World} {K : PySem.W.Frag} {mg : Str → Option Value} {base : Heap}
/-- THE RULE for a def: its body as a term of rules, and the reading of that term -/
theorem Fun.ok {x qual : Str} {st : Stmt} {f : Addr} {fd : FuncData} {N ps : List Str} {k : Nat} {sp : Sp} (F : Fun K x qual st f fd) (S : FnScope N ps (defScope st)) (len : ∀ vs H Q E, sp vs H Q E → vs.length = ps.length)
    (hbody : ∀ (cdv : Value) (A : Around) (outer : List Env) (s : Shared) (H : Hp) (vs : List V) (Q : VK) (E : XK), Room k (A.deeper (envOfC qual (defScope st) s.heap.objs.size f cdv)) → sp vs H Q E →
      ∃ t, PSs (cxOf CX0 P w K mg base N qual (defScope st) f cdv A outer s H E).nox (defBody st) t ∧ t { nx := fun _ H' => Q .non H', rt := Q } (start N vs) H) : FnOk P w K mg base CX0 (k + 1) f fd ps sp := by
  obtain ⟨oc, od, kV, doc, pm, an, cdv, ct, osl, rfl, lk, hcd⟩ := F.ex
  refine fn_of lk hcd S len fun A outer s H vs Q E hr hsp => ?_
  obtain ⟨t, h, q⟩ := hbody cdv A outer s H vs Q E hr hsp
  exact ⟨t, h.nox, q⟩
/-- how its arguments bind (no defaults): h is «fun _ _ _ _ _ _ us hl => match us, hl with | [_, _], _ => rfl», one _ a parameter -/
theorem Fun.binds {x qual : Str} {st : Stmt} {f : Addr} {fd : FuncData} {ps : List Str} (F : Fun K x qual st f fd)
    (h : ∀ (kV doc pm : Value) (an : Option Addr) (cdv ct : Value) (us : List Value), us.length = ps.length → bindArgs (PySem.W.fnOf x qual (defArgs st) (defBody st) (defScope st) .none kV doc pm an cdv ct) ⟨us, []⟩ = pure (ps.zip us)) : Binds K fd ps [] := by
  obtain ⟨oc, od, kV, doc, pm, an, cdv, ct, osl, rfl, lk, hcd⟩ := F.ex
  exact .all (h kV doc pm an cdv ct)
theorem fun_mk {x qual : Str} {st : Stmt} {f : Addr} {oc : Value} {od an : Option Addr} {osl : Array (Option Value)} {kV doc pm cdv ct : Value} (l : K.lookup f = some ⟨oc, od, .func (PySem.W.fnOf x qual (defArgs st) (defBody st) (defScope st) .none kV doc pm an cdv ct), osl⟩)
    (c : PySem.W.codeIn K cdv qual = true) (k : PySem.W.keepIn K (.ref f) = true) : Fun K x qual st f (PySem.W.fnOf x qual (defArgs st) (defBody st) (defScope st) .none kV doc pm an cdv ct) := ⟨⟨oc, od, kV, doc, pm, an, cdv, ct, osl, rfl, l, c⟩, k⟩
end
theorem hu_of {A : Around} {k : Nat} (hr : Room k A) : A.units + 1 < cLine := Nat.lt_of_le_of_lt (Nat.add_le_add_left (by decide : 1 ≤ 64) _) hr.units
/-! ### expressions in short: the name that stands in the i-th slot -/
section
variable {X : Cx}
theorem pv (i : Nat) {x : Str} {pos : Pos} (hN : X.N[i]? = some x := by rfl) (hv : Vis X.env.scope x := by first | exact Or.inl rfl | exact Or.inr (Or.inl rfl) | exact Or.inr (Or.inr rfl)) (hd : (x == ("__debug__" : Str)) = false := by decide)
    (hcd : (x == ("__classdict__" : Str)) = false := by decide) : PE X (.Name x pos) (tVar i) := pe_var hN hv hd hcd
end

/-! ### tests -/
theorem ite2 {c A B : Prop} [Decidable c] (h1 : c → A) (h2 : ¬ c → B) : if c then A else B := by
  by_cases h : c
  · rw [if_pos h]
    exact h1 h
  · rw [if_neg h]
    exact h2 h
/-! ### heaps -/
/-- all that was tracked is as it was -/
def Same (H H' : Hp) : Prop := ∀ b o, H b = some o → H' b = some o
theorem Same.refl (H : Hp) : Same H H := fun _ _ h => h
theorem Same.trans {H H1 H2 : Hp} (a : Same H H1) (b : Same H1 H2) : Same H H2 := fun c o h => b c o (a c o h)
theorem Same.free {H H' : Hp} (e : Same H H') {l : Addr} (h : H' l = Option.none) : H l = Option.none := by
  cases q : H l with
  | none => rfl
  | some o =>
    rw [e l o q] at h
    cases h
theorem Same.seq {K : PySem.W.Frag} {H H' : Hp} {a : Addr} {xs : List V} (e : Same H H') (h : SqL K H a xs) : SqL K H' a xs := by
  rcases h with (h | ⟨o, h⟩) | h
  · exact .inl (.inl (e _ _ h))
  · exact .inl (.inr ⟨o, e _ _ h⟩)
  · exact .inr h

/-! ### len of a dict -/
/-! ### a dict's pairs: keys that differ -/
section
variable {κ : Type} [DecidableEq κ]
end
end L2

set_option Elab.async false
set_option linter.all false
set_option maxRecDepth 100000
namespace L2
open PySem PySem.Spec PyProof.Rows

/-! ### a list comprehension of one clause: the block's closure -/
def closOf (cells : List (Str × Addr)) : List (Str × NameKind) → List (Str × Addr) → List (Str × Addr)
  | [], acc => acc
  | (n, k) :: r, acc => closOf cells r (if k == .free then (n, (cells.lookup n).getD 0) :: acc else acc)
theorem clos_for {env : Env} {f : (Str × NameKind) → List (Str × Addr) → Sem (ForInStep (List (Str × Addr)))}
    (hf : ∀ n k cs, f (n, k) cs = if (k == NameKind.free) = true then (cellOf env n >>= fun c => pure (ForInStep.yield ((n, c) :: cs))) else pure (ForInStep.yield cs)) :
    ∀ (names : List (Str × NameKind)) (acc : List (Str × Addr)), (∀ x ∈ names, x.2 = .free → ∃ c, env.cells.lookup x.1 = some c) →
    forIn names acc f = (pure (closOf env.cells names acc) : Sem _)
  | [], acc, _ => rfl
  | (n, k) :: r, acc, h => by
    rw [List.forIn_cons, hf]
    have ih := fun acc => clos_for hf r acc fun x hx => h x (List.mem_cons_of_mem _ hx)
    by_cases hk : (k == NameKind.free) = true
    · rw [if_pos hk]
      obtain ⟨c, hc⟩ := h (n, k) List.mem_cons_self (by simpa using hk)
      have e : cellOf env n = pure c := by unfold cellOf; rw [hc]
      rw [e, pure_bind, pure_bind]
      show forIn r ((n, c) :: acc) f = _
      rw [ih]
      show _ = pure (closOf env.cells r (if (k == NameKind.free) = true then (n, (env.cells.lookup n).getD 0) :: acc else acc))
      rw [if_pos hk, hc]; rfl
    · rw [if_neg hk, pure_bind]
      show forIn r acc f = _
      rw [ih]
      show _ = pure (closOf env.cells r (if (k == NameKind.free) = true then (n, (env.cells.lookup n).getD 0) :: acc else acc))
      rw [if_neg hk]
theorem closureFor_eq {env : Env} {scope : Scope} (h : ∀ x ∈ scope.names, x.2 = .free → ∃ c, env.cells.lookup x.1 = some c) : closureFor scope env = pure (closOf env.cells scope.names []) := by
  unfold closureFor
  show (forIn scope.names ([] : List (Str × Addr)) _ >>= fun cs => pure cs) = _
  rw [clos_for (env := env) (fun n k cs => ?_) _ _ h]
  · rfl
  · rfl
theorem closOf_some {cells : List (Str × Addr)} : ∀ {names : List (Str × NameKind)} {acc : List (Str × Addr)} {x : Str} {c : Addr}, (∀ y ∈ names, y.2 = .free → ∃ c, cells.lookup y.1 = some c) →
    (∀ y c, acc.lookup y = some c → cells.lookup y = some c) → (closOf cells names acc).lookup x = some c → cells.lookup x = some c
  | [], acc, x, c, _, ha, h => ha x c h
  | (n, k) :: r, acc, x, c, hn, ha, h => by
    refine closOf_some (names := r) (fun y hy => hn y (List.mem_cons_of_mem _ hy)) ?_ h
    intro y d hy
    by_cases hk : (k == NameKind.free) = true
    · rw [if_pos hk] at hy
      obtain ⟨e, he⟩ := hn (n, k) List.mem_cons_self (by simpa using hk)
      have he' : cells.lookup n = some e := he
      rw [List.lookup_cons] at hy
      by_cases hyn : (y == n) = true
      · rw [hyn] at hy
        have hy' : (cells.lookup n).getD 0 = d := Option.some.inj hy
        rw [he'] at hy'
        have e1 : y = n := by simpa using hyn
        rw [e1, he', ← hy']; rfl
      · have hf : (y == n) = false := by simpa using hyn
        rw [hf] at hy
        exact ha y d hy
    · rw [if_neg hk] at hy
      exact ha y d hy
theorem closOf_acc {cells : List (Str × Addr)} : ∀ {names : List (Str × NameKind)} {acc : List (Str × Addr)} {x : Str}, (∃ c, acc.lookup x = some c) → ∃ c, (closOf cells names acc).lookup x = some c
  | [], _, _, h => h
  | (n, k) :: r, acc, x, h => by
    refine closOf_acc (names := r) ?_
    by_cases hk : (k == NameKind.free) = true
    · rw [if_pos hk, List.lookup_cons]
      cases hx : (x == n) with
      | true => exact ⟨_, rfl⟩
      | false => exact h
    · rw [if_neg hk]; exact h
theorem closOf_has {cells : List (Str × Addr)} : ∀ {names : List (Str × NameKind)} {acc : List (Str × Addr)} {x : Str}, (x, NameKind.free) ∈ names → ∃ c, (closOf cells names acc).lookup x = some c
  | (n, k) :: r, acc, x, h => by
    rcases List.mem_cons.mp h with e | h
    · have e1 : x = n := congrArg (·.1) e
      have e2 : NameKind.free = k := congrArg (·.2) e
      subst e1 e2
      refine closOf_acc (names := r) ?_
      rw [if_pos (by rfl), List.lookup_cons]
      rw [beq_self_eq_true]
      exact ⟨_, rfl⟩
    · exact closOf_has (names := r) h
/-- a name of the block that is no local is one of its free ones -/
theorem relabel_free {env : Env} : ∀ {names : List (Str × NameKind)} {x : Str} {k : NameKind}, (∀ y ∈ names, y.2 ≠ .cell) →
    (names.map fun (n, k) => if (k == NameKind.free && env.scope.kind == .function && env.kindOf n == some .cell) then (n, NameKind.cell) else (n, k)).lookup x = some k → (k = .cell ∨ k = .free) → (x, NameKind.free) ∈ names
  | [], _, _, _, h, _ => by simp at h
  | (n, k0) :: r, x, k, hc, h, hk => by
    have ih := @relabel_free env r x k (fun y hy => hc y (List.mem_cons_of_mem _ hy))
    rw [List.map_cons] at h
    by_cases hf : (k0 == NameKind.free && env.scope.kind == .function && env.kindOf n == some .cell) = true
    · have hk0 : k0 = .free := by
        have : (k0 == NameKind.free) = true := by
          rw [Bool.and_eq_true, Bool.and_eq_true] at hf; exact hf.1.1
        simpa using this
      dsimp only at h
      rw [if_pos hf, List.lookup_cons] at h
      cases hx : (x == n) with
      | true =>
        have : x = n := by simpa using hx
        rw [this, hk0]; exact List.mem_cons_self
      | false => rw [hx] at h; exact List.mem_cons_of_mem _ (ih h hk)
    · dsimp only at h
      rw [if_neg hf, List.lookup_cons] at h
      cases hx : (x == n) with
      | true =>
        rw [hx] at h
        have e : k0 = k := Option.some.inj h
        have : x = n := by simpa using hx
        rcases hk with z | z
        · exact absurd (e.trans z) (hc (n, k0) List.mem_cons_self)
        · rw [this, e, z]; exact List.mem_cons_self
      | false => rw [hx] at h; exact List.mem_cons_of_mem _ (ih h hk)

/-! ### the block's context -/
def cxComp (X : Cx) (N0 T : List Str) (scope : Scope) (C : Addr) (fp : List Addr) (s : Shared) (H : Hp) : Cx :=
  { X with N := N0 ++ T, s₀ := s, H₀ := H, env := compEnvC scope (closOf X.env.cells scope.names []) C X.env, outer := X.stack, stack := X.stack, ex := fp, fn := fun _ => false, pn := [], xe := fun _ _ => False }
/-- what the scope of a block must be: no cells of its own, its free names are the def's cells, its locals are none of the tracked names -/
structure CompScope (X : Cx) (N0 T : List Str) (scope : Scope) : Prop where
  kind : scope.kind = .function
  nocell : ∀ y ∈ scope.names, y.2 ≠ .cell
  names : ∀ y ∈ scope.names, y.2 = .local → scope.names.lookup y.1 = some .local
  free : ∀ y ∈ scope.names, y.2 = .free → X.env.kindOf y.1 = some .cell ∨ X.env.kindOf y.1 = some .free
  apart : ∀ y ∈ scope.names, y.2 = .local → y.1 ∉ N0
  len0 : N0.length = X.N.length
  same : ∀ (i : Nat) (x : Str) (k : NameKind), N0[i]? = some x → (x, k) ∈ scope.names → X.N[i]? = some x
/-- a loop of one clause, with what is done ahead of the store -/
theorem codeAny_compLoop_go {prog : Program} {w : World} {A : Around} {R : Result → Shared → Prop} {s : Shared} {elt target iter : Expr} {ifs : List Expr} {scope : Scope} {pos : Pos} {it acc : Value} {env : Env} (I : Nat → Shared → Prop)
    (turn : ∀ n s, I n s → wpAny (model prog w) A (pyNext it) (fun r s₁ => match r with
      | none => R (.ok .next) s₁
      | some v => wpAny (model prog w) A (letOwnedTupleGo target it v) (fun _ s₀ => wpAny (model prog w) A (assign target env v) (fun _ s₂ =>
          wpAny (model prog w) A (forIn ifs true fun c r => if r = true then do let ok ← isTrue c env (eval c env); pure (ForInStep.yield ok) else pure (ForInStep.yield r)) (fun ok s₃ =>
            if ok = true then wpAny (model prog w) A (eval elt env) (fun x s₄ =>
              wpAny (model prog w) A (call (.builtin "list.append") [acc, x]) (fun _ s₅ => ∃ m, m < n ∧ I m s₅) (fun _ _ => False) s₄) (fun _ _ => False) s₃
            else ∃ m, m < n ∧ I m s₃) (fun _ _ => False) s₂) (fun _ _ => False) s₀) (fun _ _ => False) s₁) (fun _ _ => False) s)
    (n : Nat) (h : I n s) :
    codeAny (model prog w) A (.compLoop (.ListComp elt [⟨target, iter, ifs, 0⟩] scope pos) 0 it acc env) R s := by
  refine codeAny_loop rfl I (fun n s hI => ?_) n h
  show wpAny _ A ((compTurn (.ListComp elt [⟨target, iter, ifs, 0⟩] scope pos) 0 it acc env).onRaise (fun x => do noteFrame x env; theTreesLotGoes x)) _ _ s
  refine wpAny_noted ?_
  rw [compTurn_list]
  refine wpAny_bind (wpAny_standAt (wpAny_bind (wpAny_mono (turn n s hI) (fun r s₁ h₁ => ?_) fun _ _ h' => h'.elim)))
  cases r with
  | none => exact wpAny_pure h₁
  | some v =>
    refine wpAny_bind (wpAny_mono h₁ (fun _ s₀ h₀ => ?_) fun _ _ h' => h'.elim)
    refine wpAny_bind (wpAny_mono h₀ (fun _ s₂ h₂ => wpAny_bind (wpAny_mono h₂ (fun ok s₃ h₃ => ?_) fun _ _ h' => h'.elim)) fun _ _ h' => h'.elim)
    cases ok with
    | false => exact wpAny_pure ⟨rfl, h₃⟩
    | true =>
      exact wpAny_bind (wpAny_bind (wpAny_mono h₃ (fun x s₄ h₄ => wpAny_bind (wpAny_mono h₄ (fun _ s₅ h₅ => wpAny_pure (wpAny_pure ⟨rfl, h₅⟩)) fun _ _ h' => h'.elim)) fun _ _ h' => h'.elim))

/-- tests of a clause: none, or one -/
def PIfs (X : Cx) (ifs : List Expr) (tc : TT) : Prop :=
  ∀ (pins : List (Addr × Obj)) (s : Shared) (σ : St) (H : Hp) (Q : Bool → Hp → Prop), Inv X pins σ H s → tc σ H Q →
    wpAny (model X.prog X.w) X.A (forIn ifs true fun c r => if r = true then do let ok ← isTrue c X.env (eval c X.env); pure (ForInStep.yield ok) else pure (ForInStep.yield r)) (TP X pins σ Q) X.xe s
def tYes : TT := fun _ H Q => Q true H
theorem pifs_nil {X : Cx} : PIfs X [] tYes := fun _ _ _ H _ I h => wpAny_tests_nil ⟨H, I, h⟩
theorem pifs_one {X : Cx} {c : Expr} {tc : TT} (hc : PT X c tc) : PIfs X [c] tc := fun pins s σ H Q I h => wpAny_tests_one (hc pins s σ H Q I h)

/-- a target that stores into the slots from n on alone -/
def GFr (g : TG) (n : Nat) : Prop := ∀ x σ H Q, g x σ H Q → g x σ H fun σ' H' => Q σ' H' ∧ σ'.length = σ.length ∧ ∀ k, k < n → σ'[k]? = σ[k]?
def GsFr (g : TGs) (n : Nat) : Prop := ∀ x σ H Q, g x σ H Q → g x σ H fun σ' H' => Q σ' H' ∧ σ'.length = σ.length ∧ ∀ k, k < n → σ'[k]? = σ[k]?
theorem gfr_name {i n : Nat} (h : n ≤ i) : GFr (gName i) n := fun x σ H Q q => ⟨q, by simp, fun k hk => by rw [List.getElem?_set_ne (by omega)]⟩
theorem gsfr_nil {n : Nat} : GsFr gNil n := fun x σ H Q q => ⟨q.1, q.2, rfl, fun _ _ => rfl⟩
def GMono (g : TG) : Prop := ∀ x σ H Q Q', (∀ σ' H', Q σ' H' → Q' σ' H') → g x σ H Q → g x σ H Q'
def GsMono (g : TGs) : Prop := ∀ x σ H Q Q', (∀ σ' H', Q σ' H' → Q' σ' H') → g x σ H Q → g x σ H Q'
theorem gm_name {i : Nat} : GMono (gName i) := fun x σ H Q Q' h q => h _ _ q
theorem gsm_nil : GsMono gNil := fun x σ H Q Q' h q => ⟨q.1, h _ _ q.2⟩
theorem gsm_cons {t : TG} {u : TGs} (h1 : GMono t) (h2 : GsMono u) : GsMono (gCons t u) := fun x σ H Q Q' h ⟨v, r, e, q⟩ => ⟨v, r, e, h1 _ _ _ _ _ (fun σ' H' z => h2 _ _ _ _ _ h z) q⟩
theorem gsfr_cons {t : TG} {u : TGs} {n : Nat} (h1 : GFr t n) (m1 : GMono t) (h2 : GsFr u n) (m2 : GsMono u) : GsFr (gCons t u) n := fun x σ H Q ⟨v, r, e, q⟩ => by
  refine ⟨v, r, e, ?_⟩
  refine m1 _ _ _ _ _ (fun σ' H' z => ?_) (h1 _ _ _ _ q)
  obtain ⟨z, l1, k1⟩ := z
  exact m2 _ _ _ _ _ (fun σ2 H2 y => ⟨y.1, y.2.1.trans l1, fun k hk => (y.2.2 k hk).trans (k1 k hk)⟩) (h2 _ _ _ _ z)
theorem gfr_tup {K : PySem.W.Frag} {m n : Nat} {t : TGs} (h : GsFr t n) : GFr (gTup K m t) n := fun x σ H Q ⟨a, xs, e, q, l, z⟩ => ⟨a, xs, e, q, l, h _ _ _ _ z⟩

/-- the turns of a comprehension over J, its list at D: W by the turn, a measure, the items so far -/
def compW (J : It) (g : TG) (tc : TT) (te : TE) (nT : Nat) (σ : St) (D : Addr) (Q : VK) (H : Hp) : Prop :=
  ∃ W : Nat → Nat → List V → Hp → Prop, (∃ m, W 0 m [] H) ∧ ∀ i m ys H2, W i m ys H2 →
    (J.stop i H2 ∧ Q (.ref D) H2) ∨ (J.go i H2 ∧ ∀ x H', J.yld i H2 x H' → g x (σ ++ List.replicate nT none) H' fun σ2 H3 => tc σ2 H3 fun b H4 =>
      if b = true then te σ2 H4 fun y H5 => H5 D = some (.lst ys) ∧ ys.length < sizeLine ∧ ∃ m', m' < m ∧ W (i + 1) m' (ys ++ [y]) (upd H5 D (.lst (ys ++ [y]))) else ∃ m', m' < m ∧ W (i + 1) m' ys H4)
def tComp (wi : TI) (g : TG) (tc : TT) (te : TE) (nT : Nat) : TE := fun σ H Q => wi σ H fun J H1 => ∀ D, H1 D = none → compW J g tc te nT σ D Q (upd H1 D (.lst []))

theorem HOk.sameBut {P : Program} {w : World} {H : Hp} {h h' : Heap} {C : Addr} (x : HOk P w H h) (hs : Heap.SameBut C h h') (hC : H C = none) : HOk P w H h' := fun a o e =>
  (x a o e).stay (fun b u hb q => (hs.2 b (by
    rintro rfl
    rcases hb with z | z
    · rw [z] at hC; rw [hC] at e; cases e
    · rw [hC] at z; cases z)).trans q) (fun _ q => q) fun _ _ q => q

section
variable {X : Cx} {N0 T : List Str} {scope : Scope} {tg elt iter : Expr} {ifs : List Expr} {pos : Pos} {wi : TI} {g : TG} {tc : TT} {te : TE}

theorem comp_core {pins : List (Addr × Obj)} {σ : St} {H : Hp} {s : Shared} {E : Value → Shared → Prop} {it : Addr} {fp : List Addr} {tn : Nat → Heap → Prop} {J : It} {Q : VK} {RR : Value → Addr → Result → Shared → Prop}
    (S : CompScope X N0 T scope) (hc : X.calm = true)
    (hg : ∀ C fp s H, PG (cxComp X N0 T scope C fp s H) tg g) (hfr : GFr g X.N.length) (hi : ∀ C fp s H, PIfs (cxComp X N0 T scope C fp s H) ifs tc) (he : ∀ C fp s H, PE (cxComp X N0 T scope C fp s H) elt te)
    (I : Inv X pins σ H s) (Tn : Turn X.prog X.w X.K tg J fp it tn) (st : tn 0 s.heap) (hf : ∀ b ∈ fp, FpOk X pins H b)
    (h : ∀ D, H D = none → compW J g tc te T.length σ D Q (upd H D (.lst [])))
    (hRR : ∀ D C s' H' m, s'.heap.Ns C m → H' C = none → C ≠ X.env.locals → (∀ x c, X.env.cells.lookup x = some c → c ≠ C) → (∀ p ∈ X.pn ++ pins, p.1 ≠ C) → X.s₀.heap.objs.size ≤ C → Inv X pins σ H' s' →
      (∀ h', Heap.SameBut C s'.heap h' → Inv X pins σ H' { s' with heap := h' }) → Q (.ref D) H' → RR (.ref D) C (.ok .next) s') :
    wpAny (model X.prog X.w) X.A (newList []) (fun acc s₃ => wpAny (model X.prog X.w) X.A (newFunctionEnv scope X.env.globals (closOf X.env.cells scope.names []) [] X.env.qual none .none (some X.env)) (fun cenv s₄ =>
      codeAny (model X.prog X.w) X.A (.compStart (.ListComp elt [⟨tg, iter, ifs, 0⟩] scope pos) 0 (.ref it) acc { cenv with scope := relabel scope X.env }) (RR acc cenv.locals) s₄) E s₃) E s := by
  refine wpAny_newObj_type (wpAny_newFunctionEnv S.nocell (by intro y hy; simp at hy) (fun h₁ hns₁ hsb₁ => ?_) S.kind)
  dsimp only at hns₁ hsb₁ ⊢
  generalize hH2 : s.heap.push { cls := .type "list", dict := none, data := .seq ([] : List Value).toArray } = P2 at hns₁ hsb₁ ⊢
  have hC : P2.objs.size = s.heap.objs.size + 1 := by rw [← hH2, Heap.size_push]
  -- the new list D, the block's names C
  obtain ⟨D, hD⟩ : ∃ D : Nat, D = s.heap.objs.size := ⟨_, rfl⟩
  obtain ⟨C, hCC⟩ : ∃ C : Nat, C = P2.objs.size := ⟨_, rfl⟩
  rw [← hCC] at hns₁ hsb₁ hC ⊢
  rw [← hD] at hC ⊢
  have hDC : D ≠ C := by omega
  have hDlt : D < C := by omega
  have neD : ∀ b o, s.heap.get? b = some o → b ≠ D := fun b o e => hD ▸ Nat.ne_of_lt (Heap.lt_size e)
  have neC : ∀ b o, s.heap.get? b = some o → b ≠ C := fun b o e => Nat.ne_of_lt (Nat.lt_trans (hD ▸ Heap.lt_size e) hDlt)
  have old : ∀ b o, s.heap.get? b = some o → h₁.get? b = some o := fun b o e => hsb₁.extBut b o (neC b o e) (Heap.get?_push_of_some _ (hH2 ▸ Heap.get?_push_of_some _ e))
  have hHD : H D = none := I.hok.fresh (by omega)
  have hHC : H C = none := I.hok.fresh (by omega)
  have dat : h₁.get? D = some { cls := .type "list", data := .seq ([] : List Value).toArray 0 } := by
    refine hsb₁.extBut _ _ hDC (Heap.get?_push_of_some _ ?_)
    rw [← hH2, hD]
    exact Heap.get?_push_size _ rfl
  -- the block's context stands
  have hcl : ∀ x c, (closOf X.env.cells scope.names []).lookup x = some c → X.env.cells.lookup x = some c := fun x c e =>
    closOf_some (fun y hy hk => I.ok.has y.1 (S.free y hy hk)) (fun y c z => by simp at z) e
  have okC : (cxComp X N0 T scope C fp s H).Ok := by
    refine ⟨I.ok.mod, ?_, I.ok.glob, I.ok.blt, ?_, fun x y c e1 e2 => I.ok.inj x y c (hcl x c e1) (hcl y c e2), fun x hx => ?_, fun x c z _ => (by cases z), I.ok.hd, I.ok.frames, .inl rfl, fun b hb => ⟨?_, fun x c e => (hf b hb).2.2.2.2.1 x c (hcl x c e)⟩,
      I.bs, ?_, fun b o e hb => ?_, fun b hb z => ?_, I.stack, I.stkFree⟩
    · show (relabel scope X.env).kind = .function
      exact S.kind
    · show s.heap.objs.size ≤ C
      omega
    · have hx' : (relabel scope X.env).names.lookup x = some .cell ∨ (relabel scope X.env).names.lookup x = some .free := hx
      have m : (x, NameKind.free) ∈ scope.names := by
        rcases hx' with z | z
        · exact relabel_free S.nocell z (.inl rfl)
        · exact relabel_free S.nocell z (.inr rfl)
      exact closOf_has m
    · show b ≠ C
      obtain ⟨o, e, _⟩ := Tn.obj 0 _ st b hb
      exact neC b o e
    · exact Nat.le_trans I.ok.bsz I.sz
    · obtain ⟨_, _, _, z, _⟩ := hf b hb
      rcases z with z | z
      · exact I.ok.noex b o e z
      · exact absurd (Nat.lt_of_lt_of_le (Nat.lt_of_lt_of_le (Heap.lt_size e) I.ok.bsz) z) (Nat.lt_irrefl _)
    · obtain ⟨_, z1, z2, _⟩ := hf b hb
      rcases List.mem_cons.mp (I.stkSub b z) with q | q
      · exact z1 q
      · exact z2 q
  have I1 : Inv (cxComp X N0 T scope C fp s H) [] (σ ++ List.replicate T.length none) (upd H D (.lst [])) { s with heap := h₁, toks := s.toks + ([] : List (Str × Value)).length } := by
    refine ⟨okC, rfl, I.bare, Un.laid (h := s.heap) old (by omega) hHD, ⟨_, hns₁, fun i x v e1 e2 e3 => ?_⟩, fun x c e => ?_, ?_, fun x c e => ?_, fun p hp => (by simp [cxComp] at hp), I.hok.laid old (by omega) ?_, ?_⟩
    · have e1' : (N0 ++ T)[i]? = some x := e1
      have hl := I.len
      have hl0 := S.len0
      have hi : i < σ.length := by
        rcases Nat.lt_or_ge i σ.length with z | z
        · exact z
        · rw [List.getElem?_append_right z] at e2
          rw [List.getElem?_replicate] at e2
          split at e2 <;> cases e2
      rw [List.getElem?_append_left hi] at e2
      rw [List.getElem?_append_left (by omega)] at e1'
      have hxN : x ∈ N0 := List.mem_of_getElem? e1'
      have e3' : (relabel scope X.env).names.lookup x = some .local ∨ (relabel scope X.env).names.lookup x = some .cell ∨ (relabel scope X.env).names.lookup x = some .free := e3
      have fr : (relabel scope X.env).names.lookup x = some .cell ∨ (relabel scope X.env).names.lookup x = some .free := by
        rcases e3' with z | z | z
        · exfalso
          -- a local of the block is no tracked name
          have key : ∀ (names : List (Str × NameKind)), (names.map fun (n, k) => if (k == NameKind.free && X.env.scope.kind == .function && X.env.kindOf n == some .cell) then (n, NameKind.cell) else (n, k)).lookup x = some .local → (x, NameKind.local) ∈ names := by
            intro names
            induction names with
            | nil => intro z; simp at z
            | cons y r ih =>
              obtain ⟨n, k⟩ := y
              intro z
              rw [List.map_cons] at z
              dsimp only at z
              by_cases hfk : (k == NameKind.free && X.env.scope.kind == .function && X.env.kindOf n == some .cell) = true
              · rw [if_pos hfk, List.lookup_cons] at z
                cases hx : (x == n) with
                | true => rw [hx] at z; cases z
                | false => rw [hx] at z; exact List.mem_cons_of_mem _ (ih z)
              · rw [if_neg hfk, List.lookup_cons] at z
                cases hx : (x == n) with
                | true =>
                  rw [hx] at z
                  have ek : k = .local := Option.some.inj z
                  have en : x = n := by simpa using hx
                  rw [ek, en]; exact List.mem_cons_self
                | false => rw [hx] at z; exact List.mem_cons_of_mem _ (ih z)
          exact S.apart (x, .local) (key _ z) rfl hxN
        · exact .inl z
        · exact .inr z
      have m : (x, NameKind.free) ∈ scope.names := by
        rcases fr with z | z
        · exact relabel_free S.nocell z (.inl rfl)
        · exact relabel_free S.nocell z (.inr rfl)
      have kX := S.free _ m rfl
      obtain ⟨mm, hn, hl'⟩ := I.loc
      obtain ⟨u, r, lk⟩ := hl' i x v (S.same i x _ e1' m) e2 (.inr kX)
      refine ⟨u, r, .inr ⟨fr, ?_⟩⟩
      rcases lk with ⟨z, _⟩ | ⟨_, c, ec, cc⟩
      · rcases kX with q | q
        · rw [q] at z; cases z
        · rw [q] at z; cases z
      · obtain ⟨c', ec'⟩ := closOf_has (cells := X.env.cells) (acc := []) m
        have := hcl x c' ec'
        rw [ec] at this; cases this
        exact ⟨c, ec', cc.keeps old⟩
    · obtain ⟨v, z⟩ := I.cell x c (hcl x c e)
      exact ⟨v, z.keeps old⟩
    · show upd H D (.lst []) C = none
      rw [upd_ne (Ne.symm hDC)]; exact hHC
    · have q := I.freeC x c (hcl x c e)
      obtain ⟨v, o, z, _⟩ := I.cell x c (hcl x c e)
      rw [upd_ne (neD c o z)]; exact q
    · exact ⟨Nat.zero_le _, [], 0, .nil, dat⟩
    · show (σ ++ List.replicate T.length none).length = (N0 ++ T).length
      rw [List.length_append, List.length_append, List.length_replicate, I.len, S.len0]
  have st1 : tn 0 h₁ := Tn.keep _ _ _ st fun b _ o e => old b o e
  have fp1 : ∀ {H' : Hp}, (∀ b ∈ fp, H' b = none) → ∀ b ∈ fp, FpOk (cxComp X N0 T scope C fp s H) [] H' b := fun hn b hb =>
    ⟨hn b hb, (okC.exf b hb).1, okC.exfs b hb, .inl hb, (okC.exf b hb).2, fun p hp => (by simp [cxComp] at hp)⟩
  have fp0 : ∀ b ∈ fp, upd H D (.lst []) b = none := fun b hb => by
    obtain ⟨o, e, _⟩ := Tn.obj 0 _ st b hb
    rw [upd_ne (neD b o e)]; exact (hf b hb).1
  obtain ⟨W, ⟨m0, w0⟩, turn⟩ := h D hHD
  have loop : ∀ s₃ : Shared, s₃ = { s with heap := h₁, toks := s.toks + ([] : List (Str × Value)).length } →
      codeAny (model X.prog X.w) X.A (.compLoop (.ListComp elt [⟨tg, iter, ifs, 0⟩] scope pos) 0 (.ref it) (.ref D) (compEnvC scope (closOf X.env.cells scope.names []) C X.env)) (RR (.ref D) C) s₃ := by
    rintro s₃ rfl
    refine codeAny_compLoop_go (fun n s' => ∃ i H' ys, Inv (cxComp X N0 T scope C fp s H) [] (σ ++ List.replicate T.length none) H' s' ∧ tn i s'.heap ∧ (∀ b ∈ fp, H' b = none) ∧ W i n ys H') ?_ m0 ⟨0, _, [], I1, st1, fp0, w0⟩
    rintro n s3 ⟨i, H3, ys, I3, st3, fr3, w3⟩
    rcases turn i n ys H3 w3 with ⟨stop, qn⟩ | ⟨go, step⟩
    · refine thn (Tn.done (cxComp X N0 T scope C fp s H) rfl rfl rfl hc i [] s3 _ H3 (fun _ _ => False) I3 (fp1 fr3) st3 stop) fun r s4 ⟨hr, I4⟩ => ?_
      subst hr
      obtain ⟨m, hm, _⟩ := I4.loc
      have hch : ∀ b ∈ fp, (b ∈ X.ex ∨ X.s₀.heap.objs.size ≤ b) ∧ b ≠ X.env.locals ∧ (∀ x c, X.env.cells.lookup x = some c → c ≠ b) ∧ ∀ p ∈ X.pn ++ pins, p.1 ≠ b := fun b hb =>
        ⟨(hf b hb).2.2.2.1, (hf b hb).2.1, (hf b hb).2.2.2.2.1, (hf b hb).2.2.2.2.2⟩
      have u4 : Un (frs X.stack) fp H H3 s.heap s4.heap := I4.base
      refine hRR D C s4 H3 m hm I4.free (Ne.symm (Nat.ne_of_lt (Nat.lt_trans (hD ▸ I.lt) hDlt))) (fun x c e => ?_) (fun p hp => ?_) (Nat.le_trans (hD ▸ I.sz) (Nat.le_of_lt hDlt)) (I.call' (ch := fp) I4.os u4 I4.hok I4.bare hch) (fun h' hs' => ?_) qn
      · obtain ⟨v, o, q, _⟩ := I.cell x c e
        exact neC c o q
      · exact neC _ _ (I.pin p hp).1
      · refine I.call' (ch := fp) (s' := { s4 with heap := h' }) I4.os ⟨fun b o q n' hb hx => (hs'.2 b (neC b o q)).trans (u4.keep b o q n' hb hx), fun b o q n' hb hx => ?_, u4.free, fun b o q hx => ?_, u4.tups, u4.frzs, u4.tbls⟩ (I4.hok.sameBut hs' I4.free) I4.bare hch
        · obtain ⟨sl, e⟩ := u4.slot b o q n' hb hx
          exact ⟨sl, (hs'.2 b (neC b o q)).trans e⟩
        · obtain ⟨o', e⟩ := u4.there b o q hx
          exact ⟨o', (hs'.2 b (neC b o q)).trans e⟩
    · refine thn (Tn.item (cxComp X N0 T scope C fp s H) rfl rfl rfl hc i [] s3 _ H3 (fun _ _ => False) I3 (fp1 fr3) st3 go) fun r s4 ⟨u, hr, h4⟩ => ?_
      subst hr
      refine thn h4 fun _ s5 ⟨x, H5, I5, r5, y5, st5, fr5⟩ => ?_
      have I5' := I5.pinned (fp1 fr5) (Tn.obj _ _ st5)
      refine thn (hg C fp s H _ s5 _ H5 x u _ I5' r5 (hfr _ _ _ _ (step x H5 y5))) fun _ s6 ⟨σ6, H6, I6, q6, l6, k6⟩ => ?_
      have back : ∀ {H7 : Hp} {s7 : Shared}, Inv (cxComp X N0 T scope C fp s H) ([] ++ pinsAt fp s5.heap) σ6 H7 s7 → (∀ {m' : Nat} {zs : List V}, m' < n → W (i + 1) m' zs H7 → ∃ m, m < n ∧ ∃ i H' ys, Inv (cxComp X N0 T scope C fp s H) [] (σ ++ List.replicate T.length none) H' s7 ∧ tn i s7.heap ∧ (∀ b ∈ fp, H' b = none) ∧ W i m ys H') := fun {H7 s7} I7 {m' zs} hm w7 => by
        refine ⟨m', hm, i + 1, H7, zs, I7.unpinned.weak (by rw [l6]) (fun j v e => ?_), Tn.keep _ _ _ st5 fun b hb o e => (I7.pin (b, o) (List.mem_append_right _ (List.mem_append_right _ (mem_pinsAt hb e)))).1, fun b hb => ?_, w7⟩
        · have hj : j < σ.length := by
            rcases Nat.lt_or_ge j σ.length with z | z
            · exact z
            · rw [List.getElem?_append_right z, List.getElem?_replicate] at e
              split at e <;> cases e
          rw [k6 j (by rw [← I.len]; exact hj)]
          exact e
        · obtain ⟨o, e, d⟩ := Tn.obj _ _ st5 b hb
          exact (I7.pin (b, o) (List.mem_append_right _ (List.mem_append_right _ (mem_pinsAt hb e)))).2.1
      refine thn (hi C fp s H _ s6 σ6 H6 _ I6 q6) fun b s7 ⟨H7, I7, q7⟩ => ?_
      cases b with
      | false =>
        obtain ⟨m', hm, w7⟩ := (show ∃ m', m' < n ∧ W (i + 1) m' ys H7 from by simpa using q7)
        exact back I7 hm w7
      | true =>
        rw [if_pos rfl] at q7
        refine thn (he C fp s H _ s7 σ6 H7 _ I7 q7) fun v s8 ⟨y, H8, I8, r8, hD8, hz, m', hm, w8⟩ => ?_
        refine thn (mt_append (X := cxComp X N0 T scope C fp s H) _ s8 σ6 H8 (.ref D) [y] (.ref D) [v] (fun _ H9 => H9 = upd H8 D (.lst (ys ++ [y]))) I8 rfl (.cons r8 .nil) ⟨D, ys, y, rfl, rfl, hD8, hz, rfl⟩) fun v9 s9 ⟨y9, H9, I9, _, e9⟩ => ?_
        subst e9
        exact back I9 hm w8
  exact codeAny_compStart_list (loop _ rfl) (Tn.self X.A 0 _ _ _ st1 (loop _ rfl))

/-- [elt for tg in iter] -/
theorem pe_comp (S : CompScope X N0 T scope) (hc : X.calm = true) (hI : PI X tg iter wi)
    (hg : ∀ C fp s H, PG (cxComp X N0 T scope C fp s H) tg g) (hfr : GFr g X.N.length) (hi : ∀ C fp s H, PIfs (cxComp X N0 T scope C fp s H) ifs tc) (he : ∀ C fp s H, PE (cxComp X N0 T scope C fp s H) elt te)
    (hs : ∀ x, foldedSetIterable iter X.env x = pure x := by intro _; rfl) : PE X (.ListComp elt [⟨tg, iter, ifs, 0⟩] scope pos) (tComp wi g tc te T.length) := by
  intro pins s σ H Q I h
  rw [eval_ListComp]
  refine wpAny_comprehension_free (use := none) rfl hs (closureFor_eq fun x hx hk => I.ok.has x.1 (S.free x hx hk)) S.kind S.names (thn (hI pins s σ H _ I h) fun v s1 h1 => thn h1 fun itv s2 h2 => ?_)
  obtain ⟨it, fp, tn, J, H2, e, I2, Tn, st2, f2, q2⟩ := h2
  subst e
  refine comp_core (RR := fun acc C => compPost (model X.prog X.w) X.A X.xe none (EP X pins σ Q) acc C) S hc hg hfr hi he I2 Tn st2 f2 q2 ?_
  intro D C s' H' m hn hC hL hcells hpins hfresh I' hI' q
  exact ⟨m, hn, fun h' hs' => ⟨.ref D, H', hI' h' hs', rfl, q⟩⟩

/-- x = [elt for tg in iter] -/
theorem ps_setcomp {i : Nat} {x : Str} {pos' spos : Pos} (S : CompScope X N0 T scope) (hc : X.calm = true) (hN : X.N.Nodup) (hi' : X.N[i]? = some x) (hx : X.env.scope.names.lookup x = some .local) (hI : PI X tg iter wi)
    (hg : ∀ C fp s H, PG (cxComp X N0 T scope C fp s H) tg g) (hfr : GFr g X.N.length) (hi : ∀ C fp s H, PIfs (cxComp X N0 T scope C fp s H) ifs tc) (he : ∀ C fp s H, PE (cxComp X N0 T scope C fp s H) elt te)
    (hsw : swapsWith (.ListComp elt [⟨tg, iter, ifs, 0⟩] scope pos) (some (.Name x pos')) spos.line X.env = pure true := by rfl)
    (hs : ∀ x, foldedSetIterable iter X.env x = pure x := by intro _; rfl) : PS X (.Assign [.Name x pos'] (.ListComp elt [⟨tg, iter, ifs, 0⟩] scope pos) spos) (tAsg (tComp wi g tc te T.length) (gName i)) := by
  intro pins s σ H D I h
  rw [exec_Assign_Name_used _ _ _ _ hsw]
  refine wpAny_bind (wpAny_standAt (wpAny_bind ?_))
  show wpAny _ X.A (do let _ ← comprehension (.ListComp elt [⟨tg, iter, ifs, 0⟩] scope pos) scope X.env _ (newList []) false (eval iter X.env) (some (assign (.Name x pos') X.env))) _ _ s
  refine wpAny_bind (wpAny_mono (wpAny_comprehension_free (use := some (assign (.Name x pos') X.env)) (Q := fun _ s' => SP X pins D .next s') rfl hs (closureFor_eq fun x hx hk => I.ok.has x.1 (S.free x hx hk)) S.kind S.names
    (thn (hI pins s σ H _ I h) fun v s1 h1 => thn h1 fun itv s2 h2 => ?_)) (fun _ s' hq => wpAny_pure (wpAny_pure hq)) fun _ _ e => e)
  obtain ⟨it, fp, tn, J, H2, e, I2, Tn, st2, f2, q2⟩ := h2
  subst e
  refine comp_core (RR := fun acc C => compPost (model X.prog X.w) X.A X.xe (some (assign (.Name x pos') X.env)) (fun _ s' => SP X pins D .next s') acc C) S hc hg hfr hi he I2 Tn st2 f2 q2 ?_
  intro L C s' H' m hn hC hL hcells hpins hfresh I' hI' q
  show wpAny _ X.A (assign (.Name x pos') X.env (.ref L)) _ _ _
  refine wpAny_assign_Name (store_ok2 (v := .ref L) I' hN hi' (.inl hx) rfl (fun s'' I'' ⟨a, hsa, ha⟩ => ?_) (.inr hx))
  have hCa : C ≠ a := by
    rintro rfl
    rcases ha with z | z
    · exact hL z
    · exact hcells x C z rfl
  refine ⟨m, hn.sameBut hsa hCa, fun h' hs' => ?_⟩
  exact ⟨σ.set i (some (.ref L)), H', I''.turned (t' := s''.toks) (fun b o hb e => (hs'.2 b hb).trans e) hC hL (.inr hfresh) hcells hpins, q⟩
end
end L2

set_option Elab.async false
set_option linter.all false
set_option maxRecDepth 100000
namespace L2
open PySem PySem.Spec PyProof.Rows

/-! ### items of a list of values, the other way about -/
theorem Vals.of : ∀ {xs : List V} {us : List Value} {i : Nat} {u : Value}, Vals xs us → us[i]? = some u → ∃ x, xs[i]? = some x ∧ RelV x u
  | _, _, 0, u, .cons r _, e => ⟨_, rfl, by simp at e; subst e; exact r⟩
  | _, _, i + 1, u, .cons _ rr, e => by
    obtain ⟨x, hx, r⟩ := Vals.of (i := i) rr (by simpa using e)
    exact ⟨x, by simpa using hx, r⟩
theorem vals_strs : ∀ {ss : List Str} {us : List Value}, Vals (ss.map V.str) us → StrsAre us ss
  | [], _, .nil => .nil
  | s :: ss, _, .cons r rr => by
    obtain ⟨t, rfl⟩ := r
    exact .cons s t (vals_strs rr)
theorem strs_vals : ∀ {us : List Value} {ss : List Str}, StrsAre us ss → Vals (ss.map V.str) us
  | _, _, .nil => .nil
  | _, _, .cons y t h => .cons ⟨t, rfl⟩ (strs_vals h)

/-! ### all, any of a list of bools -/
section
variable {X : Cx}
/-! ### isinstance -/
/-- the built-in type that a value is of -/
def tyName (H : Hp) : V → Option String
  | .non => some "NoneType"
  | .bl _ => some "bool"
  | .int _ => some "int"
  | .str _ => some "str"
  | .ref a => match H a with
    | some (.lst _) => some "list"
    | some (.frz _ (.lst _)) => some "list"
    | some (.tup _) => some "tuple"
    | some (.dK _) => some "dict"
    | some (.dT _) => some "dict"
    | _ => none
  | _ => none
theorem tyOf_name {K : PySem.W.Frag} {H : Hp} : ∀ {x : V} {T : String}, tyName H x = some T → TyOf K H x (.type T)
  | .non, T, h => by cases h; exact .non
  | .bl b, T, h => by cases h; exact .bl b
  | .int i, T, h => by cases h; exact .int i
  | .str y, T, h => by cases h; exact .str y
  | .byt _, T, h => by cases h
  | .flt _, T, h => by cases h
  | .ty _, T, h => by cases h
  | .ref a, T, h => by
    cases e : H a with
    | none => simp [tyName, e] at h
    | some o =>
      cases o with
      | lst xs => simp [tyName, e] at h; subst h; exact .lst e
      | tup xs => simp [tyName, e] at h; subst h; exact .tup e
      | dK xs => simp [tyName, e] at h; subst h; exact .dK e
      | dT xs => simp [tyName, e] at h; subst h; exact .dT e
      | frz ob u =>
        cases u with
        | lst xs => simp [tyName, e] at h; subst h; exact .frz e
        | _ => simp [tyName, e] at h
      | _ => simp [tyName, e] at h
def isT (T C : String) : Bool := T == C || (T == "bool" && C == "int")
theorem kit_name (K : PySem.W.Frag) {T C : String} (hT : T ∈ ["NoneType", "bool", "int", "str", "list", "tuple", "dict"]) (hC : C ∈ ["bool", "int", "str", "list", "tuple"]) : PySem.W.kitOne K (.type T) (.type C) = some (isT T C) := by
  simp only [List.mem_cons, List.mem_nil_iff, or_false] at hT hC
  rcases hT with rfl | rfl | rfl | rfl | rfl | rfl | rfl <;> rcases hC with rfl | rfl | rfl | rfl | rfl <;> (with_unfolding_all rfl)
theorem tyName_mem {H : Hp} {x : V} {T : String} (h : tyName H x = some T) : T ∈ ["NoneType", "bool", "int", "str", "list", "tuple", "dict"] := by
  cases x with
  | ref a =>
    cases e : H a with
    | none => simp [tyName, e] at h
    | some o =>
      cases o with
      | frz ob u => cases u <;> simp [tyName, e] at h <;> subst h <;> decide
      | _ => simp [tyName, e] at h <;> subst h <;> decide
  | _ => first | (cases h; decide) | cases h
def rIsT : List V → Hp → VK → Prop := fun xs H Q => ∃ (x : V) (T C : String), xs = [x, .ty C] ∧ tyName H x = some T ∧ C ∈ ["bool", "int", "str", "list", "tuple"] ∧ Q (.bl (isT T C)) H
theorem rIsT_at {H : Hp} {Q : VK} (x : V) (C : String) : rIsT [x, .ty C] H Q = ∃ T, tyName H x = some T ∧ C ∈ ["bool", "int", "str", "list", "tuple"] ∧ Q (.bl (isT T C)) H :=
  propext ⟨fun ⟨_, T, _, e, q⟩ => by cases e; exact ⟨T, q⟩, fun ⟨T, q⟩ => ⟨x, T, C, rfl, q⟩⟩
theorem call_isT : CallR X (.builtin "isinstance") rIsT := by
  intro pins s σ H xs us Q I r h
  obtain ⟨x, T, C, rfl, hT, hC, q⟩ := h
  obtain ⟨u, w', rfl, ru, rw'⟩ := vals2 r
  cases rw'
  exact isinst_ok I ru (tyOf_name hT) (kit_name X.K (tyName_mem hT) hC) fun tk => ⟨.bl (isT T C), H, I.tok tk, rfl, q⟩

/-! ### sep.join(texts) -/
/-! ### a loop over a text's signs -/
end

/-! ### the turns of a comprehension, of a loop, over what is walked -/
/-- a for's turns -/
def forW (J : It) (g : TG) (tb : TS) (D : Ends) (σ : St) (H : Hp) : Prop := ∃ W : Nat → Nat → St → Hp → Prop, (∃ m, W 0 m σ H) ∧ ∀ i m σ H, W i m σ H →
  (J.stop i H ∧ D.nx σ H) ∨ (J.go i H ∧ ∃ N : St → Hp → Prop, (∀ σ' H', N σ' H' → ∃ m', m' < m ∧ W (i + 1) m' σ' H') ∧ ∀ x H', J.yld i H x H' → g x σ H' fun σ2 H2 => tb { D with nx := N, ct := N, bk := D.nx } σ2 H2)
theorem tFor_at (wi : TI) (g : TG) (tb : TS) (D : Ends) (σ : St) (H : Hp) : tFor wi g tb D σ H = wi σ H fun J H1 => forW J g tb D σ H1 := rfl
/-- n turns; what is yielded at the i-th by this heap -/
theorem forW_by {J : It} {g : TG} {tb : TS} {D : Ends} {σ : St} {H : Hp} (n : Nat) (Pv : Nat → St → Hp → Prop) (h0 : Pv 0 σ H) (hgo : ∀ i σ H, i < n → Pv i σ H → J.go i H) (hst : ∀ σ H, Pv n σ H → J.stop n H)
    (hs : ∀ i σ H x H', i < n → Pv i σ H → J.yld i H x H' → g x σ H' fun σ2 H2 => tb { D with nx := Pv (i + 1), ct := Pv (i + 1), bk := D.nx } σ2 H2) (hd : ∀ σ H, Pv n σ H → D.nx σ H) : forW J g tb D σ H := by
  refine ⟨fun i m σ H => m = n - i ∧ i ≤ n ∧ Pv i σ H, ⟨n, by simp, Nat.zero_le _, h0⟩, ?_⟩
  rintro i m σ H ⟨rfl, hi, p⟩
  by_cases hlt : i < n
  · exact .inr ⟨hgo i σ H hlt p, Pv (i + 1), fun σ' H' p' => ⟨n - (i + 1), by omega, rfl, hlt, p'⟩, fun x H' y => hs i σ H x H' hlt p y⟩
  · have e : i = n := by omega
    subst e
    exact .inl ⟨hst σ H p, hd σ H p⟩
theorem forW_list {K : PySem.W.Frag} {a : Addr} {xs : List V} {g : TG} {tb : TS} {D : Ends} {σ : St} {H : Hp} (Pv : Nat → St → Hp → Prop) (h0 : Pv 0 σ H) (hl : ∀ i σ H, i ≤ xs.length → Pv i σ H → SqL K H a xs)
    (hs : ∀ i x σ H, xs[i]? = some x → Pv i σ H → g x σ H fun σ2 H2 => tb { D with nx := Pv (i + 1), ct := Pv (i + 1), bk := D.nx } σ2 H2) (hd : ∀ σ H, Pv xs.length σ H → D.nx σ H) : forW (Itl K a) g tb D σ H :=
  for_list Pv h0 hl hs hd
theorem forW_range {lo : Int} {n : Nat} {g : TG} {tb : TS} {D : Ends} {σ : St} {H : Hp} (Pv : Nat → St → Hp → Prop) (h0 : Pv 0 σ H)
    (hs : ∀ i σ H, i < n → Pv i σ H → g (.int (lo + i)) σ H fun σ2 H2 => tb { D with nx := Pv (i + 1), ct := Pv (i + 1), bk := D.nx } σ2 H2) (hd : ∀ σ H, Pv n σ H → D.nx σ H) : forW (Itr lo n) g tb D σ H :=
  for_range Pv h0 hs hd
/-- behind the i-th item y of n: it goes onto the list at D -/
def CStep (n i : Nat) (Pv : Nat → List V → Hp → Prop) (D : Addr) (ys : List V) (y : V) (H : Hp) : Prop :=
  H D = some (.lst ys) ∧ ys.length < sizeLine ∧ ∃ m', m' < n - i ∧ (m' = n - (i + 1) ∧ i + 1 ≤ n ∧ Pv (i + 1) (ys ++ [y]) (upd H D (.lst (ys ++ [y]))))
theorem cstep {n i : Nat} {Pv : Nat → List V → Hp → Prop} {D : Addr} {ys : List V} {y : V} {H : Hp} (hi : i < n) (hlen : ys.length = i) (hz : n ≤ sizeLine) (h1 : H D = some (.lst ys)) (h2 : Pv (i + 1) (ys ++ [y]) (upd H D (.lst (ys ++ [y])))) : CStep n i Pv D ys y H :=
  ⟨h1, by omega, n - (i + 1), by omega, rfl, hi, h2⟩
def compK (n i : Nat) (Pv : Nat → List V → Hp → Prop) (D : Addr) (ys : List V) (te : TE) (σ : St) (H : Hp) : Prop :=
  if true = true then te σ H (CStep n i Pv D ys) else ∃ m', m' < n - i ∧ (m' = n - (i + 1) ∧ i + 1 ≤ n ∧ Pv (i + 1) ys H)
theorem compK_at {n i : Nat} {Pv : Nat → List V → Hp → Prop} {D : Addr} {ys : List V} {te : TE} {σ : St} {H : Hp} : compK n i Pv D ys te σ H = te σ H (CStep n i Pv D ys) := by
  unfold compK; rw [if_pos rfl]
/-- a comprehension without a test: n turns -/
theorem compW_by {J : It} {g : TG} {te : TE} {nT : Nat} {σ : St} {D : Addr} {Q : VK} {H : Hp} (n : Nat) (Pv : Nat → List V → Hp → Prop) (h0 : Pv 0 [] H) (hgo : ∀ i ys H, i < n → Pv i ys H → J.go i H) (hst : ∀ ys H, Pv n ys H → J.stop n H)
    (hs : ∀ i ys H x H', i < n → Pv i ys H → J.yld i H x H' → g x (σ ++ List.replicate nT none) H' (compK n i Pv D ys te))
    (hd : ∀ ys H, Pv n ys H → Q (.ref D) H) : compW J g tYes te nT σ D Q H := by
  refine ⟨fun i m ys H => m = n - i ∧ i ≤ n ∧ Pv i ys H, ⟨n, by simp, Nat.zero_le _, h0⟩, ?_⟩
  rintro i m ys H ⟨rfl, hi, p⟩
  by_cases hlt : i < n
  · exact .inr ⟨hgo i ys H hlt p, fun x H' y => hs i ys H x H' hlt p y⟩
  · have e : i = n := by omega
    subst e
    exact .inl ⟨hst ys H p, hd ys H p⟩
theorem compW_list {K : PySem.W.Frag} {a : Addr} {xs : List V} {g : TG} {te : TE} {nT : Nat} {σ : St} {D : Addr} {Q : VK} {H : Hp} (Pv : Nat → List V → Hp → Prop) (h0 : Pv 0 [] H) (hl : ∀ i ys H, i ≤ xs.length → Pv i ys H → SqL K H a xs)
    (hs : ∀ i ys H x, xs[i]? = some x → i < xs.length → Pv i ys H → g x (σ ++ List.replicate nT none) H (compK xs.length i Pv D ys te))
    (hd : ∀ ys H, Pv xs.length ys H → Q (.ref D) H) : compW (Itl K a) g tYes te nT σ D Q H := by
  refine compW_by xs.length Pv h0 (fun i ys H hi p => ⟨xs, xs[i], hl i ys H (Nat.le_of_lt hi) p, by simp [hi]⟩) (fun ys H p => ⟨xs, hl _ ys H (Nat.le_refl _) p, Nat.le_refl _⟩) (fun i ys H x H' hi p yl => ?_) hd
  obtain ⟨rfl, y⟩ := yl
  exact hs i ys _ x (y xs (hl i ys _ (Nat.le_of_lt hi) p)) hi p
theorem compW_range {lo : Int} {n : Nat} {g : TG} {te : TE} {nT : Nat} {σ : St} {D : Addr} {Q : VK} {H : Hp} (Pv : Nat → List V → Hp → Prop) (h0 : Pv 0 [] H)
    (hs : ∀ i ys H, i < n → Pv i ys H → g (.int (lo + i)) (σ ++ List.replicate nT none) H (compK n i Pv D ys te))
    (hd : ∀ ys H, Pv n ys H → Q (.ref D) H) : compW (Itr lo n) g tYes te nT σ D Q H := by
  refine compW_by n Pv h0 (fun i ys H hi p => hi) (fun ys H p => Nat.le_refl _) (fun i ys H x H' hi p yl => ?_) hd
  obtain ⟨rfl, rfl⟩ := yl
  exact hs i ys _ hi p
end L2

set_option Elab.async false
set_option linter.all false
set_option maxRecDepth 100000
namespace L2
open PySem PySem.Spec PyProof.Rows

/-! ### readings, applied -/
/-- the rest of a block, not yet read -/
def Rest (u : TS) (D : Ends) (σ : St) (H : Hp) : Prop := u D σ H
section
variable {D : Ends} {σ : St} {H : Hp} {Q : VK} {B : Bool → Hp → Prop} {L : List V → Hp → Prop} {R : It → Hp → Prop} {G : St → Hp → Prop}
theorem tSeq_at (t u : TS) : tSeq t u D σ H = t { D with nx := Rest u D } σ H := rfl
theorem rest_at (u : TS) : Rest u D σ H = u D σ H := rfl
theorem tNext_at : tNext D σ H = D.nx σ H := rfl
theorem tIfS_at (c : TT) (t u : TS) : tIfS c t u D σ H = c σ H fun b H1 => if b = true then t D σ H1 else u D σ H1 := rfl
theorem tRet_at (t : TE) : tRet t D σ H = t σ H D.rt := rfl
theorem tDrop_at (t : TE) : tDrop t D σ H = t σ H fun _ H1 => D.nx σ H1 := rfl
theorem tAsg_at (t : TE) (g : TG) : tAsg t g D σ H = t σ H fun x H1 => g x σ H1 D.nx := rfl
theorem gName_at (i : Nat) (v : V) : gName i v σ H G = G (σ.set i (some v)) H := rfl
theorem gNil_at (vs : List V) : gNil vs σ H G = (vs = [] ∧ G σ H) := rfl
theorem gCons_at (t : TG) (u : TGs) (vs : List V) : gCons t u vs σ H G = ∃ v r, vs = v :: r ∧ t v σ H fun σ' H' => u r σ' H' G := rfl
theorem gTup_at (K : PySem.W.Frag) (n : Nat) (t : TGs) (v : V) : gTup K n t v σ H G = ∃ a xs, v = .ref a ∧ SqT K H a xs ∧ xs.length = n ∧ t xs σ H G := rfl
theorem gSub_at (to ti : TE) (t : TSet) (v : V) : gSub to ti t v σ H G = to σ H fun o H1 => ti σ H1 fun i H2 => t o i v H2 fun H3 => G σ H3 := rfl
theorem tVar_at (i : Nat) : tVar i σ H Q = ∃ v, σ[i]? = some (some v) ∧ Q v H := rfl
theorem tC_at (v : V) : tC v σ H Q = Q v H := rfl
theorem tOp_at (r : R2) (ta tb : TE) : tOp r ta tb σ H Q = ta σ H fun x H1 => tb σ H1 fun y H2 => r x y H2 Q := rfl
theorem tUn_at (r : V → Hp → VK → Prop) (ta : TE) : tUn r ta σ H Q = ta σ H fun x H1 => r x H1 Q := rfl
theorem tTest_at (t : TE) : tTest t σ H B = t σ H fun x H' => ∃ k, x = .bl k ∧ B k H' := rfl
theorem tB_at (t : TE) : tB t σ H B = t σ H fun x H' => ∃ k, x = .bl k ∧ B k H' := rfl
theorem tAnd_at (t u : TT) : tAnd t u σ H B = t σ H fun c H1 => if c = true then u σ H1 B else B false H1 := rfl
theorem tOr_at (t u : TT) : tOr t u σ H B = t σ H fun c H1 => if c = true then B true H1 else u σ H1 B := rfl
theorem tNot_at (t : TT) : tNot t σ H B = t σ H fun c H1 => B (!c) H1 := rfl
theorem tAndV_at (ta tb : TE) : tAndV ta tb σ H Q = ta σ H fun x H1 => ∃ c, x = .bl c ∧ if c = true then tb σ H1 Q else Q (.bl false) H1 := rfl
theorem tNotV_at (ta : TE) : tNotV ta σ H Q = ta σ H fun x H1 => ∃ c, x = .bl c ∧ Q (.bl (!c)) H1 := rfl
theorem tIf_at (t : TT) (ta tb : TE) : tIf t ta tb σ H Q = t σ H fun c H1 => if c = true then ta σ H1 Q else tb σ H1 Q := rfl
theorem tCB_at (r : List V → Hp → VK → Prop) (t : TA) : tCB r t σ H Q = t σ H fun vs H1 => r vs H1 Q := rfl
theorem tCons_at (ta : TE) (tr : TA) : tCons ta tr σ H L = ta σ H fun x H1 => tr σ H1 fun xs H2 => L (x :: xs) H2 := rfl
theorem tNil_at : tNil σ H L = L [] H := rfl
theorem tTup_at (t : TA) : tTup t σ H Q = t σ H fun xs H1 => xs.length ≤ sizeLine ∧ ∀ p, H1 p = none → Q (.ref p) (upd H1 p (.tup xs)) := rfl
theorem tLst_at (t : TA) : tLst t σ H Q = t σ H fun xs H1 => xs.length ≤ sizeLine ∧ ∀ p, H1 p = none → Q (.ref p) (upd H1 p (.lst xs)) := rfl
theorem tCall_at (sp : Sp) (dvs : List V) (E : XK) (t : TA) : tCall sp dvs E t σ H Q = t σ H fun vs H1 => sp (vs ++ dvs) H1 Q E := rfl
theorem tBM_at (K : PySem.W.Frag) (T : String) (r : V → List V → Hp → VK → Prop) (to : TE) (t : TA) : tBM K T r to t σ H Q = to σ H fun x H1 => tyV K T x H1 ∧ t σ H1 fun xs H2 => r x xs H2 Q := rfl
theorem tSl_at (r : V → Option Int → Option Int → Hp → VK → Prop) (te : TE) (tl th : TO) : tSl r te tl th σ H Q = te σ H fun x H1 => tl σ H1 fun l H2 => th σ H2 fun u H3 => r x l u H3 Q := rfl
theorem tPart_at (t : TE) (O : Option Int → Hp → Prop) : tPart t σ H O = t σ H fun x H1 => ∃ i, x = .int i ∧ O (some i) H1 := rfl
theorem tNoPart_at (O : Option Int → Hp → Prop) : tNoPart σ H O = O none H := rfl
theorem tComp_at (wi : TI) (g : TG) (tc : TT) (te : TE) (nT : Nat) : tComp wi g tc te nT σ H Q = wi σ H fun J H1 => ∀ D, H1 D = none → compW J g tc te nT σ D Q (upd H1 D (.lst [])) := rfl
theorem tYes_at : tYes σ H B = B true H := rfl
theorem iList_at (K : PySem.W.Frag) (tl : TE) : iList K tl σ H R = tl σ H fun x H1 => ∃ a, x = .ref a ∧ (∃ xs, SqL K H1 a xs) ∧ R (Itl K a) H1 := rfl
theorem iRng1_at (ta : TA) : iRng1 ta σ H R = ta σ H fun vs H1 => ∃ j : Int, vs = [.int j] ∧ -(2 ^ 62) ≤ j ∧ j < 2 ^ 62 ∧ R (Itr 0 j.toNat) H1 := rfl
theorem rI0_at (g : Int → Int → V) (i j : Int) : rI0 g (.int i) (.int j) H Q = Q (g i j) H := propext ⟨fun ⟨_, _, e1, e2, q⟩ => by cases e1; cases e2; exact q, fun q => ⟨i, j, rfl, rfl, q⟩⟩
theorem rI_at (C : Int → Int → Prop) (g : Int → Int → V) (i j : Int) : rI C g (.int i) (.int j) H Q = (C i j ∧ Q (g i j) H) := propext ⟨fun ⟨_, _, e1, e2, q⟩ => by cases e1; cases e2; exact q, fun q => ⟨i, j, rfl, rfl, q⟩⟩
end

/-! ### a def of the text that may be called; a name that the module binds -/
structure DefAt (K : PySem.W.Frag) (mg : Str → Option Value) (x : Str) (st : Stmt) : Prop where
  ex : ∃ f fd, Fun K x x st f fd ∧ mg x = some (.ref f)
structure Cal (P : Program) (w : World) (K : PySem.W.Frag) (mg : Str → Option Value) (base : Heap) (k : Nat) (x : Str) (ps : List Str) (sp : Sp) : Prop where
  ex : ∃ f fd, FnOk P w K mg base CX0 k f fd ps sp ∧ Binds K fd ps [] ∧ PySem.W.keepIn K (.ref f) = true ∧ mg x = some (.ref f)
section
variable {P : Program} {w : World} {K : PySem.W.Frag} {mg : Str → Option Value} {base : Heap}
theorem DefAt.cal {x : Str} {st : Stmt} {N ps : List Str} {k : Nat} {sp : Sp} (D : DefAt K mg x st) (S : FnScope N ps (defScope st))
    (hb : ∀ (kV doc pm : Value) (an : Option Addr) (cdv ct : Value) (us : List Value), us.length = ps.length → bindArgs (PySem.W.fnOf x x (defArgs st) (defBody st) (defScope st) .none kV doc pm an cdv ct) ⟨us, []⟩ = pure (ps.zip us))
    (len : ∀ vs H Q E, sp vs H Q E → vs.length = ps.length)
    (hbody : ∀ (f : Addr) (cdv : Value) (A : Around) (outer : List Env) (s : Shared) (H : Hp) (vs : List V) (Q : VK) (E : XK), Room k (A.deeper (envOfC x (defScope st) s.heap.objs.size f cdv)) → sp vs H Q E →
      ∃ t, PSs (cxOf CX0 P w K mg base N x (defScope st) f cdv A outer s H E).nox (defBody st) t ∧ t { nx := fun _ H' => Q .non H', rt := Q } (start N vs) H) : Cal P w K mg base (k + 1) x ps sp := by
  obtain ⟨f, fd, F, m⟩ := D.ex
  exact ⟨f, fd, F.ok S len fun cdv A outer s H vs Q E hr h => hbody f cdv A outer s H vs Q E hr h, F.binds hb, F.kp, m⟩
end
section
variable {X : Cx}
theorem pe_cal {j k : Nat} {x : Str} {ps : List Str} {sp : Sp} {p pos : Pos} {e : Expr} {es : List Expr} {t : TA} (c : Cal X.prog X.w X.K X.mg X.base j x ps sp) (hr : Room k X.A) (ha : PA X (e :: es) t) (hle : j ≤ k := by decide) (hg : Gl X x := by rfl)
    (hdb : (x == ("__debug__" : Str)) = false := by decide) (he : starEach (e :: es) X.env = (false, eval e X.env) :: starEach es X.env := by rfl) (hpl : (backTo pos (starEach es X.env)).any (·.1) = false := by rfl) :
    PE X (.Call (.Name x p) (e :: es) [] pos) (tCall sp [] E0 t) := by
  obtain ⟨f, fd, F, b, kp, m⟩ := c.ex
  exact pe_call F (hr.mono hle) hg m kp b .nil pass0 ha hdb he hpl
/-- a built-in type's name as a value -/
theorem pe_gty {x : Str} {T : String} {pos : Pos} (hm : X.mg x = none) (hv : bootBuiltins x = some (.type T)) (hg : Gl X x := by rfl) (hn : x ≠ "__name__" := by decide) (hd : (x == ("__debug__" : Str)) = false := by decide) : PE X (.Name x pos) (tC (.ty T)) :=
  pe_bltn hg hm hv rfl hn hd
/-- a call of a built-in -/
theorem pe_blt {x : Str} {p pos : Pos} {e : Expr} {es : List Expr} {t : TA} {id : String} {r : List V → Hp → VK → Prop} (hc : CallR X (.builtin id) r) (hm : X.mg x = none) (hv : bootBuiltins x = some (.builtin id)) (ha : PA X (e :: es) t) (hg : Gl X x := by rfl)
    (hn : x ≠ "__name__" := by decide) (hdb : (x == ("__debug__" : Str)) = false := by decide) (he : starEach (e :: es) X.env = (false, eval e X.env) :: starEach es X.env := by rfl) (hpl : (backTo pos (starEach es X.env)).any (·.1) = false := by rfl) :
    PE X (.Call (.Name x p) (e :: es) [] pos) (tCB r t) := pe_callB hc hg hm hv ha hn hdb he hpl
theorem pe_bty {x : Str} {p pos : Pos} {e : Expr} {es : List Expr} {t : TA} {T : String} {r : List V → Hp → VK → Prop} (hc : CallR X (.type T) r) (hm : X.mg x = none) (hv : bootBuiltins x = some (.type T)) (ha : PA X (e :: es) t) (hg : Gl X x := by rfl)
    (hn : x ≠ "__name__" := by decide) (hdb : (x == ("__debug__" : Str)) = false := by decide) (he : starEach (e :: es) X.env = (false, eval e X.env) :: starEach es X.env := by rfl) (hpl : (backTo pos (starEach es X.env)).any (·.1) = false := by rfl) :
    PE X (.Call (.Name x p) (e :: es) [] pos) (tCB r t) := pe_callTy hc hg hm hv ha hn hdb he hpl
end

/-! ### operations by the values' kinds -/
section
variable {X : Cx}
def rAddA : R2 := fun x y H Q => match x, y with
  | .int i, .int j => Q (.int (i + j)) H
  | .str a, .str b => a.length + b.length ≤ sizeLine ∧ Q (.str (a ++ b)) H
  | .ref l, .ref b => ∃ xs zs, H l = some (.lst xs) ∧ H b = some (.lst zs) ∧ xs.length + zs.length ≤ sizeLine ∧ ∀ p, H p = none → Q (.ref p) (upd H p (.lst (xs ++ zs)))
  | _, _ => False
theorem op_addA : OpR X (binaryOp .Add) rAddA := by
  intro pins s σ H x y v u Q I rx ry h
  cases x <;> cases y <;> first
    | exact (show False from h).elim
    | exact op_add pins s σ H _ _ v u Q I rx ry ⟨_, _, rfl, rfl, h⟩
    | exact op_add_str pins s σ H _ _ v u Q I rx ry ⟨_, _, rfl, rfl, h⟩
    | (obtain ⟨xs, zs, h1, h2, h3, h4⟩ := h; exact op_cat pins s σ H _ _ v u Q I rx ry ⟨_, _, xs, zs, rfl, rfl, h1, h2, h3, h4⟩)
def rLtA : R2 := fun x y H Q => match x, y with
  | .int i, .int j => Q (.bl (decide (i < j))) H
  | .str i, .str j => Q (.bl (decide (i.cps.toList < j.cps.toList))) H
  | _, _ => False
theorem op_ltA : OpR X (compareOp .Lt) rLtA := by
  intro pins s σ H x y v u Q I rx ry h
  cases x <;> cases y <;> first
    | exact (show False from h).elim
    | exact op_lt pins s σ H _ _ v u Q I rx ry ⟨_, _, rfl, rfl, h⟩
    | exact op_lt_str pins s σ H _ _ v u Q I rx ry ⟨_, _, rfl, rfl, h⟩
def rInA (K : PySem.W.Frag) : R2 := fun x y H Q => match x, y with
  | .str i, .str j => Q (.bl (!(Builtin.Str.occurrences j i 0 j.length 1).isEmpty)) H
  | x, .ref p => ∃ xs, (SqL K H p xs ∨ SqT K H p xs) ∧ flatV x = true ∧ xs.all flatV = true ∧ Q (.bl (inV x xs)) H
  | _, _ => False
theorem op_inA : OpR X (compareOp .In) (rInA X.K) := by
  intro pins s σ H x y v u Q I rx ry h
  cases y with
  | str j =>
    cases x with
    | str i => exact op_in_str pins s σ H _ _ v u Q I rx ry ⟨i, j, rfl, rfl, h⟩
    | _ => exact (show False from h).elim
  | ref p =>
    have h' : ∃ xs, (SqL X.K H p xs ∨ SqT X.K H p xs) ∧ flatV x = true ∧ xs.all flatV = true ∧ Q (.bl (inV x xs)) H := by cases x <;> exact h
    obtain ⟨xs, h1, h2, h3, h4⟩ := h'
    exact op_in_seq pins s σ H _ _ v u Q I rx ry ⟨p, xs, rfl, h1, h2, h3, h4⟩
  | _ => cases x <;> exact (show False from h).elim
def rNotInA (K : PySem.W.Frag) : R2 := fun x y H Q => match x, y with
  | .str i, .str j => Q (.bl (!(!(Builtin.Str.occurrences j i 0 j.length 1).isEmpty))) H
  | x, .ref p => ∃ xs, (SqL K H p xs ∨ SqT K H p xs) ∧ flatV x = true ∧ xs.all flatV = true ∧ Q (.bl (!inV x xs)) H
  | _, _ => False
theorem op_notInA : OpR X (compareOp .NotIn) (rNotInA X.K) := by
  intro pins s σ H x y v u Q I rx ry h
  cases y with
  | str j =>
    cases x with
    | str i => exact op_notin_str pins s σ H _ _ v u Q I rx ry ⟨i, j, rfl, rfl, h⟩
    | _ => exact (show False from h).elim
  | ref p =>
    have h' : ∃ xs, (SqL X.K H p xs ∨ SqT X.K H p xs) ∧ flatV x = true ∧ xs.all flatV = true ∧ Q (.bl (!inV x xs)) H := by cases x <;> exact h
    obtain ⟨xs, h1, h2, h3, h4⟩ := h'
    exact op_notIn_seq pins s σ H _ _ v u Q I rx ry ⟨p, xs, rfl, h1, h2, h3, h4⟩
  | _ => cases x <;> exact (show False from h).elim
def rLenA (K : PySem.W.Frag) : List V → Hp → VK → Prop := fun xs H Q => match xs with
  | [.str z] => z.length ≤ sizeLine ∧ Q (.int z.length) H
  | [.ref p] => ∃ ys, (SqL K H p ys ∨ SqT K H p ys) ∧ Q (.int ys.length) H
  | _ => False
theorem call_lenA : CallR X (.builtin "len") (rLenA X.K) := by
  intro pins s σ H xs us Q I r h
  match xs, h with
  | [.str z], h => exact call_len_str pins s σ H _ us Q I r ⟨z, rfl, h⟩
  | [.ref p], h => obtain ⟨ys, h1, h2⟩ := h; exact call_len_seq pins s σ H _ us Q I r ⟨p, ys, rfl, h1, h2⟩
/-- a[b], a a list, a tuple or a text -/
def rIxA (K : PySem.W.Frag) : R2 := fun x y H Q => match x, y with
  | .ref p, .int i => ∃ xs v, (SqL K H p xs ∨ SqT K H p xs) ∧ atI xs i = some v ∧ Q v H
  | .str z, .int i => ∃ c, z.length ≤ sizeLine ∧ atI z.cps.toList i = some c ∧ Q (.str ⟨#[c]⟩) H
  | _, _ => False
theorem ix_A : IxR X (rIxA X.K) := by
  intro value slice pins s σ H x y v u Q I rx ry h hs
  refine ix_seq value slice pins s σ H x y v u Q I rx ry ?_ hs
  match x, y, h with
  | .ref p, .int i, h =>
    obtain ⟨xs, v', h1, h2, h3⟩ := h
    rcases h1 with h1 | h1
    · exact .inl ⟨p, xs, i, v', rfl, rfl, h1, h2, h3⟩
    · exact .inr (.inl ⟨p, xs, i, v', rfl, rfl, h1, h2, h3⟩)
  | .str z, .int i, h =>
    obtain ⟨c, h1, h2, h3⟩ := h
    exact .inr (.inr ⟨z, i, c, rfl, rfl, h1, h2, h3⟩)
end
section
variable {K : PySem.W.Frag} {H : Hp} {Q : VK}
theorem rAddA_int (i j : Int) : rAddA (.int i) (.int j) H Q = Q (.int (i + j)) H := rfl
theorem rAddA_str (a b : Str) : rAddA (.str a) (.str b) H Q = (a.length + b.length ≤ sizeLine ∧ Q (.str (a ++ b)) H) := rfl
theorem rAddA_ref (l b : Addr) : rAddA (.ref l) (.ref b) H Q = ∃ xs zs, H l = some (.lst xs) ∧ H b = some (.lst zs) ∧ xs.length + zs.length ≤ sizeLine ∧ ∀ p, H p = none → Q (.ref p) (upd H p (.lst (xs ++ zs))) := rfl
theorem rLtA_int (i j : Int) : rLtA (.int i) (.int j) H Q = Q (.bl (decide (i < j))) H := rfl
theorem rLtA_str (i j : Str) : rLtA (.str i) (.str j) H Q = Q (.bl (decide (i.cps.toList < j.cps.toList))) H := rfl
theorem rInA_str (i j : Str) : rInA K (.str i) (.str j) H Q = Q (.bl (!(Builtin.Str.occurrences j i 0 j.length 1).isEmpty)) H := rfl
theorem rInA_ref (x : V) (p : Addr) : rInA K x (.ref p) H Q = ∃ xs, (SqL K H p xs ∨ SqT K H p xs) ∧ flatV x = true ∧ xs.all flatV = true ∧ Q (.bl (inV x xs)) H := by cases x <;> rfl
theorem rNotInA_str (i j : Str) : rNotInA K (.str i) (.str j) H Q = Q (.bl (!(!(Builtin.Str.occurrences j i 0 j.length 1).isEmpty))) H := rfl
theorem rNotInA_ref (x : V) (p : Addr) : rNotInA K x (.ref p) H Q = ∃ xs, (SqL K H p xs ∨ SqT K H p xs) ∧ flatV x = true ∧ xs.all flatV = true ∧ Q (.bl (!inV x xs)) H := by cases x <;> rfl
theorem rLenA_str (z : Str) : rLenA K [.str z] H Q = (z.length ≤ sizeLine ∧ Q (.int z.length) H) := rfl
theorem rLenA_ref (p : Addr) : rLenA K [.ref p] H Q = ∃ ys, (SqL K H p ys ∨ SqT K H p ys) ∧ Q (.int ys.length) H := rfl
theorem rIxA_ref (p : Addr) (i : Int) : rIxA K (.ref p) (.int i) H Q = ∃ xs v, (SqL K H p xs ∨ SqT K H p xs) ∧ atI xs i = some v ∧ Q v H := rfl
theorem rIxA_str (z : Str) (i : Int) : rIxA K (.str z) (.int i) H Q = ∃ c, z.length ≤ sizeLine ∧ atI z.cps.toList i = some c ∧ Q (.str ⟨#[c]⟩) H := rfl
theorem rSetL_at (p : Addr) (k : Int) (v : V) (G : Hp → Prop) : rSetL (.ref p) (.int k) v H G = ∃ xs j, H p = some (.lst xs) ∧ ixN xs.length k = some j ∧ G (upd H p (.lst (xs.set j v))) :=
  propext ⟨fun ⟨_, xs, _, j, e1, e2, q⟩ => by cases e1; cases e2; exact ⟨xs, j, q⟩, fun ⟨xs, j, q⟩ => ⟨p, xs, k, j, rfl, rfl, q⟩⟩
theorem rAppend_at (p : Addr) (y : V) : rAppend (.ref p) [y] H Q = ∃ xs, H p = some (.lst xs) ∧ xs.length < sizeLine ∧ Q .non (upd H p (.lst (xs ++ [y]))) :=
  propext ⟨fun ⟨_, xs, _, e1, e2, q⟩ => by cases e1; cases e2; exact ⟨xs, q⟩, fun ⟨xs, q⟩ => ⟨p, xs, y, rfl, rfl, q⟩⟩
theorem tyV_str (y : Str) : tyV K "str" (.str y) H = True := eq_true rfl
theorem tyV_lst (p : Addr) : (tyV K "list" (.ref p) H) = ∃ xs, SqL K H p xs := by
  refine propext ⟨fun h => ?_, fun h => .inl ⟨rfl, h⟩⟩
  rcases h with ⟨_, h⟩ | ⟨h, _⟩ | ⟨h, _⟩ | ⟨h, _⟩
  · exact h
  · exact absurd h (by decide)
  · exact absurd h (by decide)
  · exact absurd h (by decide)
end
theorem bt_len : bootBuiltins "len" = some (.builtin "len") := by decide +kernel
theorem bt_isinstance : bootBuiltins "isinstance" = some (.builtin "isinstance") := by decide +kernel
theorem bt_sorted : bootBuiltins "sorted" = some (.builtin "sorted") := by decide +kernel
theorem bt_int : bootBuiltins "int" = some (.type "int") := by decide +kernel
theorem bt_bool : bootBuiltins "bool" = some (.type "bool") := by decide +kernel
theorem bt_list : bootBuiltins "list" = some (.type "list") := by decide +kernel
/-- name = value -/
theorem ps_let {X : Cx} (i : Nat) {x : Str} {e : Expr} {te : TE} {pos pos' : Pos} (hN : X.N.Nodup) (he : PE X e te) (hi : X.N[i]? = some x := by rfl) (hx : Loc X.env.scope x := by first | exact Or.inl rfl | exact Or.inr rfl) (hs : swapsWith e (some (.Name x pos')) pos.line X.env = pure false := by rfl)
    (hf : X.fn x = true ∨ X.env.scope.names.lookup x = some .local := by first | exact .inl rfl | exact .inr rfl | assumption) : PS X (.Assign [.Name x pos'] e pos) (tAsg te (gName i)) := ps_set hN hi hx he hs hf
theorem pg_let {X : Cx} (i : Nat) {x : Str} {pos : Pos} (hN : X.N.Nodup) (hi : X.N[i]? = some x := by rfl) (hx : Loc X.env.scope x := by first | exact Or.inl rfl | exact Or.inr rfl)
    (hf : X.fn x = true ∨ X.env.scope.names.lookup x = some .local := by first | exact .inl rfl | exact .inr rfl | assumption) : PG X (.Name x pos) (gName i) := pg_name hN hi hx hf
/-- what the scope of a block must be, by closed parts -/
structure CompSc (fsc : Scope) (N N0 T : List Str) (scope : Scope) : Prop where
  kind : scope.kind = .function
  nocell : ∀ y ∈ scope.names, y.2 ≠ .cell
  names : ∀ y ∈ scope.names, y.2 = .local → scope.names.lookup y.1 = some .local
  free : ∀ y ∈ scope.names, y.2 = .free → fsc.names.lookup y.1 = some .cell ∨ fsc.names.lookup y.1 = some .free
  apart : ∀ y ∈ scope.names, y.2 = .local → y.1 ∉ N0
  len0 : N0.length = N.length
  same : ((N0.zip N).all fun p => p.1 == p.2 || !(scope.names.any fun y => y.1 == p.1)) = true
theorem CompSc.to {X : Cx} {fsc : Scope} {N N0 T : List Str} {scope : Scope} (S : CompSc fsc N N0 T scope) (h1 : X.env.scope = fsc) (h2 : X.N = N) : CompScope X N0 T scope := by
  subst h1 h2
  refine ⟨S.kind, S.nocell, S.names, S.free, S.apart, S.len0, fun i x k e m => ?_⟩
  have hl := S.len0
  have hi : i < N0.length := (List.getElem?_eq_some_iff.mp e).1
  have hN : X.N[i]? = some X.N[i] := List.getElem?_eq_getElem (by omega)
  have hz : (x, X.N[i]) ∈ N0.zip X.N := List.mem_of_getElem? (i := i) (by rw [List.getElem?_zip_eq_some]; exact ⟨e, hN⟩)
  have q := List.all_eq_true.mp S.same _ hz
  simp only [Bool.or_eq_true, beq_iff_eq, Bool.not_eq_true'] at q
  rcases q with q | q
  · rw [hN, ← q]
  · have : (scope.names.any fun y => y.1 == x) = true := List.any_eq_true.mpr ⟨_, m, by simp⟩
    rw [this] at q; cases q
/-! ### == of scalars (deep: elsewhere) -/
def rEqA : R2 := rEq
def rNeA : R2 := rNe
theorem op_eqA {X : Cx} : OpR X (compareOp .Eq) rEqA := op_eq
theorem op_neA {X : Cx} : OpR X (compareOp .NotEq) rNeA := op_ne
section
variable {K : PySem.W.Frag} {H : Hp} {Q : VK}
theorem rEqA_int (i j : Int) : rEqA (.int i) (.int j) H Q = Q (.bl (decide (i = j))) H := by
  have e : decide (V.int i = V.int j) = decide (i = j) := by by_cases h : i = j <;> simp [h]
  show (scal (.int i) (.int j) = true ∧ Q (.bl (decide (V.int i = V.int j))) H) = _
  rw [e]; exact propext ⟨fun h => h.2, fun h => ⟨rfl, h⟩⟩
theorem rEqA_bl (i j : Bool) : rEqA (.bl i) (.bl j) H Q = Q (.bl (i == j)) H := by
  show (scal (.bl i) (.bl j) = true ∧ Q (.bl (decide (V.bl i = V.bl j))) H) = _
  rw [dec_bl]; exact propext ⟨fun h => h.2, fun h => ⟨rfl, h⟩⟩
theorem rEqA_str (i j : Str) : rEqA (.str i) (.str j) H Q = Q (.bl (decide (i = j))) H := by
  have e : decide (V.str i = V.str j) = decide (i = j) := by by_cases h : i = j <;> simp [h]
  show (scal (.str i) (.str j) = true ∧ Q (.bl (decide (V.str i = V.str j))) H) = _
  rw [e]; exact propext ⟨fun h => h.2, fun h => ⟨rfl, h⟩⟩
theorem rNeA_int (i j : Int) : rNeA (.int i) (.int j) H Q = Q (.bl (!decide (i = j))) H := by
  have e : decide (V.int i = V.int j) = decide (i = j) := by by_cases h : i = j <;> simp [h]
  show (scal (.int i) (.int j) = true ∧ Q (.bl (!decide (V.int i = V.int j))) H) = _
  rw [e]; exact propext ⟨fun h => h.2, fun h => ⟨rfl, h⟩⟩
theorem rNeA_str (i j : Str) : rNeA (.str i) (.str j) H Q = Q (.bl (!decide (i = j))) H := by
  have e : decide (V.str i = V.str j) = decide (i = j) := by by_cases h : i = j <;> simp [h]
  show (scal (.str i) (.str j) = true ∧ Q (.bl (!decide (V.str i = V.str j))) H) = _
  rw [e]; exact propext ⟨fun h => h.2, fun h => ⟨rfl, h⟩⟩
end
theorem set_A {X : Cx} : PSet X rSetL := set_list
/-! ### the same rules with the text's part K named (inside a comprehension the context is a letter) -/
section
variable {X : Cx} (K : PySem.W.Frag)
theorem op_inK (hK : X.K = K := by rfl) : OpR X (compareOp .In) (rInA K) := hK ▸ op_inA
theorem op_notInK (hK : X.K = K := by rfl) : OpR X (compareOp .NotIn) (rNotInA K) := hK ▸ op_notInA
theorem call_lenK (hK : X.K = K := by rfl) : CallR X (.builtin "len") (rLenA K) := hK ▸ call_lenA
theorem ix_K (hK : X.K = K := by rfl) : IxR X (rIxA K) := hK ▸ ix_A
theorem sl_listK (hK : X.K = K := by rfl) : SlR X (rSlL K) := hK ▸ sl_list
theorem pi_listK {tg l : Expr} {tl : TE} (hl : PE X l tl) (hK : X.K = K := by rfl) : PI X tg l (iList K tl) := hK ▸ pi_list hl
theorem pg_tupK {es : List Expr} {k n : Nat} {t : TGs} {pos : Pos} (h : PGs X es t) (hn : (assignEach es X.env).length = n := by rfl) (hst : (assignEach es X.env).findIdx? (·.1) = none := by rfl) (hK : X.K = K := by rfl) (hc : X.calm = true := by rfl) : PG X (.Tuple es k pos) (gTup K n t) := hK ▸ pg_tup hc h hn hst
theorem pe_bmK {o e : Expr} {es : List Expr} {to : TE} {t : TA} {name : Str} {apos cpos : Pos} {T id : String} {r : V → List V → Hp → VK → Prop} (pa : PlainAttrs T) (slot : Slot T name id) (hty : typeOf (.builtin id) = pure (.type "method_descriptor")) (hm : MtR X id r) (ho : PE X o to) (ha : PA X (e :: es) t)
    (hbase : attributeBase o name X.env (eval o X.env) = eval o X.env := by rfl)
    (hfew : ((backTo cpos (starEach (e :: es) X.env)).all (fun x => !x.1) && (backToKw cpos (keywordEach [] X.env)).all (fun x => x.1.isSome) && decide ((e :: es).length + ([] : List Keyword).length + (if ([] : List Keyword).isEmpty then 0 else 1) < 30)) = true := by rfl)
    (hline : (apos.endLine == cpos.line) = true := by rfl) (hs : starEach (e :: es) X.env = (false, eval e X.env) :: starEach es X.env := by rfl) (hplain : (backTo cpos (starEach es X.env)).any (·.1) = false := by rfl) (hK : X.K = K := by rfl) :
    PE X (.Call (.Attribute o name apos) (e :: es) [] cpos) (tBM K T r to t) := hK ▸ pe_bm pa slot hty hm ho ha hbase hfew hline hs hplain
theorem call_listK (hK : X.K = K := by rfl) : CallR X (.type "list") (fun xs H Q => ∃ p ys, xs = [.ref p] ∧ (SqL K H p ys ∨ SqT K H p ys) ∧ ∀ l, H l = none → Q (.ref l) (upd H l (.lst ys))) := hK ▸ call_list_of
end
theorem ex_one (n : Int) (P : Int → Prop) : (∃ j, [V.int n] = [V.int j] ∧ P j) = P n := propext ⟨fun ⟨_, e, h⟩ => by cases e; exact h, fun h => ⟨n, rfl, h⟩⟩
theorem ex_two (n m : Int) (P : Int → Int → Prop) : (∃ i j, [V.int n, V.int m] = [V.int i, V.int j] ∧ P i j) = P n m := propext ⟨fun ⟨_, _, e, h⟩ => by cases e; exact h, fun h => ⟨n, m, rfl, h⟩⟩
theorem ex_cons (x : V) (xs : List V) (P : V → List V → Prop) : (∃ v r, x :: xs = v :: r ∧ P v r) = P x xs := propext ⟨fun ⟨_, _, e, h⟩ => by cases e; exact h, fun h => ⟨x, xs, rfl, h⟩⟩
theorem ex_nil (P : Prop) : (([] : List V) = [] ∧ P) = P := propext ⟨fun h => h.2, fun h => ⟨rfl, h⟩⟩
/-! ### names of a block, by closed parts -/
def relabelS (scope fsc : Scope) : Scope := { scope with names := scope.names.map fun (n, k) => if (k == .free && fsc.kind == .function && fsc.names.lookup n == some .cell) then (n, .cell) else (n, k) }
section
variable {X : Cx} {N0 T : List Str} {scope : Scope} {C : Addr} {fp : List Addr} {s : Shared} {H : Hp} {x : Str}
theorem glC (fsc : Scope) (h : (relabelS scope fsc).names.lookup x = some .globalImplicit) (e : X.env.scope = fsc := by rfl) : Gl (cxComp X N0 T scope C fp s H) x := by subst e; exact h
theorem visC (fsc : Scope) (h : ((relabelS scope fsc).names.lookup x = some .local || (relabelS scope fsc).names.lookup x = some .cell || (relabelS scope fsc).names.lookup x = some .free) = true) (e : X.env.scope = fsc := by rfl) : Vis (cxComp X N0 T scope C fp s H).env.scope x := by
  subst e
  simp only [Bool.or_eq_true, decide_eq_true_eq] at h
  rcases h with (h | h) | h
  · exact .inl h
  · exact .inr (.inl h)
  · exact .inr (.inr h)
theorem locC (fsc : Scope) (h : (relabelS scope fsc).names.lookup x = some .local) (e : X.env.scope = fsc := by rfl) : Loc (cxComp X N0 T scope C fp s H).env.scope x := by subst e; exact .inl h
theorem fnC (fsc : Scope) (h : (relabelS scope fsc).names.lookup x = some .local) (e : X.env.scope = fsc := by rfl) : (cxComp X N0 T scope C fp s H).fn x = true ∨ (cxComp X N0 T scope C fp s H).env.scope.names.lookup x = some .local := by subst e; exact .inr h
end
theorem mt_appendA {X : Cx} : MtR X "list.append" rAppend := mt_append
theorem PW.pt' {X : Cx} {e : Expr} {t : TT} (h : PW X e t) : PT X e t := h.pt
/-- a block by what holds between two of its statements -/
theorem seq_by {t u : TS} {D : Ends} {σ : St} {H : Hp} (I : St → Hp → Prop) (h : ∀ k : St → Hp → Prop, (∀ σ' H', I σ' H' → k σ' H') → t { D with nx := k } σ H) (hu : ∀ σ' H', I σ' H' → Rest u D σ' H') : Rest (tSeq t u) D σ H := h _ hu
theorem tPairs_nil {σ : St} {H : Hp} {Q : List (V × V) → Hp → Prop} : tPairs [] σ H Q = Q [] H := rfl
theorem tPairs_cons {σ : St} {H : Hp} {Q : List (V × V) → Hp → Prop} (tk tv : TE) (r : List (TE × TE)) : tPairs ((tk, tv) :: r) σ H Q = tk σ H fun x H1 => tv σ H1 fun y H2 => tPairs r σ H2 fun ps H3 => Q ((x, y) :: ps) H3 := rfl
theorem Same.upd {H H' : Hp} {p : Addr} (sm : Same H H') (h : H p = none) (o : HO) : Same H (upd H' p o) := fun b u q => by rw [upd_ne (ne_of_none q h)]; exact sm b u q
theorem same_new {H : Hp} {p : Addr} (h : H p = none) (o : HO) : Same H (upd H p o) := fun b u q => by rw [upd_ne (ne_of_none q h)]; exact q
end L2

set_option Elab.async false
set_option linter.all false
set_option maxRecDepth 100000
namespace L2
open PySem PySem.Spec PyProof.Rows PySem.SeqAt

/-! ### == of lists and tuples, as deep as n -/
def EqN (K : PySem.W.Frag) (H : Hp) : Nat → V → V → Bool → Prop
  | 0, x, y, b => flatV x = true ∧ flatV y = true ∧ b = eqV x y
  | n + 1, x, y, b => (flatV x = true ∧ flatV y = true ∧ b = eqV x y) ∨ ∃ a c xs ys, x = .ref a ∧ y = .ref c ∧ ((SqL K H a xs ∧ SqL K H c ys) ∨ (SqT K H a xs ∧ SqT K H c ys)) ∧
      ((∃ e : Nat → Bool, xs.length = ys.length ∧ (∀ (i : Nat) x y, xs[i]? = some x → ys[i]? = some y → EqN K H n x y (e i)) ∧ b = (List.range xs.length).all e) ∨
        (SqL K H a xs ∧ SqL K H c ys ∧ xs.length ≠ ys.length ∧ b = false))
theorem eqV_self : ∀ {x : V}, flatV x = true → eqV x x = true
  | .non, _ => rfl
  | .bl b, _ => by simp [eqV]
  | .int i, _ => by simp [eqV]
  | .str y, _ => by simp [eqV]
section
variable {X : Cx} {pins : List (Addr × Obj)} {σ : St} {H : Hp} {s : Shared}
theorem EqN.self (I : Inv X pins σ H s) : ∀ {n : Nat} {x : V} {b : Bool}, EqN X.K H n x x b → b = true
  | 0, x, b, h => by obtain ⟨h1, _, rfl⟩ := h; exact eqV_self h1
  | n + 1, x, b, h => by
    rcases h with ⟨h1, _, rfl⟩ | ⟨a, c, xs, ys, rfl, e, hq, h⟩
    · exact eqV_self h1
    · cases e
      have exy : xs = ys := by
        rcases hq with ⟨q1, q2⟩ | ⟨q1, q2⟩
        · exact I.list_inj q1 q2
        · exact I.tuple_inj q1 q2
      subst exy
      rcases h with ⟨e, _, he, rfl⟩ | ⟨_, _, z, _⟩
      · rw [List.all_eq_true]
        intro i hi
        have hi' := List.mem_range.mp hi
        have q := he i xs[i] xs[i] (List.getElem?_eq_getElem hi') (List.getElem?_eq_getElem hi')
        exact EqN.self I q
      · exact absurd rfl z
theorem EqN.rc (I : Inv X pins σ H s) {n : Nat} (ih : ∀ {A : Around} {x y : V} {b : Bool} {u v : Value}, A.units + n < cLine → EqN X.K H n x y b → RelV x u → RelV y v → EqAt A s u v b)
    {A : Around} {a c : Addr} {xs ys : List V} {b : Bool} (hu : A.units + (n + 1) < cLine) (hq : (SqL X.K H a xs ∧ SqL X.K H c ys) ∨ (SqT X.K H a xs ∧ SqT X.K H c ys))
    (h : (∃ e : Nat → Bool, xs.length = ys.length ∧ (∀ (i : Nat) x y, xs[i]? = some x → ys[i]? = some y → EqN X.K H n x y (e i)) ∧ b = (List.range xs.length).all e) ∨ (SqL X.K H a xs ∧ SqL X.K H c ys ∧ xs.length ≠ ys.length ∧ b = false)) :
    RcAt A s (.ref a) (.ref c) b ∧ RcNeAt A s (.ref a) (.ref c) (!b) := by
  have hin : A.in1.units + n < cLine := by
    have : A.in1.units = A.units + 1 := rfl
    omega
  rcases h with ⟨e, hl, he, rfl⟩ | ⟨q1, q2, hl, rfl⟩
  · rcases hq with ⟨q1, q2⟩ | ⟨q1, q2⟩
    · obtain ⟨i1, r1, p1, z1⟩ := I.list q1
      obtain ⟨i2, r2, p2, z2⟩ := I.list q2
      have l1 := r1.length
      have l2 := r2.length
      have hit : ∀ j (h1 : j < i1.toArray.size) (h2 : j < i2.toArray.size), EqAt A.in1 s i1.toArray[j] i2.toArray[j] (e j) := fun j h1 h2 => by
        obtain ⟨x, hx, rx⟩ := r1.of (i := j) (u := i1.toArray[j]) (by simp at h1 ⊢)
        obtain ⟨y, hy, ry⟩ := r2.of (i := j) (u := i2.toArray[j]) (by simp at h2 ⊢)
        exact ih hin (he j x y hx hy) rx ry
      have ez : xs.length = i1.toArray.size := by simp; omega
      rw [ez]
      exact ⟨RcAt.lists p1.isList p2.isList (by simp; omega) (by omega) hit, RcNeAt.lists p1.isList p2.isList (by simp; omega) (by omega) hit⟩
    · obtain ⟨i1, r1, p1, z1⟩ := I.tuple q1
      obtain ⟨i2, r2, p2, z2⟩ := I.tuple q2
      have l1 := r1.length
      have l2 := r2.length
      have hit : ∀ j (h1 : j < i1.toArray.size) (h2 : j < i2.toArray.size), EqAt A.in1 s i1.toArray[j] i2.toArray[j] (e j) := fun j h1 h2 => by
        obtain ⟨x, hx, rx⟩ := r1.of (i := j) (u := i1.toArray[j]) (by simp at h1 ⊢)
        obtain ⟨y, hy, ry⟩ := r2.of (i := j) (u := i2.toArray[j]) (by simp at h2 ⊢)
        exact ih hin (he j x y hx hy) rx ry
      have ez : (List.range xs.length).all e = ((List.range (min i1.toArray.size i2.toArray.size)).all e && i1.toArray.size == i2.toArray.size) := by
        have e1 : i1.toArray.size = xs.length := by simp; omega
        have e2 : i2.toArray.size = xs.length := by simp; omega
        rw [e1, e2, Nat.min_self]; simp
      rw [ez]
      exact ⟨RcAt.tuples (show s.heap.IsTuple a i1.toArray from p1) (show s.heap.IsTuple c i2.toArray from p2) (by omega) hit, RcNeAt.tuples (show s.heap.IsTuple a i1.toArray from p1) (show s.heap.IsTuple c i2.toArray from p2) (by omega) hit⟩
  · obtain ⟨i1, r1, p1, z1⟩ := I.list q1
    obtain ⟨i2, r2, p2, z2⟩ := I.list q2
    have l1 := r1.length
    have l2 := r2.length
    have hne : (i1.toArray.size != i2.toArray.size) = true := by
      rw [bne_iff_ne]; simp; omega
    exact ⟨RcAt.lists_lengths p1.isList p2.isList hne (by omega), RcNeAt.lists_lengths p1.isList p2.isList hne (by omega)⟩
theorem EqN.at (I : Inv X pins σ H s) : ∀ {n : Nat} {A : Around} {x y : V} {b : Bool} {u v : Value}, A.units + n < cLine → EqN X.K H n x y b → RelV x u → RelV y v → EqAt A s u v b
  | 0, A, x, y, b, u, v, _, h, rx, ry => by obtain ⟨h1, h2, rfl⟩ := h; exact eqAt_V rx ry h1 h2
  | n + 1, A, x, y, b, u, v, hu, h, rx, ry => by
    have h0 := h
    rcases h with ⟨h1, h2, rfl⟩ | ⟨a, c, xs, ys, rfl, rfl, hq, h⟩
    · exact eqAt_V rx ry h1 h2
    · cases rx
      cases ry
      by_cases hac : a = c
      · subst hac
        rw [EqN.self I h0]
        exact EqAt.same _
      · exact EqAt.of_refs hac (EqN.rc I (fun hu' q rx ry => EqN.at I hu' q rx ry) hu hq h).1
end
section
variable {X : Cx}
def rEqD (K : PySem.W.Frag) : R2 := fun x y H Q => ∃ (a c : Addr) (n : Nat) (b : Bool), x = .ref a ∧ y = .ref c ∧ n ≤ 100 ∧ EqN K H (n + 1) x y b ∧ Q (.bl b) H
def rNeD (K : PySem.W.Frag) : R2 := fun x y H Q => ∃ (a c : Addr) (n : Nat) (b : Bool), x = .ref a ∧ y = .ref c ∧ n ≤ 100 ∧ EqN K H (n + 1) x y b ∧ Q (.bl (!b)) H
theorem op_eqD (hu : X.A.units + 101 < cLine) : OpR X (compareOp .Eq) (rEqD X.K) := by
  intro pins s σ H x y v u Q I rx ry h
  obtain ⟨a, c, n, b, rfl, rfl, hn, he, q⟩ := h
  cases rx
  cases ry
  rcases he with ⟨h1, _⟩ | ⟨a', c', xs, ys, e1, e2, hq, h⟩
  · cases h1
  · cases e1
    cases e2
    exact (EqN.rc I (fun hu' q rx ry => EqN.at I hu' q rx ry) (by omega) hq h).1 _ _ _ _ ⟨.bl b, H, I, rfl, q⟩
theorem op_neD (hu : X.A.units + 101 < cLine) : OpR X (compareOp .NotEq) (rNeD X.K) := by
  intro pins s σ H x y v u Q I rx ry h
  obtain ⟨a, c, n, b, rfl, rfl, hn, he, q⟩ := h
  cases rx
  cases ry
  rcases he with ⟨h1, _⟩ | ⟨a', c', xs, ys, e1, e2, hq, h⟩
  · cases h1
  · cases e1
    cases e2
    exact (EqN.rc I (fun hu' q rx ry => EqN.at I hu' q rx ry) (by omega) hq h).2 _ _ _ _ ⟨.bl (!b), H, I, rfl, q⟩
theorem op_eqKD (K : PySem.W.Frag) {k : Nat} (hr : Room k X.A) (hK : X.K = K := by rfl) : OpR X (compareOp .Eq) (rEqD K) := by subst hK; exact op_eqD (by have := hr.un; omega)
theorem op_neKD (K : PySem.W.Frag) {k : Nat} (hr : Room k X.A) (hK : X.K = K := by rfl) : OpR X (compareOp .NotEq) (rNeD K) := by subst hK; exact op_neD (by have := hr.un; omega)
end
section
variable {K : PySem.W.Frag} {H : Hp} {Q : VK}
theorem rEqD_at (a c : Addr) : rEqD K (.ref a) (.ref c) H Q = ∃ (n : Nat) (b : Bool), n ≤ 100 ∧ EqN K H (n + 1) (.ref a) (.ref c) b ∧ Q (.bl b) H :=
  propext ⟨fun ⟨_, _, n, b, e1, e2, q⟩ => ⟨n, b, q⟩, fun ⟨n, b, q⟩ => ⟨a, c, n, b, rfl, rfl, q⟩⟩
theorem rNeD_at (a c : Addr) : rNeD K (.ref a) (.ref c) H Q = ∃ (n : Nat) (b : Bool), n ≤ 100 ∧ EqN K H (n + 1) (.ref a) (.ref c) b ∧ Q (.bl (!b)) H :=
  propext ⟨fun ⟨_, _, n, b, e1, e2, q⟩ => ⟨n, b, q⟩, fun ⟨n, b, q⟩ => ⟨a, c, n, b, rfl, rfl, q⟩⟩
theorem EqN.flat {n : Nat} {x y : V} (hx : flatV x = true) (hy : flatV y = true) : EqN K H n x y (eqV x y) := by
  cases n with
  | zero => exact ⟨hx, hy, rfl⟩
  | succ n => exact .inl ⟨hx, hy, rfl⟩
theorem EqN.refl {n : Nat} {x : V} (hx : flatV x = true) : EqN K H n x x true := by
  have q : EqN K H n x x (eqV x x) := EqN.flat hx hx
  rwa [eqV_self hx] at q
/-- two lists (tuples) whose items are equal -/
theorem EqN.seq {n : Nat} {a c : Addr} {xs ys : List V} (hq : (SqL K H a xs ∧ SqL K H c ys) ∨ (SqT K H a xs ∧ SqT K H c ys)) (hl : xs.length = ys.length) (he : ∀ (i : Nat) x y, xs[i]? = some x → ys[i]? = some y → EqN K H n x y true) : EqN K H (n + 1) (.ref a) (.ref c) true :=
  .inr ⟨a, c, xs, ys, rfl, rfl, hq, .inl ⟨fun _ => true, hl, he, by simp⟩⟩
theorem EqN.seqFlat {n : Nat} {a c : Addr} {xs : List V} (hq : (SqL K H a xs ∧ SqL K H c xs) ∨ (SqT K H a xs ∧ SqT K H c xs)) (hf : ∀ x ∈ xs, flatV x = true) : EqN K H (n + 1) (.ref a) (.ref c) true :=
  EqN.seq hq rfl fun i x y e1 e2 => by
    rw [e1] at e2; cases e2
    exact EqN.refl (hf x (List.mem_of_getElem? e1))
theorem EqN.strs {n : Nat} {a c : Addr} {ss ts : List Str} (h1 : SqL K H a (ss.map V.str)) (h2 : SqL K H c (ts.map V.str)) : EqN K H (n + 1) (.ref a) (.ref c) (decide (ss = ts)) := by
  refine .inr ⟨a, c, _, _, rfl, rfl, .inl ⟨h1, h2⟩, ?_⟩
  by_cases hl : ss.length = ts.length
  · refine .inl ⟨fun i => ss.getD i default == ts.getD i default, by simp [hl], fun i x y e1 e2 => ?_, ?_⟩
    · rw [List.getElem?_map] at e1 e2
      cases q1 : ss[i]? with
      | none => rw [q1] at e1; cases e1
      | some u =>
        cases q2 : ts[i]? with
        | none => rw [q2] at e2; cases e2
        | some v =>
          rw [q1] at e1; rw [q2] at e2
          cases e1; cases e2
          dsimp only
          rw [List.getD_eq_getElem?_getD, List.getD_eq_getElem?_getD, q1, q2]
          exact EqN.flat rfl rfl
    · rw [List.length_map]
      by_cases e : ss = ts
      · subst e
        rw [decide_eq_true rfl]
        symm
        rw [List.all_eq_true]
        intro i _
        simp
      · rw [decide_eq_false e]
        symm
        rw [List.all_eq_false]
        have : ∃ i : Nat, ss[i]? ≠ ts[i]? := by
          refine Classical.byContradiction fun hn => e (List.ext_getElem? fun i => ?_)
          exact Classical.byContradiction fun h => hn ⟨i, h⟩
        obtain ⟨i, hi⟩ := this
        have hlt : i < ss.length := by
          refine Classical.byContradiction fun hn => hi ?_
          rw [List.getElem?_eq_none (by omega), List.getElem?_eq_none (by omega)]
        refine ⟨i, List.mem_range.mpr hlt, ?_⟩
        rw [List.getD_eq_getElem?_getD, List.getD_eq_getElem?_getD, List.getElem?_eq_getElem hlt, List.getElem?_eq_getElem (by omega)]
        rw [List.getElem?_eq_getElem hlt, List.getElem?_eq_getElem (by omega)] at hi
        simpa using hi
  · have e : ss ≠ ts := fun e => hl (by rw [e])
    rw [decide_eq_false e]
    exact .inr ⟨h1, h2, by simpa using hl, rfl⟩
end

theorem idx_ne {y : Str} : ∀ {l : List Str} {j : Nat}, j < l.idxOf y → ∀ (h : j < l.length), l[j] ≠ y
  | n :: r, 0, h, _ => by
    intro e
    have e' : n = y := e
    subst e'
    simp at h
  | n :: r, j + 1, h, h2 => by
    by_cases e : n = y
    · subst e; simp at h
    · rw [List.idxOf_cons] at h
      have hb : (n == y) = false := beq_eq_false_iff_ne.mpr e
      rw [hb] at h
      have h' : j + 1 < r.idxOf y + 1 := h
      have q := idx_ne (y := y) (l := r) (j := j) (by omega) (by simpa using h2)
      simpa using q
/-! ### sorted texts -/
section
variable {X : Cx}
def rSortS (K : PySem.W.Frag) : List V → Hp → VK → Prop := fun xs H Q => ∃ (p : Addr) (ss : List Str), xs = [.ref p] ∧ SqL K H p (ss.map V.str) ∧ ss.length < 64 ∧ ∀ (l : Addr) (ts : List Str), H l = none → ts.Perm ss → sortedS ts = true → Q (.ref l) (upd H l (.lst (ts.map V.str)))
theorem rSortS_at {K : PySem.W.Frag} {H : Hp} {Q : VK} (p : Addr) : rSortS K [.ref p] H Q = ∃ ss : List Str, SqL K H p (ss.map V.str) ∧ ss.length < 64 ∧ ∀ (l : Addr) (ts : List Str), H l = none → ts.Perm ss → sortedS ts = true → Q (.ref l) (upd H l (.lst (ts.map V.str))) :=
  propext ⟨fun ⟨_, ss, e, q⟩ => by cases e; exact ⟨ss, q⟩, fun ⟨ss, q⟩ => ⟨p, ss, rfl, q⟩⟩
theorem call_sortS (K : PySem.W.Frag) (hK : X.K = K := by rfl) : CallR X (.builtin "sorted") (rSortS K) := by
  subst hK
  intro pins s σ H xs us Q I r h
  obtain ⟨p, ss, rfl, hq, h64, q⟩ := h
  obtain ⟨u, rfl, ru⟩ := vals1 r
  cases ru
  obtain ⟨its, rv, pl, hz⟩ := I.list hq
  have hlen : its.length = ss.length := by rw [← rv.length, List.length_map]
  refine sorted_strs pl.isList (vals_strs rv) (by omega) fun out ts h1 h2 h3 => ?_
  obtain ⟨e, he⟩ := sortedAll_at s.heap its out
  have hl : ts.length = ss.length := h2.length_eq
  have hs : sizeLine = 16777216 := sizeLine_eq
  exact ⟨.ref (s.heap.objs.size + 1), _, I.laid (t' := s.toks) (fun b o e => sortedAll_old e) (Nat.le_succ _) (show ObjOk X.prog X.w _ _ _ (.lst (ts.map V.str)) from ⟨by rw [List.length_map]; omega, out.toList, e, strs_vals h1, by simpa using he⟩), rfl,
    q _ ts (I.hok.fresh (Nat.le_succ _)) h2 h3⟩

/-! ### words.index(text) -/
def rIndexS (K : PySem.W.Frag) : V → List V → Hp → VK → Prop := fun x vs H Q => ∃ (p : Addr) (ss : List Str) (y : Str), x = .ref p ∧ vs = [.str y] ∧ SqL K H p (ss.map V.str) ∧ y ∈ ss ∧ Q (.int (ss.idxOf y : Nat)) H
theorem rIndexS_at {K : PySem.W.Frag} {H : Hp} {Q : VK} (p : Addr) (y : Str) : rIndexS K (.ref p) [.str y] H Q = ∃ ss : List Str, SqL K H p (ss.map V.str) ∧ y ∈ ss ∧ Q (.int (ss.idxOf y : Nat)) H :=
  propext ⟨fun ⟨_, ss, _, e1, e2, q⟩ => by cases e1; cases e2; exact ⟨ss, q⟩, fun ⟨ss, q⟩ => ⟨p, ss, y, rfl, rfl, q⟩⟩
theorem mt_indexS (K : PySem.W.Frag) (hK : X.K = K := by rfl) : MtR X "list.index" (rIndexS K) := by
  subst hK
  intro pins s σ H x xs v us Q I rx r h
  obtain ⟨p, ss, y, rfl, rfl, hq, hy, q⟩ := h
  cases rx
  obtain ⟨u, rfl, ru⟩ := vals1 r
  obtain ⟨t, rfl⟩ := ru
  obtain ⟨its, rv, pl, hz⟩ := I.list hq
  have hlen : its.length = ss.length := by rw [← rv.length, List.length_map]
  rw [List.length_map] at hz
  have hs : sizeLine = 16777216 := sizeLine_eq
  obtain ⟨⟨cls, dd, data, sl⟩, ho, hc, n, hd⟩ := pl.isList
  simp only at hc hd
  subst hc hd
  have hj : ss.idxOf y < ss.length := List.idxOf_lt_length_iff.mpr hy
  have rel : ∀ (i : Nat) (h : i < its.length), ∃ t', its[i] = .str ss[i] t' := fun i h => by
    obtain ⟨x, hx, rx⟩ := rv.of (i := i) (u := its[i]) (List.getElem?_eq_getElem h)
    rw [List.getElem?_map, List.getElem?_eq_getElem (by omega)] at hx
    have hx' : V.str ss[i] = x := Option.some.inj hx
    subst hx'
    exact rx
  refine call_meets PySem.F.slot_list_index ⟨_, ho, rfl⟩ PySem.F.entry_list_index (PySem.F.args_list_index_2 _ _)
    (list_indexAt p its.toArray n dd sl (.str y t) (eqU (.str y)) (ss.idxOf y) (by simpa [hlen] using hj) (by omega) ?_ ?_) ⟨ho, fun z hz => ?_, ⟨.int _, H, I.tok _, ⟨_, rfl⟩, q⟩⟩
  · show eqU (.str y) its[ss.idxOf y] = true
    obtain ⟨t', e⟩ := rel (ss.idxOf y) (by omega)
    rw [e]
    show (ss[ss.idxOf y] == y) = true
    rw [List.getElem_idxOf hj]; simp
  · intro j hjs hlt
    have hj' : j < its.length := by simpa using hjs
    show eqU (.str y) its[j] = false
    obtain ⟨t', e⟩ := rel j hj'
    rw [e]
    show (ss[j] == y) = false
    exact beq_eq_false_iff_ne.mpr (idx_ne hlt _)
  · have hz' : z ∈ its := by simpa using hz
    obtain ⟨i, hi, rfl⟩ := List.mem_iff_getElem.mp hz'
    obtain ⟨t', e⟩ := rel i hi
    have q' := eqAt_V (A := X.A.in1) (s := s) (y := .str ss[i]) (x := .str y) (u := its[i]) (v := .str y t) ⟨t', e⟩ ⟨t, rfl⟩ rfl rfl
    rw [e]; rw [e] at q'
    exact q'
end

/-! ### more readings by name -/
section
variable {X : Cx}
def rIsN : R2 := fun x y H Q => y = .non ∧ Q (.bl (decide (x = .non))) H
def rNotN : R2 := fun x y H Q => y = .non ∧ Q (.bl (!decide (x = .non))) H
theorem op_isNA : OpR X (compareOp .Is) rIsN := op_isN
theorem op_notNA : OpR X (compareOp .IsNot) rNotN := op_notN
def rInt1 : List V → Hp → VK → Prop := fun xs H Q => (∃ i, xs = [.int i] ∧ Q (.int i) H) ∨ ∃ k, xs = [.bl k] ∧ Q (.int (if k then 1 else 0)) H
theorem call_intA : CallR X (.type "int") rInt1 := call_int1
def rListOf (K : PySem.W.Frag) : List V → Hp → VK → Prop := fun xs H Q => ∃ p ys, xs = [.ref p] ∧ (SqL K H p ys ∨ SqT K H p ys) ∧ ∀ l, H l = none → Q (.ref l) (upd H l (.lst ys))
theorem call_listA (K : PySem.W.Frag) (hK : X.K = K := by rfl) : CallR X (.type "list") (rListOf K) := call_listK K hK
/-- an int times an int, a text times an int -/
def rMulB : R2 := fun x y H Q => match x, y with
  | .int i, .int j => CMul i j ∧ Q (.int (i * j)) H
  | .str z, .int n => 0 ≤ n ∧ n ≤ 4096 ∧ z.length ≤ 4096 ∧ Q (.str (Txt.mul z n)) H
  | _, _ => False
theorem op_mulB : OpR X (binaryOp .Mult) rMulB := by
  intro pins s σ H x y v u Q I rx ry h
  match x, y, h with
  | .int i, .int j, h => exact op_mul pins s σ H _ _ v u Q I rx ry ⟨_, _, rfl, rfl, h⟩
  | .str z, .int n, h =>
    obtain ⟨t, rfl⟩ := rx
    obtain ⟨t', rfl⟩ := ry
    obtain ⟨h0, h1, h2, q⟩ := h
    exact SB.mul (mulOk_of 4096 4096 h2 (by omega) (by omega) (by decide) (by decide)) fun t' k => ⟨.str (Txt.mul z n), H, I.tok k, ⟨t', rfl⟩, q⟩
end
section
variable {K : PySem.W.Frag} {H : Hp} {Q : VK}
theorem rIsN_at (x : V) : rIsN x .non H Q = Q (.bl (decide (x = .non))) H := propext ⟨fun h => h.2, fun h => ⟨rfl, h⟩⟩
theorem rNotN_at (x : V) : rNotN x .non H Q = Q (.bl (!decide (x = .non))) H := propext ⟨fun h => h.2, fun h => ⟨rfl, h⟩⟩
theorem rInt1_int (i : Int) : rInt1 [.int i] H Q = Q (.int i) H := propext ⟨fun h => by rcases h with ⟨_, e, q⟩ | ⟨_, e, q⟩ <;> cases e; exact q, fun q => .inl ⟨i, rfl, q⟩⟩
theorem rInt1_bl (k : Bool) : rInt1 [.bl k] H Q = Q (.int (if k then 1 else 0)) H := propext ⟨fun h => by rcases h with ⟨_, e, q⟩ | ⟨_, e, q⟩ <;> cases e; exact q, fun q => .inr ⟨k, rfl, q⟩⟩
theorem rListOf_at (p : Addr) : rListOf K [.ref p] H Q = ∃ ys, (SqL K H p ys ∨ SqT K H p ys) ∧ ∀ l, H l = none → Q (.ref l) (upd H l (.lst ys)) := propext ⟨fun ⟨_, ys, e, q⟩ => by cases e; exact ⟨ys, q⟩, fun ⟨ys, q⟩ => ⟨p, ys, rfl, q⟩⟩
theorem rMulB_int (i j : Int) : rMulB (.int i) (.int j) H Q = (CMul i j ∧ Q (.int (i * j)) H) := rfl
theorem rMulB_str (z : Str) (n : Int) : rMulB (.str z) (.int n) H Q = (0 ≤ n ∧ n ≤ 4096 ∧ z.length ≤ 4096 ∧ Q (.str (Txt.mul z n)) H) := rfl
theorem rSlL_at (a : Addr) (lo hi : Option Int) : rSlL K (.ref a) lo hi H Q = ∃ xs, SqL K H a xs ∧ ∀ p, H p = none → Q (.ref p) (upd H p (.lst (cutV xs lo hi))) := propext ⟨fun ⟨_, xs, e, q⟩ => by cases e; exact ⟨xs, q⟩, fun ⟨xs, q⟩ => ⟨a, xs, rfl, q⟩⟩
theorem rU_at (g : Int → V) (i : Int) : rU g (.int i) H Q = Q (g i) H := propext ⟨fun ⟨_, e, q⟩ => by cases e; exact q, fun q => ⟨i, rfl, q⟩⟩
end
/-! ### small facts of use everywhere -/
theorem small' {n : Nat} (h : n ≤ 1000000) : n < sizeLine := by
  have : sizeLine = 16777216 := sizeLine_eq
  omega
theorem smallL {n : Nat} (h : n ≤ 1000000) : n ≤ sizeLine := Nat.le_of_lt (small' h)
/-- an item of a list of ints -/
theorem at_map {α : Type} {f : α → V} {xs : List α} {i : Int} {x : α} (h0 : 0 ≤ i) (h : xs[i.toNat]? = some x) : atI (xs.map f) i = some (f x) := by
  have q : (xs.map f)[i.toNat]? = some (f x) := by rw [List.getElem?_map, h]; rfl
  have q' := atI_nat q
  rwa [show ((i.toNat : Nat) : Int) = i by omega] at q'
theorem at_lst {α : Type} {xs : List α} {i : Int} (h0 : 0 ≤ i) (h : i < xs.length) : ∃ x, xs[i.toNat]? = some x ∧ atI xs i = some x := by
  have hk : i.toNat < xs.length := by omega
  refine ⟨xs[i.toNat], List.getElem?_eq_getElem hk, ?_⟩
  have q := atI_nat (List.getElem?_eq_getElem hk)
  rwa [show ((i.toNat : Nat) : Int) = i by omega] at q
theorem al_same {H H' : Hp} {p : Addr} {o : HO} (h : upd H p o = H') (hp : H p = none) : Same H H' := h ▸ same_new hp o
theorem al_at {H H' : Hp} {p : Addr} {o : HO} (h : upd H p o = H') : H' p = some o := h ▸ upd_same
theorem map_push {α β : Type} {f : α → β} (xs : List α) (x : α) : xs.map f ++ [f x] = (xs ++ [x]).map f := by rw [List.map_append]; rfl
theorem all_push {α : Type} {P : α → Prop} {xs : List α} {x : α} (h : ∀ y ∈ xs, P y) (hx : P x) : ∀ y ∈ xs ++ [x], P y := fun y hy => (List.mem_append.mp hy).elim (h y) fun z => by rw [List.mem_singleton.mp z]; exact hx
theorem len_push {α : Type} {xs : List α} {x : α} {n : Nat} (h : xs.length = n) : (xs ++ [x]).length = n + 1 := by simp [h]
end L2

set_option Elab.async false
set_option linter.all false
set_option maxRecDepth 100000
namespace L2
open PySem PySem.Spec PyProof.Rows

/-! ### several untracked records of ours have turned -/
theorem Inv.turnedL {X : Cx} {pins : List (Addr × Obj)} {σ : St} {H : Hp} {s : Shared} {h' : Heap} {t' : Nat} {ch : List Addr} (I : Inv X pins σ H s) (k : ∀ b o, b ∉ ch → s.heap.get? b = some o → h'.get? b = some o)
    (hf : ∀ b ∈ ch, FpOk X pins H b) : Inv X pins σ H { s with heap := h', toks := t' } := by
  have nit : ∀ b u, H b = some u → b ∉ ch := fun b u e z => by rw [(hf b z).1] at e; cases e
  refine I.step (g' := s.gens) (d' := s.drawn) (ch := ch) (fun b hb => ?_) (fun b o _ _ hc e _ => k b o hc e) (fun b o _ _ hc e _ => ⟨o.slots, k b o hc e⟩) (fun _ _ _ _ n => n)
    (fun b o hc e => ⟨o, k b o hc e⟩) (fun _ _ e => e) (fun _ _ _ e => e) (fun b ps e => ⟨#[], by rw [e]; simp⟩) (fun m hm => ?_) (fun b u e => ?_) I.bare
  · obtain ⟨_, f1, _, f3, f4, f5⟩ := hf b hb
    exact ⟨f3, f1, f4, f5⟩
  · obtain ⟨o, es, ep, ho, r⟩ := hm
    exact ⟨o, es, ep, k _ o (fun z => (hf _ z).2.1 rfl) ho, r⟩
  · refine (I.hok b u e).stay (fun c v hc q => k c v ?_ q) (fun _ q => q) fun _ _ q => q
    rcases hc with z | z
    · rw [z]; exact nit b u e
    · exact nit c _ z

/-- the same, and a new object is laid and tracked -/
theorem Inv.turnedLaid {X : Cx} {pins : List (Addr × Obj)} {σ : St} {H : Hp} {s : Shared} {h' : Heap} {t' : Nat} {ch : List Addr} {a : Addr} {o : HO} (I : Inv X pins σ H s) (k : ∀ b o, b ∉ ch → s.heap.get? b = some o → h'.get? b = some o)
    (hf : ∀ b ∈ ch, FpOk X pins H b) (hp : s.heap.objs.size ≤ a) (new : ObjOk X.prog X.w (upd H a o) h' a o) : Inv X pins σ (upd H a o) { s with heap := h', toks := t' } := by
  have hn : H a = none := I.hok.fresh hp
  have nit : ∀ b u, H b = some u → b ∉ ch := fun b u e z => by rw [(hf b z).1] at e; cases e
  refine I.step (g' := s.gens) (d' := s.drawn) (ch := ch) (fun b hb => ?_) (fun b o _ _ hc e _ => k b o hc e) (fun b o _ _ hc e _ => ⟨o.slots, k b o hc e⟩) (fun b u _ q n => ?_)
    (fun b o hc e => ⟨o, k b o hc e⟩) (fun b xs q => ?_) (fun b u xs q => ?_) (fun b ps q => ⟨#[], ?_⟩) (fun m hm => ?_) (fun b u e => ?_) I.bare
  · obtain ⟨_, f1, _, f3, f4, f5⟩ := hf b hb
    exact ⟨f3, f1, f4, f5⟩
  · rw [upd_ne (Nat.ne_of_lt (Nat.lt_of_lt_of_le (Heap.lt_size q) hp))]; exact n
  · rw [upd_ne (ne_of_none q hn)]; exact q
  · rw [upd_ne (ne_of_none q hn)]; exact q
  · rw [upd_ne (ne_of_none q hn), q]; simp
  · obtain ⟨o, es, ep, ho, r⟩ := hm
    exact ⟨o, es, ep, k _ o (fun z => (hf _ z).2.1 rfl) ho, r⟩
  · by_cases hb : b = a
    · subst hb; rw [upd_same] at e; cases e; exact new
    · rw [upd_ne hb] at e
      refine (I.hok b u e).stay (fun c v hc q => k c v ?_ q) (fun c q => by rw [upd_ne (ne_of_none q hn)]; exact q) fun c xs q => by rw [upd_ne (ne_of_none q hn)]; exact q
      rcases hc with z | z
      · rw [z]; exact nit b u e
      · exact nit c _ z

/-! ### zip of two lists -/
structure ZApart (z TI TO i1 i2 : Addr) : Prop where
  TIz : TI ≠ z
  TOz : TO ≠ z
  i1z : i1 ≠ z
  i2z : i2 ≠ z
  TITO : TI ≠ TO
  TIi1 : TI ≠ i1
  TIi2 : TI ≠ i2
  TOi1 : TO ≠ i1
  TOi2 : TO ≠ i2
  i12 : i1 ≠ i2
theorem ex_refs2 (n m : Addr) (P : Addr → Addr → Prop) : (∃ i j, [V.ref n, V.ref m] = [V.ref i, V.ref j] ∧ P i j) = P n m := propext ⟨fun ⟨_, _, e, h⟩ => by cases e; exact h, fun h => ⟨n, m, rfl, h⟩⟩
/-! ### f-strings of plain fields -/
section
variable {X : Cx}
end
section
variable {σ : St} {H : Hp} {Q : VK}
end
end L2

set_option Elab.async false
set_option linter.all false
set_option maxRecDepth 100000
namespace L2
open PySem PySem.Spec PyProof.Rows

/-! ### enumerate of a list -/
def Ite (K : PySem.W.Frag) (a : Addr) : It :=
  ⟨fun i H => ∃ xs x, SqL K H a xs ∧ xs[i]? = some x,
   fun i H v H' => ∃ t x, H t = none ∧ v = .ref t ∧ H' = upd H t (.tup [.int i, x]) ∧ ∀ xs, SqL K H a xs → xs[i]? = some x,
   fun i H => ∃ xs, SqL K H a xs ∧ xs.length ≤ i⟩
def ESt (e it l : Addr) (i : Nat) (h : Heap) : Prop := (∃ old, IsEnum h e it i old) ∧ h.IsListIter it l i
theorem turn_enum {P : Program} {w : World} {K : PySem.W.Frag} {elts : List Expr} {k : Nat} {pos : Pos} {e it l : Addr} (hei : e ≠ it) : Turn P w K (.Tuple elts k pos) (Ite K l) [e, it] e (ESt e it l) where
  mem := by simp
  obj := fun i h st b hb => by
    obtain ⟨⟨old, s1⟩, ⟨o4, s4, c4, d4⟩⟩ := st
    simp only [List.mem_cons, List.mem_nil_iff, or_false] at hb
    rcases hb with rfl | rfl
    · exact ⟨_, s1, fun v e => by cases e⟩
    · exact ⟨_, s4, fun v e => by rw [d4] at e; cases e⟩
  keep := fun i h h' st kk => by
    obtain ⟨⟨old, s1⟩, s4⟩ := st
    exact ⟨⟨old, kk e (by simp) _ s1⟩, s4.at fun o z => kk it (by simp) o z⟩
  item := by
    intro X hP hw hK hc i pins s σ H E I hf st hg
    subst hP hw hK
    obtain ⟨xs, x, q1, hx⟩ := hg
    obtain ⟨is1, rv1, p1, _⟩ := I.list q1
    obtain ⟨u1, hu1, ru1⟩ := rv1.get hx
    obtain ⟨⟨old, s1⟩, s4⟩ := st
    refine wpAny_pyNext_enum_item s1 s4 p1.isList (x := u1) (by simpa using hu1) hei fun h' a1 a3 a5 a6 kk => ?_
    refine ⟨_, rfl, wpAny_letOwnedTupleGo_enum a1 fun h'' hz' hs' => ?_⟩
    have lt : ∀ {c o}, s.heap.get? c = some o → s.heap.objs.size ≠ c := fun z => Nat.ne_of_gt (Heap.lt_size z)
    have zne : s.heap.objs.size ≠ e := lt s1
    have keep2 : ∀ b o, b ∉ [e, it] → s.heap.get? b = some o → h''.get? b = some o := fun b o hb z => by
      simp only [List.mem_cons, List.mem_nil_iff, or_false, not_or] at hb
      exact hs'.extBut _ _ hb.1 (kk b o hb.1 hb.2 z)
    have hsz : H s.heap.objs.size = none := I.hok.fresh (Nat.le_refl _)
    have tupN := hs'.extBut _ _ zne a5
    have nlt : ∀ c ∈ [e, it], c ≠ s.heap.objs.size := fun c hc' => by
      obtain ⟨o4, e4, _⟩ := id s4
      simp only [List.mem_cons, List.mem_nil_iff, or_false] at hc'
      rcases hc' with rfl | rfl
      · exact (lt s1).symm
      · exact (lt e4).symm
    refine ⟨.ref s.heap.objs.size, upd H s.heap.objs.size (.tup [.int i, x]), I.turnedLaid (t' := s.toks + 1) keep2 hf (Nat.le_refl _) ⟨smallL (by show 2 ≤ 1000000; decide), [.int i s.toks, u1], .cons ⟨_, rfl⟩ (.cons ru1 .nil), ⟨_, tupN, rfl, 0, rfl⟩⟩, rfl, ⟨_, x, hsz, rfl, rfl, fun xs' q' => ?_⟩,
      ⟨⟨_, by simpa using hz'⟩, a3.extBut hs'.extBut hei.symm⟩, fun c hc' => ?_⟩
    · rw [I.list_inj q' q1]; exact hx
    · rw [upd_ne (nlt c hc')]; exact (hf c hc').1
  done := by
    intro X hP hw hK hc i pins s σ H E I hf st hg
    subst hP hw hK
    obtain ⟨xs, q1, hlen⟩ := hg
    obtain ⟨is1, rv1, p1, _⟩ := I.list q1
    have l1 := rv1.length
    obtain ⟨⟨old, s1⟩, s4⟩ := st
    refine wpAny_pyNext_enum_end (I.ok.hd hc) s1 s4 p1.isList (by simp; omega) fun h' kk => ⟨rfl, I.turnedL (t' := s.toks) (fun b o hb z => ?_) hf⟩
    simp only [List.mem_cons, List.mem_nil_iff, or_false, not_or] at hb
    exact kk b o hb.2 z
  self := fun A i s Q E st h => by
    obtain ⟨⟨old, s1⟩, _⟩ := st
    exact wpAny_pyIter_enum s1 h
theorem boot_enumerate : bootBuiltins "enumerate" = some (.type "enumerate") := by decide +kernel
def iEnum (K : PySem.W.Frag) (ta : TA) : TI := fun σ H R => ta σ H fun vs H1 => ∃ a : Addr, vs = [.ref a] ∧ (∃ xs, H1 a = some (.lst xs)) ∧ R (Ite K a) H1
theorem iEnum_at (K : PySem.W.Frag) (ta : TA) {σ : St} {H : Hp} {R : It → Hp → Prop} : iEnum K ta σ H R = ta σ H fun vs H1 => ∃ a : Addr, vs = [.ref a] ∧ (∃ xs, H1 a = some (.lst xs)) ∧ R (Ite K a) H1 := rfl
theorem ex_ref1 (n : Addr) (P : Addr → Prop) : (∃ i, [V.ref n] = [V.ref i] ∧ P i) = P n := propext ⟨fun ⟨_, e, h⟩ => by cases e; exact h, fun h => ⟨n, rfl, h⟩⟩
theorem pi_enumK (K : PySem.W.Frag) {X : Cx} {elts : List Expr} {k : Nat} {tpos : Pos} {a : Expr} {ta : TA} {p pos : Pos} (hg : Gl X "enumerate") (hm : X.mg "enumerate" = none) (ha : PA X [a] ta) (hs : starEach [a] X.env = [(false, eval a X.env)] := by rfl) (hK : X.K = K := by rfl) :
    PI X (.Tuple elts k tpos) (.Call (.Name "enumerate" p) [a] [] pos) (iEnum K ta) := by
  subst hK
  intro pins s σ H R I h
  refine Call_ (ld_blt I hg hm boot_enumerate (PyProof.Rows.callWith_type1 (thn (ha pos pins s σ H _ I h) fun us s1 ⟨vs, H1, I1, r1, q1⟩ => ?_) hs rfl))
  obtain ⟨l, e, ⟨xs, h1⟩, q⟩ := q1
  subst e
  obtain ⟨u1, rfl, r1'⟩ := vals1 r1
  obtain rfl : u1 = Value.ref l := r1'
  obtain ⟨hz, its, n, rv, hl⟩ : xs.length ≤ sizeLine ∧ ∃ (its : List Value) (n : Nat), Vals xs its ∧ s1.heap.get? l = some { cls := .type "list", data := .seq its.toArray n } := I1.hok l _ h1
  refine call_enumerate_1 hl fun h' a1 a4 a6 kk => ?_
  refine wpAny_pyIter_enum a1 ⟨_, [s1.heap.objs.size + 1, s1.heap.objs.size], _, _, H1, rfl, I1.kept (t' := s1.toks) kk,
    turn_enum (e := s1.heap.objs.size + 1) (it := s1.heap.objs.size) (Nat.ne_of_gt (Nat.lt_succ_self _)), ⟨⟨_, a1⟩, a4⟩, fun b hb => ?_, q⟩
  have hb' : s1.heap.objs.size ≤ b := by
    simp only [List.mem_cons, List.mem_nil_iff, or_false] at hb
    rcases hb with rfl | rfl <;> first | exact Nat.le_refl _ | exact Nat.le_add_right _ _
  exact I1.fpOk hb' (I1.hok.fresh hb')
section
variable {K : PySem.W.Frag} {a b : Addr} {xs ys : List V} {g : TG} {te : TE} {nT : Nat} {σ : St} {D : Addr} {Q : VK} {H : Hp}
theorem forW_enum {tb : TS} {D : Ends} (Pv : Nat → St → Hp → Prop) (h0 : Pv 0 σ H) (hl : ∀ i σ H, i ≤ xs.length → Pv i σ H → SqL K H a xs)
    (hs : ∀ i x t σ H, xs[i]? = some x → Pv i σ H → H t = none → g (.ref t) σ (upd H t (.tup [.int i, x])) fun σ2 H2 => tb { D with nx := Pv (i + 1), ct := Pv (i + 1), bk := D.nx } σ2 H2) (hd : ∀ σ H, Pv xs.length σ H → D.nx σ H) : forW (Ite K a) g tb D σ H := by
  refine forW_by xs.length Pv h0 (fun i σ H hi p => ⟨xs, xs[i], hl i σ H (Nat.le_of_lt hi) p, by simp [hi]⟩) (fun σ H p => ⟨xs, hl _ σ H (Nat.le_refl _) p, Nat.le_refl _⟩) (fun i σ H v H' hi p yl => ?_) hd
  obtain ⟨t, x, ht, rfl, rfl, y1⟩ := yl
  exact hs i x t σ H (y1 xs (hl i σ H (Nat.le_of_lt hi) p)) p ht
/-- a comprehension with a test: n turns; behind the i-th item: it goes onto the list where the test holds -/
def CSkip (n i : Nat) (Pv : Nat → List V → Hp → Prop) (ys : List V) (H : Hp) : Prop := ∃ m', m' < n - i ∧ (m' = n - (i + 1) ∧ i + 1 ≤ n ∧ Pv (i + 1) ys H)
theorem cskip {n i : Nat} {Pv : Nat → List V → Hp → Prop} {ys : List V} {H : Hp} (hi : i < n) (h : Pv (i + 1) ys H) : CSkip n i Pv ys H := ⟨n - (i + 1), by omega, rfl, hi, h⟩
theorem cstepT {n i : Nat} {Pv : Nat → List V → Hp → Prop} {D : Addr} {ys : List V} {y : V} {H : Hp} (hi : i < n) (hlen : ys.length ≤ i) (hz : n ≤ sizeLine) (h1 : H D = some (.lst ys)) (h2 : Pv (i + 1) (ys ++ [y]) (upd H D (.lst (ys ++ [y])))) : CStep n i Pv D ys y H :=
  ⟨h1, by omega, n - (i + 1), by omega, rfl, hi, h2⟩
def compT (n i : Nat) (Pv : Nat → List V → Hp → Prop) (D : Addr) (ys : List V) (tc : TT) (te : TE) (σ : St) (H : Hp) : Prop :=
  tc σ H fun b H4 => if b = true then te σ H4 (CStep n i Pv D ys) else CSkip n i Pv ys H4
theorem compT_at {n i : Nat} {Pv : Nat → List V → Hp → Prop} {D : Addr} {ys : List V} {tc : TT} {te : TE} {σ : St} {H : Hp} : compT n i Pv D ys tc te σ H = tc σ H fun b H4 => if b = true then te σ H4 (CStep n i Pv D ys) else CSkip n i Pv ys H4 := rfl
theorem compT_by {J : It} {tc : TT} (n : Nat) (Pv : Nat → List V → Hp → Prop) (h0 : Pv 0 [] H) (hgo : ∀ i ys H, i < n → Pv i ys H → J.go i H) (hst : ∀ ys H, Pv n ys H → J.stop n H)
    (hs : ∀ i ys H x H', i < n → Pv i ys H → J.yld i H x H' → g x (σ ++ List.replicate nT none) H' (compT n i Pv D ys tc te))
    (hd : ∀ ys H, Pv n ys H → Q (.ref D) H) : compW J g tc te nT σ D Q H := by
  refine ⟨fun i m ys H => m = n - i ∧ i ≤ n ∧ Pv i ys H, ⟨n, by simp, Nat.zero_le _, h0⟩, ?_⟩
  rintro i m ys H ⟨rfl, hi, p⟩
  by_cases hlt : i < n
  · exact .inr ⟨hgo i ys H hlt p, fun x H' y => hs i ys H x H' hlt p y⟩
  · have e : i = n := by omega
    subst e
    exact .inl ⟨hst ys H p, hd ys H p⟩
theorem compT_list {tc : TT} (Pv : Nat → List V → Hp → Prop) (h0 : Pv 0 [] H) (hl : ∀ i ys H, i ≤ xs.length → Pv i ys H → SqL K H a xs)
    (hs : ∀ i ys H x, xs[i]? = some x → i < xs.length → Pv i ys H → g x (σ ++ List.replicate nT none) H (compT xs.length i Pv D ys tc te))
    (hd : ∀ ys H, Pv xs.length ys H → Q (.ref D) H) : compW (Itl K a) g tc te nT σ D Q H := by
  refine compT_by xs.length Pv h0 (fun i ys H hi p => ⟨xs, xs[i], hl i ys H (Nat.le_of_lt hi) p, by simp [hi]⟩) (fun ys H p => ⟨xs, hl _ ys H (Nat.le_refl _) p, Nat.le_refl _⟩) (fun i ys H x H' hi p yl => ?_) hd
  obtain ⟨rfl, y⟩ := yl
  exact hs i ys _ x (y xs (hl i ys _ (Nat.le_of_lt hi) p)) hi p
theorem compT_range {tc : TT} {lo : Int} {n : Nat} (Pv : Nat → List V → Hp → Prop) (h0 : Pv 0 [] H)
    (hs : ∀ i ys H, i < n → Pv i ys H → g (.int (lo + i)) (σ ++ List.replicate nT none) H (compT n i Pv D ys tc te))
    (hd : ∀ ys H, Pv n ys H → Q (.ref D) H) : compW (Itr lo n) g tc te nT σ D Q H := by
  refine compT_by n Pv h0 (fun i ys H hi p => hi) (fun ys H p => Nat.le_refl _) (fun i ys H x H' hi p yl => ?_) hd
  obtain ⟨rfl, rfl⟩ := yl
  exact hs i ys _ hi p
end
end L2

set_option Elab.async false
set_option linter.all false
set_option maxRecDepth 100000
namespace L2
open PySem PySem.Spec PyProof.Rows

/-! ### a text's slice -/
end L2

set_option Elab.async false
set_option linter.all false
set_option maxRecDepth 100000
namespace L2
open PySem PySem.Spec PyProof.Rows

/-! ### what may stand in a tuple that is a dict's key, tuples too -/
structure IK (prog : Program) (w : World) (κ : Type) [DecidableEq κ] where
  is : Heap → κ → Value → Prop
  hash : κ → Int
  draws : κ → Nat
  deep : Nat
  inj : ∀ {h : Heap} {v : Value} {x y : κ}, is h x v → is h y v → x = y
  keeps : ∀ {h h' : Heap} {k : κ} {v : Value} {d : Addr} {o : Obj} {es ep}, is h k v → h.get? d = some o → o.data = .dict es ep → Heap.SameBut d h h' → is h' k v
  pyHash : ∀ {A : Around} {E : Value → Shared → Prop} {s : Shared} {k : κ} {v : Value} {Q : Int → Shared → Prop}, A.units + deep < cLine → is s.heap k v → Q (hash k) { s with toks := s.toks + draws k } →
    wpAny (model prog w) A (PySem.pyHash v) Q E s
  eqBool : ∀ {A : Around} {E : Value → Shared → Prop} {s : Shared} {x y : κ} {u v : Value} {Q : Bool → Shared → Prop}, A.units + deep < cLine → is s.heap x u → is s.heap y v → Q (decide (x = y)) s →
    wpAny (model prog w) A (PySem.eqBool u v) Q E s
  quiet : ∀ {A : Around} {E : Value → Shared → Prop} {s : Shared} {k : κ} {v : Value} {n : Nat} {Q : Bool → Shared → Prop}, is s.heap k v → Q true s → wpAny (model prog w) A (eqIsQuiet (n + deep) v) Q E s
section
variable {prog : Program} {w : World} {κ : Type} [DecidableEq κ] (K : IK prog w κ)
inductive IsItems (h : Heap) : List κ → List Value → Prop
  | nil : IsItems h [] []
  | cons {k : κ} {v : Value} {ks : List κ} {vs : List Value} : K.is h k v → IsItems h ks vs → IsItems h (k :: ks) (v :: vs)
def IsTupK (h : Heap) (ks : List κ) (v : Value) : Prop := ∃ a o items n, v = .ref a ∧ h.get? a = some o ∧ o.cls = .type "tuple" ∧ o.data = .seq items n ∧ IsItems K h ks items.toList
variable {K}
theorem IsItems.inj {h : Heap} : ∀ {x y : List κ} {vs : List Value}, IsItems K h x vs → IsItems K h y vs → x = y
  | _, _, _, .nil, .nil => rfl
  | _, _, _, .cons a b, .cons c d => by rw [K.inj a c, IsItems.inj b d]
theorem IsItems.keeps {h h' : Heap} {d : Addr} {o : Obj} {es ep} (ho : h.get? d = some o) (hd : o.data = .dict es ep) (hs : Heap.SameBut d h h') : ∀ {x : List κ} {vs : List Value}, IsItems K h x vs → IsItems K h' x vs
  | _, _, .nil => .nil
  | _, _, .cons a b => .cons (K.keeps a ho hd hs) (b.keeps ho hd hs)
theorem IsItems.len {h : Heap} : ∀ {x : List κ} {vs : List Value}, IsItems K h x vs → x.length = vs.length
  | _, _, .nil => rfl
  | _, _, .cons _ b => by rw [List.length_cons, List.length_cons, b.len]
def sumD (K : IK prog w κ) (ks : List κ) : Nat := (ks.map K.draws).sum
def tupH (K : IK prog w κ) (ks : List κ) : Int := reduceHash (Builtin.Tuple.tupleHashOf (ks.map K.hash))
theorem hash_tupK {A : Around} {E : Value → Shared → Prop} {s : Shared} {ks : List κ} {v : Value} {Q : Int → Shared → Prop} (hu : A.units + (K.deep + 1) < cLine) (hk : IsTupK K s.heap ks v) (h : Q (tupH K ks) { s with toks := s.toks + (sumD K ks + 1) }) :
    wpAny (model prog w) A (PySem.pyHash v) Q E s := by
  obtain ⟨a, o, items, n, rfl, ho, hc, hd, hi⟩ := hk
  have hT : s.TypeIs (.ref a) "tuple" := ⟨o, ho, hc⟩
  unfold PySem.pyHash
  first | unfold pyHashByItsType | skip
  first | refine wpAny_bind (wpAny_cRoomFor_or (.inr (by omega)) ?_) | skip
  refine wpAny_bind (wpAny_specialOf hT PySem.F.slot_tuple_hash.lookup ?_)
  rw [if_neg (by rw [beq_builtin_none]; exact Bool.false_ne_true)]
  refine wpAny_bind (wpAny_specialOf hT PySem.F.slot_tuple_hash.lookup ?_)
  show wpAny _ _ (callSpecialIfBoundUnlessNone? (.ref a) "__hash__" _ >>= _) Q E s
  refine wpAny_bind (wpAny_callSpecialIfBoundUnlessNone?_slot hT PySem.F.slot_tuple_hash (wpAny_call_entry PySem.F.slot_tuple_hash hT
    PySem.F.entry_tuple_hash ?_ (PySem.F.args_tuple_hash_1 _)))
  show wpAny _ _ (Builtin.Tuple.tupleItemsOf (.ref a) >>= _) _ _ s
  refine wpAny_bind (wpAny_tupleItemsOf ho hd (wpAny_bind ?_))
  rw [← Array.forIn_toList]
  refine wpAny_forIn_list _ (fun rest (b : Array Int) s' => ∃ done left, ks = done ++ left ∧ IsItems K s.heap left rest ∧ b.toList = done.map K.hash ∧ s' = { s with toks := s.toks + sumD K done }) _ ?_ ?_ _ _ ⟨[], ks, rfl, hi, rfl, rfl⟩
  · rintro x rest b s' ⟨done, left, rfl, hl, hb, rfl⟩
    cases hl with
    | @cons k _ ks' _ h1 hl' =>
      have e : sumD K (done ++ [k]) = sumD K done + K.draws k := by simp [sumD]
      refine wpAny_bind (K.pyHash (show A.in1.units + K.deep < cLine from by show A.units + 1 + K.deep < cLine; omega) h1 ?_)
      have fin : ∃ done' left', done ++ k :: ks' = done' ++ left' ∧ IsItems K s.heap left' rest ∧ (b.push (K.hash k)).toList = done'.map K.hash ∧ ({ s with toks := s.toks + sumD K done + K.draws k } : Shared) = { s with toks := s.toks + sumD K done' } :=
        ⟨done ++ [k], ks', by simp, hl', by simp [hb], by rw [e, Nat.add_assoc]⟩
      first
        | exact wpAny_pure fin
        | exact wpAny_bind (wpAny_pure (wpAny_pure fin))
  · rintro b s' ⟨done, left, rfl, hl, hb, rfl⟩
    cases hl
    rw [List.append_nil] at h
    show wpAny _ _ (retInt (Builtin.Tuple.tupleHashOf b.toList)) _ _ _
    rw [hb]
    refine wpAny_ret_mkInt ?_
    unfold tupH reduceHash at h
    show wpAny _ _ (if (decide (-(2 : Int) ^ 63 ≤ Builtin.Tuple.tupleHashOf (done.map K.hash)) && decide (Builtin.Tuple.tupleHashOf (done.map K.hash) < 2 ^ 63)) = true then _ else _) Q E _
    by_cases hr : (decide (-(2 : Int) ^ 63 ≤ Builtin.Tuple.tupleHashOf (done.map K.hash)) && decide (Builtin.Tuple.tupleHashOf (done.map K.hash) < 2 ^ 63)) = true
    · rw [if_pos hr] at h ⊢
      exact wpAny_pure (by simpa [Nat.add_assoc] using h)
    · rw [if_neg hr] at h ⊢
      exact wpAny_bind (wpAny_rule (wpAny_pure (by simpa [Nat.add_assoc] using h)))
theorem eq_tupTree {A : Around} {E : Value → Shared → Prop} {s : Shared} {x y : List κ} {a b : Addr} {P : Fin → Shared → Prop} (hu : A.units + K.deep < cLine) (hx : IsTupK K s.heap x (.ref a)) (hy : IsTupK K s.heap y (.ref b)) (h : P (.done (.ret (.bool (decide (x = y))))) s) :
    wpAny (model prog w) A (Builtin.«tuple.__eq__» ⟨[.ref a, .ref b], []⟩) P E s := by
  obtain ⟨_, oa, xs, na, e1, hoa, ca, hda, hia⟩ := hx
  obtain ⟨_, ob, ys, nb, e2, hob, cb, hdb, hib⟩ := hy
  cases e1
  cases e2
  show wpAny _ _ (isInstance (.ref b) (.type "tuple") >>= _) _ _ s
  refine wpAny_bind (wpAny_isInstance ⟨ob, hob, cb⟩ isSubtype_tuple_tuple ?_)
  simp only [Bool.not_true, Bool.false_eq_true, if_false]
  refine wpAny_bind (wpAny_tupleItemsOf hoa hda (wpAny_bind (wpAny_tupleItemsOf hob hdb (wpAny_bind ?_))))
  refine wpAny_forIn_list _ (fun rest r s' => r.1 = none ∧ s' = s ∧ ∃ x' y' xs' ys', rest = List.zip xs' ys' ∧ IsItems K s.heap x' xs' ∧ IsItems K s.heap y' ys' ∧ decide (x' = y') = decide (x = y) ∧ (xs'.length == ys'.length) = (xs.size == ys.size)) _ ?_ ?_ _ _
    ⟨rfl, rfl, x, y, xs.toList, ys.toList, rfl, hia, hib, rfl, by simp⟩
  · rintro ⟨u, v⟩ rest r s' ⟨hr, rfl, x', y', xs', ys', hz, hx', hy', hdec, hlen⟩
    cases hx' with
    | nil => simp at hz
    | @cons k1 u' x'' xs'' h1 hx'' =>
      cases hy' with
      | nil => simp at hz
      | @cons k2 v' y'' ys'' h2 hy'' =>
        simp only [List.zip_cons_cons, List.cons.injEq, Prod.mk.injEq] at hz
        obtain ⟨⟨rfl, rfl⟩, rfl⟩ := hz
        refine wpAny_bind (K.eqBool (x := k1) (y := k2) hu h1 h2 ?_)
        by_cases hk : k1 = k2
        · subst hk
          rw [decide_eq_true rfl]
          simp only [Bool.not_true, Bool.false_eq_true, if_false]
          refine wpAny_pure ⟨rfl, rfl, x'', y'', xs'', ys'', rfl, hx'', hy'', ?_, by simpa using hlen⟩
          rw [← hdec]
          by_cases hxy : x'' = y'' <;> simp [hxy]
        · rw [decide_eq_false hk]
          simp only [Bool.not_false, if_true]
          have hf : decide (x = y) = false := by rw [← hdec]; simp [hk]
          rw [hf] at h
          exact wpAny_bind (wpAny_pure (wpAny_pure (wpAny_pure h)))
  · rintro ⟨r1, r2⟩ s' ⟨hr, rfl, x', y', xs', ys', hz, hx', hy', hdec, hlen⟩
    simp only at hr
    subst hr
    refine wpAny_pure ?_
    have hfin : (xs.size == ys.size) = decide (x = y) := by
      rw [← hdec, ← hlen]
      cases hx' with
      | nil => cases hy' <;> simp
      | cons _ _ =>
        cases hy' with
        | nil => simp
        | cons _ _ => simp at hz
    show P (.done (.ret (.bool (xs.size == ys.size)))) s'
    rw [hfin]; exact h
theorem eq_tupK {A : Around} {E : Value → Shared → Prop} {s : Shared} {x y : List κ} {u v : Value} {Q : Bool → Shared → Prop} (hu : A.units + (K.deep + 1) < cLine) (hx : IsTupK K s.heap x u) (hy : IsTupK K s.heap y v) (h : Q (decide (x = y)) s) :
    wpAny (model prog w) A (PySem.eqBool u v) Q E s := by
  have hx0 := hx
  have hy0 := hy
  obtain ⟨a, oa, xs, na, rfl, hoa, ca, hda, hia⟩ := hx
  obtain ⟨b, ob, ys, nb, rfl, hob, cb, hdb, hib⟩ := hy
  unfold PySem.eqBool
  try with_reducible refine wpAny_holding ?_
  show wpAny _ _ (if (Value.ref a == Value.ref b) = true then _ else _) Q E s
  by_cases hab : (Value.ref a == Value.ref b) = true
  · rw [if_pos hab]
    have e : a = b := by have := eq_of_beq hab; injection this
    subst e
    rw [hoa] at hob
    cases hob
    rw [hda] at hdb
    injection hdb with e1 _
    subst e1
    rw [decide_eq_true (hia.inj hib)] at h
    exact wpAny_bind (wpAny_rule (wpAny_pure h))
  · rw [if_neg hab]
    have ta : s.TypeIs (.ref a) "tuple" := ⟨oa, hoa, ca⟩
    have tb : s.TypeIs (.ref b) "tuple" := ⟨ob, hob, cb⟩
    refine wpAny_bind (wpAny_richCompare_same_room (op := .Eq) ta tb PySem.F.slot_tuple_eq (wpAny_call_entry PySem.F.slot_tuple_eq ta PySem.F.entry_tuple_eq ?_ (PySem.F.args_tuple_eq_2 _ _)) (by omega))
    refine eq_tupTree (K := K) ?_ hx0 hy0 ⟨_, rfl, (fun e => nomatch e), wpAny_truthy_bool h⟩
    show A.units + 1 + K.deep < cLine
    omega
theorem quiet_tupK {A : Around} {E : Value → Shared → Prop} {s : Shared} {ks : List κ} {v : Value} {n : Nat} {Q : Bool → Shared → Prop} (hk : IsTupK K s.heap ks v) (h : Q true s) : wpAny (model prog w) A (eqIsQuiet (n + (K.deep + 1)) v) Q E s := by
  obtain ⟨a, o, items, m, rfl, ho, hc, hd, hi⟩ := hk
  have hT : s.TypeIs (.ref a) "tuple" := ⟨o, ho, hc⟩
  rw [show n + (K.deep + 1) = (n + K.deep) + 1 from rfl]
  unfold eqIsQuiet
  refine wpAny_bind (wpAny_specialOf hT PySem.F.slot_tuple_eq.lookup ?_)
  show wpAny _ _ (isInstance (.ref a) (.type "tuple") >>= _) _ _ s
  refine wpAny_bind (wpAny_isInstance hT isSubtype_tuple_tuple ?_)
  simp only [Bool.not_true, Bool.false_eq_true, if_false]
  refine wpAny_bind (wpAny_seqItems ho hd (wpAny_bind ?_))
  show wpAny _ _ (forIn items _ _) _ _ s
  rw [← Array.forIn_toList]
  refine wpAny_forIn_list _ (fun rest r s' => r.1 = none ∧ s' = s ∧ ∃ ks', IsItems K s.heap ks' rest) _ ?_ ?_ _ _ ⟨rfl, rfl, ks, hi⟩
  · rintro v rest r s' ⟨hr, rfl, ks', hall⟩
    cases hall with
    | cons h1 h2 =>
      refine wpAny_bind (K.quiet h1 ?_)
      simp only [Bool.not_true, Bool.false_eq_true, if_false]
      exact wpAny_pure ⟨rfl, rfl, _, h2⟩
  · rintro ⟨r1, r2⟩ s' ⟨hr, rfl, _⟩
    simp only at hr
    subst hr
    exact wpAny_pure h
/-- tuples of such -/
def tupK (K : IK prog w κ) : IK prog w (List κ) where
  is := IsTupK K
  hash := tupH K
  draws := fun ks => sumD K ks + 1
  deep := K.deep + 1
  inj := by
    rintro h v x y ⟨a, oa, xs, na, rfl, hoa, ca, hda, hia⟩ ⟨b, ob, ys, nb, e, hob, cb, hdb, hib⟩
    cases e
    rw [hoa] at hob
    cases hob
    rw [hda] at hdb
    injection hdb with e1 _
    subst e1
    exact hia.inj hib
  keeps := by
    rintro h h' k v d o es ep ⟨a, oa, xs, na, rfl, hoa, ca, hda, hia⟩ ho hd hs
    have hne : a ≠ d := by
      rintro rfl
      rw [hoa] at ho
      cases ho
      rw [hd] at hda; cases hda
    exact ⟨a, oa, xs, na, rfl, (hs.2 a hne).trans hoa, ca, hda, hia.keeps ho hd hs⟩
  pyHash := fun hu hk h => hash_tupK hu hk h
  eqBool := fun hu hx hy h => eq_tupK hu hx hy h
  quiet := fun hk h => quiet_tupK hk h
/-- a dict's keys -/
def heapK (K : IK prog w κ) (hd : K.deep ≤ 7) : HeapKind prog w (List κ) where
  is := fun h k a => IsTupK K h k (.ref a)
  hash := tupH K
  draws := fun ks => sumD K ks + 1
  room := fun A => A.units + (K.deep + 1) < cLine
  inj := (tupK K).inj
  keeps := (tupK K).keeps
  pyHash := fun hu hk h => hash_tupK hu hk h
  eqBool := fun hu hx hy h => eq_tupK hu hx hy h
  quiet := fun {A E s k a Q} hk h => by
    have q := quiet_tupK (n := 7 - K.deep) (A := A) (E := E) hk h
    rwa [show 7 - K.deep + (K.deep + 1) = 8 by omega] at q
end
end L2

set_option Elab.async false
set_option linter.all false
set_option maxRecDepth 100000
namespace L2
open PySem PySem.Spec PyProof.Rows

/-! ### None or an int; an int or a tuple of these -/
def optV : Option Int → V
  | none => .non
  | some i => .int i
theorem optV_inj {x y : Option Int} {v : Value} (a : RelV (optV x) v) (b : RelV (optV y) v) : x = y := by
  have e := a.inj b
  cases x <;> cases y <;> simp_all [optV]
theorem optV_flat (x : Option Int) : flatV (optV x) = true := by cases x <;> rfl
theorem optV_eq (x y : Option Int) : eqV (optV x) (optV y) = decide (x = y) := by
  cases x with
  | none => cases y <;> rfl
  | some i =>
    cases y with
    | none => rfl
    | some j =>
      show (i == j) = _
      by_cases h : i = j <;> simp [h]
theorem hash_none {prog : Program} {w : World} {A : Around} {E : Value → Shared → Prop} {s : Shared} {Q : Int → Shared → Prop} (h : Q 0xFCA86420 { s with toks := s.toks + 1 }) : wpAny (model prog w) A (PySem.pyHash .none) Q E s := by
  have hT : s.TypeIs .none "NoneType" := rfl
  unfold PySem.pyHash
  first | unfold pyHashByItsType | skip
  refine wpAny_bind ?_
  rw [cRoomFor, if_neg (by decide)]
  refine wpAny_pure (wpAny_bind (wpAny_specialOf hT PySem.F.slot_NoneType_hash.lookup ?_))
  rw [if_neg (by rw [beq_builtin_none]; exact Bool.false_ne_true)]
  refine wpAny_bind (wpAny_specialOf hT PySem.F.slot_NoneType_hash.lookup ?_)
  show wpAny _ _ (callSpecialIfBoundUnlessNone? .none "__hash__" _ >>= _) Q E s
  refine wpAny_bind (wpAny_callSpecialIfBoundUnlessNone?_slot hT PySem.F.slot_NoneType_hash (wpAny_call_entry PySem.F.slot_NoneType_hash hT
    PySem.F.entry_NoneType_hash ?_ (PySem.F.args_NoneType_hash_1 _)))
  show wpAny _ _ (retInt 0xFCA86420) _ _ s
  refine wpAny_ret_mkInt ?_
  exact wpAny_pure h
def optK (prog : Program) (w : World) : IK prog w (Option Int) where
  is := fun _ k v => RelV (optV k) v
  hash := fun k => match k with
    | none => 0xFCA86420
    | some i => hashInt i
  draws := fun _ => 1
  deep := 0
  inj := fun a b => optV_inj a b
  keeps := fun a _ _ _ => a
  pyHash := fun {A E s k v Q} _ hk h => by
    cases k with
    | none =>
      obtain rfl : v = Value.none := hk
      exact hash_none h
    | some i =>
      obtain ⟨t, rfl⟩ := (show ∃ t, v = Value.int i t from hk)
      exact wpAny_pyHash_int h
  eqBool := fun {A E s x y u v Q} _ hx hy h => by
    have q := eqAt_V (A := A) (s := s) hx hy (optV_flat x) (optV_flat y)
    rw [optV_eq] at q
    exact q prog w E Q h
  quiet := fun {A E s k v n Q} hk h => by
    have e : carriedByValue v = true := by
      cases k with
      | none => obtain rfl : v = Value.none := hk; rfl
      | some i => obtain ⟨t, rfl⟩ := (show ∃ t, v = Value.int i t from hk); rfl
    rw [eqIsQuiet_byValue _ e]
    exact wpAny_pure h
abbrev NI := Sum Int (List (Option Int))
def IsNI (prog : Program) (w : World) (h : Heap) : NI → Value → Prop
  | .inl i, v => ∃ t, v = Value.int i t
  | .inr l, v => IsTupK (optK prog w) h l v
theorem IsTupK.tup {prog : Program} {w : World} {κ : Type} [DecidableEq κ] {K : IK prog w κ} {h : Heap} {l : List κ} {v : Value} (x : IsTupK K h l v) : ∃ a its, v = .ref a ∧ h.IsTuple a its := by
  obtain ⟨a, o, items, n, rfl, ho, hc, hd, hi⟩ := x
  exact ⟨a, items, rfl, o, ho, hc, n, hd⟩
theorem ni_room {A : Around} {prog : Program} {w : World} (hu : A.units + 1 < cLine) : A.units + ((optK prog w).deep + 1) < cLine := hu
theorem ni_ll (i j : Int) : (i == j) = decide ((Sum.inl i : NI) = Sum.inl j) := by
  by_cases z : i = j
  · subst z; simp
  · have z' : ¬ ((Sum.inl i : NI) = Sum.inl j) := fun q => z (Sum.inl.inj q)
    rw [decide_eq_false z']; simpa using z
theorem ni_rr (l l' : List (Option Int)) : decide (l = l') = decide ((Sum.inr l : NI) = Sum.inr l') := by
  by_cases z : l = l'
  · subst z; simp
  · have z' : ¬ ((Sum.inr l : NI) = Sum.inr l') := fun q => z (Sum.inr.inj q)
    rw [decide_eq_false z', decide_eq_false z]
theorem ni_lr (i : Int) (l : List (Option Int)) : decide ((Sum.inl i : NI) = Sum.inr l) = false := decide_eq_false (fun q => nomatch q)
theorem ni_rl (i : Int) (l : List (Option Int)) : decide ((Sum.inr l : NI) = Sum.inl i) = false := decide_eq_false (fun q => nomatch q)
theorem ni_eq {prog : Program} {w : World} {A : Around} {E : Value → Shared → Prop} {s : Shared} {u v : Value} {Q : Bool → Shared → Prop} (hu : A.units + 1 < cLine) : ∀ (x y : NI), IsNI prog w s.heap x u → IsNI prog w s.heap y v → Q (decide (x = y)) s →
    wpAny (model prog w) A (PySem.eqBool u v) Q E s
  | .inl i, .inl j, ⟨t, e1⟩, ⟨t', e2⟩, h => by
    subst e1 e2
    rw [← ni_ll] at h
    exact wpAny_eqBool_int h
  | .inl i, .inr l, ⟨t, e1⟩, hy, h => by
    subst e1
    obtain ⟨b, its, rfl, ht⟩ := IsTupK.tup (K := optK prog w) hy
    rw [ni_lr] at h
    exact SeqAt.EqAt.int_tuple i t ht (Nat.lt_of_succ_lt hu) prog w E Q h
  | .inr l, .inl j, hx, ⟨t, e1⟩, h => by
    subst e1
    obtain ⟨b, its, rfl, ht⟩ := IsTupK.tup (K := optK prog w) hx
    rw [ni_rl] at h
    exact SeqAt.EqAt.tuple_int j t ht (Nat.lt_of_succ_lt hu) prog w E Q h
  | .inr l, .inr l', hx, hy, h => by
    rw [← ni_rr] at h
    exact eq_tupK (K := optK prog w) (ni_room hu) hx hy h
def niK (prog : Program) (w : World) : IK prog w NI where
  is := IsNI prog w
  hash := fun k => match k with
    | .inl i => hashInt i
    | .inr l => tupH (optK prog w) l
  draws := fun k => match k with
    | .inl _ => 1
    | .inr l => sumD (optK prog w) l + 1
  deep := 1
  inj := fun {h v x y} a b => by
    cases x with
    | inl i =>
      obtain ⟨t, rfl⟩ := (show ∃ t, v = Value.int i t from a)
      cases y with
      | inl j => obtain ⟨t', e⟩ := (show ∃ t', Value.int i t = Value.int j t' from b); injection e with e1 _; rw [e1]
      | inr l => obtain ⟨a, _, e, _⟩ := IsTupK.tup (show IsTupK (optK prog w) h l _ from b); cases e
    | inr l =>
      cases y with
      | inl j =>
        obtain ⟨t, rfl⟩ := (show ∃ t, v = Value.int j t from b)
        obtain ⟨a, _, e, _⟩ := IsTupK.tup (show IsTupK (optK prog w) h l _ from a); cases e
      | inr l' => rw [(tupK (optK prog w)).inj (show IsTupK (optK prog w) h l v from a) (show IsTupK (optK prog w) h l' v from b)]
  keeps := fun {h h' k v d o es ep} a ho hd hs => by
    cases k with
    | inl i => exact a
    | inr l => exact (tupK (optK prog w)).keeps (show IsTupK (optK prog w) h l v from a) ho hd hs
  pyHash := fun {A E s k v Q} hu hk h => by
    cases k with
    | inl i =>
      obtain ⟨t, rfl⟩ := (show ∃ t, v = Value.int i t from hk)
      exact wpAny_pyHash_int h
    | inr l => exact hash_tupK (K := optK prog w) (ni_room hu) hk h
  eqBool := fun {A E s x y u v Q} hu hx hy h => ni_eq hu x y hx hy h
  quiet := fun {A E s k v n Q} hk h => by
    cases k with
    | inl i =>
      obtain ⟨t, rfl⟩ := (show ∃ t, v = Value.int i t from hk)
      rw [eqIsQuiet_byValue _ rfl]
      exact wpAny_pure h
    | inr l => exact quiet_tupK (K := optK prog w) hk h
end L2

set_option Elab.async false
set_option linter.all false
set_option maxRecDepth 100000
namespace L2
open PySem PySem.Spec PyProof.Rows

/-! ### dicts whose keys are pairs of an int and a tuple -/
abbrev NKey := Int × List (Option Int)
def nk (k : NKey) : List NI := [.inl k.1, .inr k.2]
theorem nk_inj {k k' : NKey} (h : nk k = nk k') : k = k' := by
  obtain ⟨a, b⟩ := k
  obtain ⟨c, d⟩ := k'
  unfold nk at h
  simp at h
  rw [h.1, h.2]
def MK (P : Program) (w : World) : HeapKind P w (List NI) := heapK (niK P w) (show 1 ≤ 7 by decide)
def NDict (P : Program) (w : World) (a : Addr) (xs : List (List NI × Addr × Value)) : HO :=
  .ext fun h => ∃ o es ep, h.get? a = some o ∧ o.ExactDict ∧ o.data = .dict es ep ∧ es.toList = xs.map (entryOfKey (MK P w)) ∧ (xs.map (·.1)).Nodup
def KeyAt (H : Hp) (k : NKey) (b : Addr) : Prop := ∃ t, H b = some (.tup [.int k.1, .ref t]) ∧ H t = some (.tup (k.2.map optV))
def NRow (H : Hp) (p : NKey × V) (q : List NI × Addr × Value) : Prop := q.1 = nk p.1 ∧ KeyAt H p.1 q.2.1 ∧ RelV p.2 q.2.2
def DN (P : Program) (w : World) (H : Hp) (a : Addr) (kvs : List (NKey × V)) : Prop :=
  ∃ xs, H a = some (NDict P w a xs) ∧ (a == sysModules) = false ∧ xs.length ≤ sizeLine ∧ Paired (NRow H) kvs xs
theorem KeyAt.mono {H H' : Hp} {k : NKey} {b : Addr} (h : KeyAt H k b) (sm : ∀ c xs, H c = some (.tup xs) → H' c = some (.tup xs)) : KeyAt H' k b := by
  obtain ⟨t, h1, h2⟩ := h
  exact ⟨t, sm _ _ h1, sm _ _ h2⟩
theorem DN.mono {P : Program} {w : World} {H H' : Hp} {a : Addr} {kvs : List (NKey × V)} (h : DN P w H a kvs) (sm : Same H H') : DN P w H' a kvs := by
  obtain ⟨xs, h1, h2, h3, h4⟩ := h
  exact ⟨xs, sm _ _ h1, h2, h3, Paired.imp' (fun p q z => ⟨z.1, z.2.1.mono fun c ys e => sm _ _ e, z.2.2⟩) h4⟩
theorem DN.len {P : Program} {w : World} {H : Hp} {a : Addr} {kvs : List (NKey × V)} (h : DN P w H a kvs) : kvs.length ≤ sizeLine := by
  obtain ⟨xs, h1, h2, h3, h4⟩ := h
  rw [Paired.length h4]; exact h3
section
variable {P : Program} {w : World} {H : Hp}
theorem NRow.val : ∀ {kvs : List (NKey × V)} {xs : List (List NI × Addr × Value)} (k : NKey), Paired (NRow H) kvs xs → RelO (valV kvs k) ((atKey xs (nk k)).map (·.2))
  | _, _, k, .nil => True.intro
  | _, _, k, @Paired.cons _ _ _ p q kvs xs r t => by
    have ih := NRow.val k t
    obtain ⟨e1, e2, e3⟩ := r
    by_cases h : p.1 = k
    · have h1 : valV (p :: kvs) k = some p.2 := by simp [valV, h]
      have h2 : atKey (q :: xs) (nk k) = some q.2 := by simp [atKey, e1, h]
      rw [h1, h2]; exact e3
    · have hn : ¬ q.1 = nk k := fun z => h (nk_inj (e1.symm.trans z))
      have h1 : valV (p :: kvs) k = valV kvs k := by simp [valV, h]
      have h2 : atKey (q :: xs) (nk k) = atKey xs (nk k) := by simp [atKey, hn]
      rw [h1, h2]; exact ih
theorem items_of_vals {h : Heap} : ∀ {l : List (Option Int)} {us : List Value}, Vals (l.map optV) us → IsItems (optK P w) h l us
  | [], _, .nil => .nil
  | x :: l, _, .cons r t => .cons r (items_of_vals t)
end
section
variable {X : Cx} {pins : List (Addr × Obj)} {σ : St} {H : Hp} {s : Shared} {a b : Addr} {k : NKey} {kvs : List (NKey × V)}
theorem Inv.key (I : Inv X pins σ H s) (h : KeyAt H k b) : (MK X.prog X.w).is s.heap (nk k) b := by
  obtain ⟨t, h1, h2⟩ := h
  obtain ⟨_, its, r, o, e, c, n, d⟩ : ([V.int k.1, V.ref t] : List V).length ≤ sizeLine ∧ ∃ its : List Value, Vals [V.int k.1, V.ref t] its ∧ IsTup s.heap b its.toArray := I.hok b _ h1
  obtain ⟨_, its2, r2, o2, e2, c2, n2, d2⟩ : (k.2.map optV).length ≤ sizeLine ∧ ∃ its : List Value, Vals (k.2.map optV) its ∧ IsTup s.heap t its.toArray := I.hok t _ h2
  obtain ⟨u, v, rfl, ru, rv⟩ := vals2 r
  cases rv
  refine ⟨b, o, _, n, rfl, e, c, d, ?_⟩
  show IsItems (niK X.prog X.w) s.heap [.inl k.1, .inr k.2] [u, .ref t]
  exact .cons ru (.cons ⟨t, o2, _, n2, rfl, e2, c2, d2, by simpa using items_of_vals r2⟩ .nil)
/-! the rules -/
theorem Paired.snoc {α β : Type} {F : α → β → Prop} {x : α} {y : β} (h : F x y) : ∀ {l : List α} {m : List β}, Paired F l m → Paired F (l ++ [x]) (m ++ [y])
  | _, _, .nil => .cons h .nil
  | _, _, .cons r t => .cons r (Paired.snoc h t)
end
end L2

set_option Elab.async false
set_option linter.all false
set_option maxRecDepth 100000
namespace L2
open PySem PySem.Spec PyProof.Rows PySem.SeqAt

/-! ### a[b], a a list, a tuple, a text or a dict of int and text keys -/
section
variable {X : Cx}
/-! ### in, not in a dict; a dict's store -/
def rSetD : TSet := fun o i v H Q => ∃ a kvs k, o = .ref a ∧ i = kV k ∧ H a = some (.dK kvs) ∧ kvs.length < sizeLine ∧ Q (upd H a (.dK (putK kvs k v)))
theorem set_D {n : Nat} (hr : Room n X.A) : PSet X rSetD := by
  intro pins s σ H o i v ov iv u Q I ro ri rv h
  obtain ⟨a, kvs, k, rfl, rfl, e, hl, q⟩ := h
  cases ro
  exact d_setItem (by have := hr.un; omega) I (DPut.k e hl) ri rv fun s' I' => ⟨_, I', q⟩
end
section
variable {K : PySem.W.Frag} {H : Hp} {Q : VK}
end
/-! ### an int, or None, unlike an int -/
section
variable {X : Cx}
end
end L2

set_option Elab.async false
set_option linter.all false
set_option maxRecDepth 100000
namespace L2
open PySem PySem.Spec PyProof.Rows PySem.SeqAt
/-! ### pop, and bools unlike -/
section
variable {K : PySem.W.Frag} {H : Hp} {Q : VK}
theorem rNeA_bl (i j : Bool) : rNeA (.bl i) (.bl j) H Q = Q (.bl (!(i == j))) H := by
  show (scal (.bl i) (.bl j) = true ∧ Q (.bl (!decide (V.bl i = V.bl j))) H) = _
  rw [dec_bl]; exact propext ⟨fun h => h.2, fun h => ⟨rfl, h⟩⟩
end
/-! ### is True, of an int -/
end L2

set_option Elab.async false
set_option linter.all false
set_option maxRecDepth 100000
namespace L2
open PySem PySem.Spec PyProof.Rows PySem.SeqAt
theorem vals_mk : ∀ (xs : List V) (us : List Value), xs.length = us.length → (∀ (j : Nat) x u, xs[j]? = some x → us[j]? = some u → RelV x u) → Vals xs us
  | [], [], _, _ => .nil
  | [], u :: us, hl, _ => by simp at hl
  | x :: xs, [], hl, _ => by simp at hl
  | x :: xs, u :: us, hl, h => .cons (h 0 x u rfl rfl) (vals_mk xs us (by simpa using hl) fun j a b e1 e2 => h (j + 1) a b e1 e2)
/-! ### list(range(n)) -/
section
variable {X : Cx}
end
/-! ### d.values(), list(d.values()) -/
section
variable {X : Cx}
end
section
variable {prog : Program} {w : World} {K : Type} [DecidableEq K] {knd : KeyKind prog w K} {A : Around} {E : Value → Shared → Prop} {s : Shared}
end
section
variable {X : Cx}
theorem paired_get {α β : Type} {F : α → β → Prop} : ∀ {l : List α} {m : List β} {j : Nat} {a : α} {b : β}, Paired F l m → l[j]? = some a → m[j]? = some b → F a b
  | _, _, 0, _, _, .cons h _, e1, e2 => by
    cases e1; cases e2; exact h
  | _, _, j + 1, _, _, .cons _ t, e1, e2 => paired_get (j := j) t e1 e2
  | _, _, 0, _, _, .nil, e1, _ => by cases e1
  | _, _, _ + 1, _, _, .nil, e1, _ => by cases e1
end
end L2

set_option Elab.async false
set_option linter.all false
set_option maxRecDepth 100000
namespace L2
open PySem PySem.Spec PyProof.Rows PySem.SeqAt
/-! ### the places of a set's elements rise -/
def Rises (xs : Array Nat) : Prop := ∀ (a b : Nat) (ha : a < xs.size) (hb : b < xs.size), a < b → xs[a] < xs[b]
structure Good (L : Bool) (t : SetTable) : Prop where
  led : t.led = L
  rise : Rises t.place
end L2

set_option Elab.async false
set_option linter.all false
set_option maxRecDepth 100000
namespace L2
open PySem PySem.Spec PyProof.Rows PySem.SeqAt
/-! ### a set whose table is known to be G and whose elements are all different -/
section
variable {prog : Program} {w : World} {K : Type} [DecidableEq K] {knd : KeyKind prog w K} {A : Around} {E : Value → Shared → Prop} {s : Shared} {G : SetTable → Prop}
def Apart (knd : KeyKind prog w K) (l : List (Int × Value)) : Prop := l.Pairwise fun e e' => ∀ k, knd.is k e.2 = true → knd.is k e'.2 = false
theorem Apart.push {l : List (Int × Value)} {k : K} {x : Value} {hh : Int} (h : Apart knd l) (hn : ∀ e ∈ l, knd.is k e.2 = false) (hk : knd.is k x = true) : Apart knd (l ++ [(hh, x)]) := by
  refine List.pairwise_append.mpr ⟨h, List.pairwise_singleton _ _, fun e he b hb k' hk' => ?_⟩
  rw [List.mem_singleton.mp hb]
  show knd.is k' x = false
  rw [KeyKind.is_eq_decide hk k']
  refine decide_eq_false fun e' => ?_
  subst e'
  rw [hn e he] at hk'; cases hk'
structure Tab (knd : KeyKind prog w K) (G : SetTable → Prop) (o : Obj) (es : Array (Int × Value)) (ep : Nat) (t : SetTable) (S : K → Bool) (n : Nat) : Prop where
  ex : o.ExactSet
  dat : o.data = .set es ep t
  el : ElemsOf knd es.toList
  mem : ∀ k, S k = true ↔ ∃ e ∈ es.toList, knd.is k e.2 = true
  few : es.size < scanBound
  fit : t.fits es.size = true
  num : es.size = n
  good : G t
  apart : Apart knd es.toList
def SetG (knd : KeyKind prog w K) (G : SetTable → Prop) (h : Heap) (a : Addr) (S : K → Bool) (n : Nat) : Prop := ∃ o es ep t, h.get? a = some o ∧ Tab knd G o es ep t S n
/-- what is written is what stands there -/
theorem stored {h : Heap} {a : Addr} {o : Obj} {es : Array (Int × Value)} {ep : Nat} {t : SetTable} {S : K → Bool} {n : Nat} {es' : Array (Int × Value)} {t' : SetTable} {S' : K → Bool} {n' : Nat} (ho : h.get? a = some o) (T : Tab knd G o es ep t S n)
    (T' : ∀ o', o'.ExactSet → o'.data = .set es' (ep + 1) t' → Tab knd G o' es' (ep + 1) t' S' n') : ∃ o', (h.update a (Obj.putSet es' t')).get? a = some o' ∧ Tab knd G o' es' (ep + 1) t' S' n' := by
  have hp := putSet_of es' t' T.dat
  have hg := Heap.get?_update_self (Obj.putSet es' t') ho (by rw [hp]; rfl)
  rw [hp] at hg
  exact ⟨_, hg, T' _ T.ex rfl⟩
end
end L2

set_option Elab.async false
set_option linter.all false
set_option maxRecDepth 100000
set_option maxHeartbeats 4000000
namespace L2
open PySem PySem.Spec PyProof.Rows PySem.SeqAt
section
variable {prog : Program} {w : World} {A : Around} {R : Result → Shared → Prop} {I : Addr} {fp wr : List Addr} {Gm : Array GenState → Array GenState → Prop} {n : Nat} {P : Nat → Value → Prop} {St : Nat → Shared → Prop} {L : Bool}
theorem SetG.at' {K : Type} [DecidableEq K] {knd : KeyKind prog w K} {G : SetTable → Prop} {h h' : Heap} {a : Addr} {S S' : K → Bool} {m m' : Nat} (x : SetG knd G h a S m) (e : ∀ o, h.get? a = some o → h'.get? a = some o) (eS : ∀ k, S k = S' k) (em : m = m') : SetG knd G h' a S' m' := by
  obtain ⟨o, es, ep, t, ho, T⟩ := x
  have : S = S' := funext eS
  subst this; subst em
  exact ⟨o, es, ep, t, e o ho, T⟩
end
section
variable {prog : Program} {w : World} {A : Around} {E : Value → Shared → Prop} {s : Shared}
end
end L2

set_option Elab.async false
set_option linter.all false
set_option maxRecDepth 100000
set_option maxHeartbeats 4000000
namespace L2
open PySem PySem.Spec PyProof.Rows PySem.SeqAt
/-! ### set(a list of ints) -/
section
variable {X : Cx}
end
end L2

set_option Elab.async false
set_option linter.all false
set_option maxRecDepth 100000
set_option maxHeartbeats 4000000
namespace L2
open PySem PySem.Spec PyProof.Rows PySem.SeqAt
/-! ### the orders in which a set may be gone over -/
section
variable {M : Model} {A : Around} {E : Value → Shared → Prop}
end
end L2

set_option Elab.async false
set_option linter.all false
set_option maxRecDepth 100000
set_option maxHeartbeats 4000000
namespace L2
open PySem PySem.Spec PyProof.Rows PySem.SeqAt
/-! ### one step over a set that is not drawn -/
section
variable {prog : Program} {w : World} {A : Around} {E : Value → Shared → Prop} {s : Shared}
end
end L2

set_option Elab.async false
set_option linter.all false
set_option maxRecDepth 100000
set_option maxHeartbeats 4000000
namespace L2
open PySem PySem.Spec PyProof.Rows PySem.SeqAt
section
variable {prog : Program} {w : World} {A : Around} {E : Value → Shared → Prop} {s : Shared}
def IsSI (h : Heap) (it : Addr) (first : Value) (i : Nat) (a : Addr) (n ep : Nat) : Prop := ∃ o, h.get? it = some o ∧ o.cls = .type "set_iterator" ∧ o.data = .fields #[first, .int i 0, .ref a, .int n 0, .int ep 0]
theorem IsSI.typeIs {it a : Addr} {first : Value} {i n ep : Nat} (x : IsSI s.heap it first i a n ep) : s.TypeIs (.ref it) "set_iterator" := let ⟨o, ho, hc, _⟩ := x; ⟨o, ho, hc⟩
end
end L2

set_option Elab.async false
set_option linter.all false
set_option maxRecDepth 100000
set_option maxHeartbeats 4000000
namespace L2
open PySem PySem.Spec PyProof.Rows PySem.SeqAt
section
variable {prog : Program} {w : World} {A : Around} {E : Value → Shared → Prop} {s : Shared}
end
end L2

set_option Elab.async false
set_option linter.all false
set_option maxRecDepth 100000
set_option maxHeartbeats 4000000
namespace L2
open PySem PySem.Spec PyProof.Rows PySem.SeqAt
section
variable {prog : Program} {w : World} {A : Around} {E : Value → Shared → Prop} {s : Shared}
end
end L2

set_option Elab.async false
set_option linter.all false
set_option maxRecDepth 100000
set_option maxHeartbeats 4000000
namespace L2
open PySem PySem.Spec PyProof.Rows PySem.SeqAt
section
variable {prog : Program} {w : World} {A : Around} {E : Value → Shared → Prop} {s : Shared}
theorem IsSI.at' {h h' : Heap} {it a : Addr} {first : Value} {i n ep : Nat} (x : IsSI h it first i a n ep) (e : ∀ o, h.get? it = some o → h'.get? it = some o) : IsSI h' it first i a n ep := let ⟨o, ho, r⟩ := x; ⟨o, e _ ho, r⟩
end
end L2

set_option Elab.async false
set_option linter.all false
set_option maxRecDepth 100000
set_option maxHeartbeats 4000000
namespace L2
open PySem PySem.Spec PyProof.Rows PySem.SeqAt
section
variable {prog : Program} {w : World} {A : Around} {E : Value → Shared → Prop} {s : Shared}
end
section
variable {X : Cx}
end
end L2

set_option Elab.async false
set_option linter.all false
set_option maxRecDepth 100000
set_option maxHeartbeats 4000000
/-! the greatest of a list of ints -/
namespace L2
open PySem PySem.Spec PyProof PyProof.Rows
section
variable {X : Cx}
end
end L2

set_option Elab.async false
set_option linter.all false
set_option maxRecDepth 100000
set_option maxHeartbeats 4000000
/-! dicts of the module, by texts -/
namespace L2
open PySem PySem.Spec PyProof PyProof.Rows
inductive Ents (w : World) : List DictEntry → List (Str × V) → Prop
  | nil : Ents w [] []
  | cons {x : Str} {t : Tok} {y : V} {v : Value} {es : List DictEntry} {kvs : List (Str × V)} : RelV y v → Ents w es kvs → Ents w (⟨PyData.keyHash w.params x, .str x t, v⟩ :: es) ((x, y) :: kvs)
theorem Ents.vs {P : Program} {w : World} {es : List DictEntry} {kvs : List (Str × V)} (h : Ents w es kvs) : ∃ vs : List (Str × Value), KV kvs vs ∧ PySem.Pairs (PySem.strKind P w) es vs ∧ vs.map (·.1) = kvs.map (·.1) ∧ ∀ e ∈ es, ∃ k, (PySem.strKind P w).is k e.key = true ∧ e.hash = (PySem.strKind P w).hash k := by
  induction h with
  | nil => exact ⟨[], .nil, .nil, rfl, fun _ h => nomatch h⟩
  | @cons x t y v es kvs r _ ih =>
    obtain ⟨vs, h1, h2, h3, h4⟩ := ih
    have hx : (PySem.strKind P w).is x (.str x t) = true := by show Value.isStrOf x (.str x t) = true; simp [Value.isStrOf]
    refine ⟨(x, v) :: vs, .cons ⟨rfl, r⟩ h1, .cons hx rfl h2, by rw [List.map_cons, List.map_cons, h3], fun e he => ?_⟩
    rcases List.mem_cons.mp he with rfl | he
    · exact ⟨x, hx, rfl⟩
    · exact h4 e he
structure ModD (w : World) (K : PySem.W.Frag) (d : Addr) (kvs : List (Str × V)) : Prop where
  low : (d == sysModules) = false
  nd : (kvs.map (·.1)).Nodup
  at' : ∃ (o : Obj) (es : List DictEntry) (ep : Nat), K.lookup d = some o ∧ o.ExactDict ∧ o.data = .dict es.toArray ep ∧ Ents w es kvs
section
variable {X : Cx} {pins : List (Addr × Obj)} {σ : St} {H : Hp} {s : Shared} {d : Addr} {kvs : List (Str × V)}
theorem ModD.dict (h : ModD X.w X.K d kvs) (I : Inv X pins σ H s) : ∃ vs : List (Str × Value), KV kvs vs ∧ s.heap.DictOf (PySem.strKind X.prog X.w) d vs ∧ ∃ ob, s.heap.get? d = some ob ∧ ob.dict = none := by
  obtain ⟨o, es, ep, h1, h2, h3, h4⟩ := h.at'
  obtain ⟨vs, r1, r2, r3, r4⟩ := h4.vs (P := X.prog)
  have e := I.kIn d o h1
  exact ⟨vs, r1, ⟨o, es.toArray, ep, e, h2, h3, fun x hx => r4 x (by simpa using hx), by simpa using r2, by rw [r3]; exact h.nd⟩, o, e, h2.2.1⟩
end
section
variable {X : Cx}
theorem RelO.isSome {o : Option V} {p : Option Value} (h : RelO o p) : p.isSome = o.isSome := by
  cases o <;> cases p <;> first | rfl | exact h.elim
end
end L2

set_option Elab.async false
set_option linter.all false
set_option maxRecDepth 100000
set_option maxHeartbeats 4000000
/-! zip of two tuples -/
namespace L2
open PySem PySem.Spec PyProof PyProof.Rows
section
variable {prog : Program} {w : World} {A : Around} {E : Value → Shared → Prop} {s : Shared}
/-- a tuple's iterator stands at k -/
def TSt (i t : Addr) (zs : Array Value) (k : Nat) (h : Heap) : Prop := h.IsTupleIter i t k ∧ h.IsTuple t zs
theorem TSt.ext {i t b : Addr} {zs : Array Value} {k : Nat} {h h' : Heap} (x : TSt i t zs k h) (hs : Heap.ExtBut b h h') (n1 : i ≠ b) (n2 : t ≠ b) : TSt i t zs k h' := ⟨x.1.extBut hs n1, x.2.extBut hs n2⟩
variable {z TI TO i1 i2 t1 t2 : Addr} {xs ys : Array Value} {k1 k2 : Nat} {a b : Value}
end
end L2

set_option Elab.async false
set_option linter.all false
set_option maxRecDepth 100000
set_option maxHeartbeats 4000000
/-! zip of two tuples, gone over -/
namespace L2
open PySem PySem.Spec PyProof PyProof.Rows
section
variable {prog : Program} {w : World} {A : Around} {E : Value → Shared → Prop} {s : Shared} {z TI TO i1 i2 t1 t2 : Addr} {xs ys : Array Value} {k1 k2 : Nat} {a b : Value}
end
end L2

set_option Elab.async false
set_option linter.all false
set_option maxRecDepth 100000
set_option maxHeartbeats 4000000
namespace L2
open PySem PySem.Spec PyProof PyProof.Rows
theorem SqT.apart {X : Cx} {pins : List (Addr × Obj)} {σ : St} {H : Hp} {s : Shared} {a c : Addr} {xs : List V} (I : Inv X pins σ H s) (hf : FpOk X pins H c) (h : SqT X.K H a xs) : a ≠ c := by
  rintro rfl
  rcases h with h | ⟨o, its, n, hk, _⟩
  · rcases h with e | ⟨o, e⟩ <;> (rw [hf.1] at e; cases e)
  · have e := I.ok.mod.kin a o hk
    rcases hf.2.2.2.1 with z | z
    · exact I.ok.noex a o e z
    · exact absurd (Nat.lt_of_lt_of_le (Heap.lt_size (I.ok.bs a o e).1) z) (Nat.lt_irrefl _)
end L2

set_option Elab.async false
set_option linter.all false
set_option maxRecDepth 100000
set_option maxHeartbeats 4000000
namespace L2
open PySem PySem.Spec PyProof PyProof.Rows
/-! a tuple cut, the whole of it is itself -/
section
variable {prog : Program} {w : World} {A : Around} {E : Value → Shared → Prop} {s : Shared}
end
section
variable {X : Cx}
theorem cutV_to (xs : List V) (k : Nat) : cutV xs none (some (k : Int)) = xs.take k := by
  unfold cutV
  rw [HT.sIx_none, HT.sIx_nat, List.drop_zero, Nat.sub_zero]
  exact List.take_eq_take_min.symm
theorem cutV_from (xs : List V) (k : Nat) : cutV xs (some (k : Int)) none = xs.drop k := by
  unfold cutV
  rw [HT.sIx_none, HT.sIx_nat]
  rcases Nat.le_total k xs.length with h | h
  · rw [Nat.min_eq_left h, List.take_of_length_le (by rw [List.length_drop]; omega)]
  · rw [Nat.min_eq_right h, Nat.sub_self, List.take_zero, List.drop_eq_nil_of_le h]
/-! a text of a text, of an int -/
/-! a global that is an object -/
end
section
variable {K : PySem.W.Frag} {a b : Addr} {xs ys : List V} {g : TG} {te : TE} {nT : Nat} {σ : St} {D : Addr} {Q : VK} {H : Hp}
end
theorem SqT.same {K : PySem.W.Frag} {H H' : Hp} {a : Addr} {xs : List V} (h : SqT K H a xs) (sm : Same H H') : SqT K H' a xs := by
  rcases h with (h | ⟨o, h⟩) | h
  · exact .inl (.inl (sm _ _ h))
  · exact .inl (.inr ⟨o, sm _ _ h⟩)
  · exact .inr h
end L2

set_option Elab.async false
set_option linter.all false
set_option maxRecDepth 100000
set_option maxHeartbeats 4000000
namespace L2
open PySem PySem.Spec PyProof PyProof.Rows
section
variable {X : Cx}
end
end L2

set_option Elab.async false
set_option linter.all false
set_option maxRecDepth 100000
set_option maxHeartbeats 4000000
/-! a list gone over from behind -/
namespace L2
open PySem PySem.Spec PyProof PyProof.Rows
def Itv (K : PySem.W.Frag) (a : Addr) (n : Nat) : It :=
  ⟨fun i H => i < n ∧ ∃ xs x, SqL K H a xs ∧ xs[n - 1 - i]? = some x, fun i H x H' => H' = H ∧ ∀ xs, SqL K H a xs → xs[n - 1 - i]? = some x, fun i _ => i = n⟩
theorem turn_rev {P : Program} {w : World} {K : PySem.W.Frag} {tg : Expr} (a it : Addr) (n : Nat) : Turn P w K tg (Itv K a n) [it] it (fun i h => h.IsRevIter it a ((n : Int) - 1 - (i : Nat))) where
  mem := by simp
  obj := fun i h st b hb => by
    have e : b = it := by simpa using hb
    subst e
    obtain ⟨o, e, c, d⟩ := st
    exact ⟨o, e, fun v z => by rw [d] at z; cases z⟩
  keep := fun i h h' st k => st.at fun o e => k it (by simp) o e
  item := by
    intro X hP hw hK hc i pins s σ H E I hf st hg
    subst hP hw hK
    obtain ⟨hi, xs, x, hq, hx⟩ := hg
    obtain ⟨its, rv, p, hz⟩ := I.list hq
    obtain ⟨u, hu, ru⟩ := rv.get hx
    obtain ⟨f0, f1, f2, f3, f4, f5⟩ := hf it (by simp)
    have e : (n : Int) - 1 - (i : Int) = ((n - 1 - i : Nat) : Int) := by omega
    rw [e] at st
    refine wpAny_pyNext_rev_item st p.isList (x := u) (by simpa using hu) fun h' st' sb => ?_
    have I1 : Inv X pins σ H { s with heap := h' } := I.turned (t' := s.toks) (fun b o hb e => (sb.2 b hb).trans e) f0 f1 f3 f4 f5
    have e2 : ((n - 1 - i : Nat) : Int) - 1 = (n : Int) - 1 - ((i + 1 : Nat) : Int) := by omega
    rw [e2] at st'
    obtain ⟨o, eo, c, d⟩ := id st'
    exact ⟨u, rfl, go_of (s := { s with heap := h' }) eo c d (by decide) ⟨x, H, I1, ru, ⟨rfl, fun ys hy => by rw [I.list_inj hy hq]; exact hx⟩, st', fun b hb => (hf b hb).1⟩⟩
  done := by
    intro X hP hw hK hc i pins s σ H E I hf st hg
    subst hP hw hK
    obtain ⟨f0, f1, f2, f3, f4, f5⟩ := hf it (by simp)
    have hg' : i = n := hg
    have e : (n : Int) - 1 - (i : Int) = -1 := by omega
    rw [e] at st
    exact wpAny_pyNext_rev_end (I.ok.hd hc) st fun h' eb => ⟨rfl, I.turned (t' := s.toks) (fun b o hb e => eb b o hb e) f0 f1 f3 f4 f5⟩
  self := fun _ _ _ _ _ st h => wpAny_pyIter_revIter st h
theorem boot_reversed : bootBuiltins "reversed" = some (.type "reversed") := by decide +kernel
def iRev (K : PySem.W.Frag) (ta : TA) : TI := fun σ H R => ta σ H fun vs H1 => ∃ a : Addr, vs = [.ref a] ∧ ∃ xs, SqL K H1 a xs ∧ R (Itv K a xs.length) H1
theorem iRev_at (K : PySem.W.Frag) (ta : TA) {σ : St} {H : Hp} {R : It → Hp → Prop} : iRev K ta σ H R = ta σ H fun vs H1 => ∃ a : Addr, vs = [.ref a] ∧ ∃ xs, SqL K H1 a xs ∧ R (Itv K a xs.length) H1 := rfl
theorem pi_rev (K : PySem.W.Frag) {X : Cx} {tg : Expr} {a : Expr} {ta : TA} {p pos : Pos} (hg : Gl X "reversed") (hm : X.mg "reversed" = none) (ha : PA X [a] ta) (hs : starEach [a] X.env = [(false, eval a X.env)] := by rfl) (hK : X.K = K := by rfl) :
    PI X tg (.Call (.Name "reversed" p) [a] [] pos) (iRev K ta) := by
  subst hK
  intro pins s σ H R I h
  refine Call_ (ld_blt I hg hm boot_reversed (PyProof.Rows.callWith_type1 (thn (ha pos pins s σ H _ I h) fun us s1 ⟨vs, H1, I1, r1, q1⟩ => ?_) hs rfl))
  obtain ⟨l, e, xs, h1, q⟩ := q1
  subst e
  obtain ⟨u1, rfl, r1'⟩ := vals1 r1
  obtain rfl : u1 = Value.ref l := r1'
  obtain ⟨its, rv, pl, hz⟩ := I1.list h1
  have hlen : its.toArray.size = xs.length := by rw [List.size_toArray]; exact rv.length.symm
  refine call_reversed_list pl.isList ?_
  rw [hlen]
  have hit : (s1.heap.push (revObj l ((xs.length : Int) - 1))).IsRevIter s1.heap.objs.size l ((xs.length : Int) - 1 - ((0 : Nat) : Int)) := ⟨_, Heap.get?_push_size _ rfl, rfl, by simp [revObj]⟩
  refine wpAny_pyIter_revIter (s := { s1 with heap := s1.heap.push (revObj l ((xs.length : Int) - 1)) }) hit ⟨s1.heap.objs.size, [s1.heap.objs.size], _, _, H1, rfl, I1.kept (t' := s1.toks) fun b o e => Heap.get?_push_of_some _ e, turn_rev l _ xs.length, hit, fun b hb => ?_, q⟩
  have e : b = s1.heap.objs.size := by simpa using hb
  subst e
  exact I1.fpOk (Nat.le_refl _) (I1.hok.fresh (Nat.le_refl _))
section
variable {K : PySem.W.Frag} {a : Addr} {xs : List V} {g : TG} {σ : St} {H : Hp}
theorem forW_rev {tb : TS} {D : Ends} (Pv : Nat → St → Hp → Prop) (h0 : Pv 0 σ H) (hl : ∀ i σ H, i ≤ xs.length → Pv i σ H → SqL K H a xs)
    (hs : ∀ i x σ H, i < xs.length → xs[xs.length - 1 - i]? = some x → Pv i σ H → g x σ H fun σ2 H2 => tb { D with nx := Pv (i + 1), ct := Pv (i + 1), bk := D.nx } σ2 H2) (hd : ∀ σ H, Pv xs.length σ H → D.nx σ H) : forW (Itv K a xs.length) g tb D σ H := by
  refine forW_by xs.length Pv h0 (fun i σ H hi p => ⟨hi, xs, xs[xs.length - 1 - i], hl i σ H (Nat.le_of_lt hi) p, List.getElem?_eq_getElem _⟩) (fun σ H p => rfl) (fun i σ H x H' hi p yl => ?_) hd
  obtain ⟨rfl, y⟩ := yl
  exact hs i x σ _ hi (y xs (hl i σ _ (Nat.le_of_lt hi) p)) p
end
end L2

set_option Elab.async false
set_option linter.all false
set_option maxRecDepth 100000
set_option maxHeartbeats 4000000
/-! list(a dict): its keys -/
namespace L2
open PySem PySem.Spec PyProof PyProof.Rows
section
variable {X : Cx}
end
end L2

set_option Elab.async false
set_option linter.all false
set_option maxRecDepth 100000
set_option maxHeartbeats 4000000
/-! sum of a list of ints, how often a text stands in a list -/
namespace L2
open PySem PySem.Spec PyProof PyProof.Rows PySem.SeqAt
section
variable {X : Cx}
end
end L2

set_option Elab.async false
set_option linter.all false
set_option maxRecDepth 100000
namespace L2
open PySem PySem.Spec PyProof.Rows PySem.SeqAt

/-! ### objects of own classes -/
structure Fl (K : PySem.W.Frag) (C : Addr) (f : Str) : Prop where
  c : Cls K C
  n : NoAttr K C f
structure MethAt (K : PySem.W.Frag) (C : Addr) (m qual : Str) (st : Stmt) : Prop where
  ex : ∃ f fd, Fun K m qual st f fd ∧ Meth K C m f
  cl : Cls K C
structure MakeAt (K : PySem.W.Frag) (mg : Str → Option Value) (x : Str) (C : Addr) (qual : Str) (st : Stmt) : Prop where
  ex : ∃ f fd, Fun K "__init__" qual st f fd ∧ Mk K C f ∧ mg x = some (.ref C)
structure Mcal (P : Program) (w : World) (K : PySem.W.Frag) (mg : Str → Option Value) (base : Heap) (k : Nat) (C : Addr) (m : Str) (ps : List Str) (sp : Sp) : Prop where
  ex : ∃ f fd, FnOk P w K mg base CX0 k f fd ps sp ∧ Binds K fd ps [] ∧ Meth K C m f
  cl : Cls K C
structure Mkal (P : Program) (w : World) (K : PySem.W.Frag) (mg : Str → Option Value) (base : Heap) (k : Nat) (x : Str) (C : Addr) (ps : List Str) (sp : Sp) : Prop where
  ex : ∃ f fd, FnOk P w K mg base CX0 k f fd ps sp ∧ Binds K fd ps [] ∧ Mk K C f ∧ mg x = some (.ref C)
section
variable {P : Program} {w : World} {K : PySem.W.Frag} {mg : Str → Option Value} {base : Heap}
end
section
variable {X : Cx} {o e value : Expr} {es : List Expr} {f m : Str} {pos pos' apos p : Pos} {ta tv : TE} {t : TA} {C : Addr} {x : Str} {ps : List Str} {sp : Sp} {j k : Nat}
end
section
variable {C : Addr} {f m : Str} {sp : Sp} {ta tv : TE} {t : TA} {σ : St} {H : Hp} {Q : VK}
theorem tDGet2_at {td ty tx : TE} : tDGet2 td ty tx σ H Q = td σ H fun x H1 => ∃ a, x = .ref a ∧ IsD H1 a ∧ ty σ H1 fun y H2 => tx σ H2 fun z H3 => ∃ o, DGet H3 a y o ∧ Q (o.getD z) H3 := rfl
theorem isD_of {a : Addr} {kvs : List (Key × V)} (h : H a = some (.dK kvs)) : IsD H a := .inl ⟨kvs, .inl h⟩
end
theorem lk_hit {f : Str} {v : V} {fs : List (Str × V)} : List.lookup f ((f, v) :: fs) = some v := by simp [List.lookup]
theorem lk_miss {f g : Str} {v : V} {fs : List (Str × V)} (h : (f == g) = false) : List.lookup f ((g, v) :: fs) = List.lookup f fs := by simp [List.lookup, h]
theorem lk_nil {f : Str} : List.lookup f ([] : List (Str × V)) = none := rfl
theorem putF_hit {f : Str} {v x : V} {r : List (Str × V)} : putF f v ((f, x) :: r) = (f, v) :: r := by simp [putF]
theorem putF_miss {f g : Str} {v x : V} {r : List (Str × V)} (h : ¬ g = f) : putF f v ((g, x) :: r) = (g, x) :: putF f v r := by simp [putF, h]
theorem putF_nil {f : Str} {v : V} : putF f v [] = [(f, v)] := rfl
end L2

set_option Elab.async false
set_option linter.all false
set_option maxRecDepth 100000
/-! a text split by another, a text read as a number -/
namespace L2
open PySem PySem.Spec PyProof.Rows PySem.SeqAt
section
variable {X : Cx}
end
theorem str_ext {x y : Str} (h : x.cps.toList = y.cps.toList) : x = y := by
  cases x; cases y
  exact congrArg _ (Array.toList_inj.mp h)
theorem cps_app (x y : Str) : (x ++ y).cps.toList = x.cps.toList ++ y.cps.toList := Array.toList_append
end L2

set_option Elab.async false
set_option linter.all false
set_option maxRecDepth 100000
namespace L2
open PySem PySem.Spec PyProof.Rows
/-! ### targets, expressions, turns that the proof never comes to -/
section
variable {X : Cx} {tg e : Expr}
end
end L2

set_option Elab.async false
set_option linter.all false
set_option maxRecDepth 100000
set_option maxHeartbeats 4000000
namespace L2
open PySem PySem.Spec PyProof.Rows PySem.SeqAt
/-! ### sets of texts -/
section
variable {prog : Program} {w : World} {A : Around} {R : Result → Shared → Prop} {I : Addr} {fp wr : List Addr} {Gm : Array GenState → Array GenState → Prop} {n : Nat} {P : Nat → Value → Prop} {St : Nat → Shared → Prop} {L : Bool}
end
section
variable {prog : Program} {w : World} {A : Around} {E : Value → Shared → Prop} {s : Shared}
end
section
variable {X : Cx}
end
section
variable {prog : Program} {w : World} {A : Around} {E : Value → Shared → Prop} {s : Shared}
end
section
variable {X : Cx}
end
/-! ### a choice, as a test -/
section
variable {X : Cx} {c a b : Expr} {tA tB1 tB2 : TT} {pos : Pos}
end
end L2

set_option Elab.async false
set_option linter.all false
set_option maxRecDepth 100000
set_option maxHeartbeats 4000000
namespace L2
open PySem PySem.Spec PyProof.Rows PySem.SeqAt PySem.Builtin PySem.Builtin.Str PySem.StrLaws
/-! ### texts parted -/
section
variable {X : Cx}
end
end L2

set_option Elab.async false
set_option linter.all false
namespace L2
open PySem PySem.Spec PyProof.Rows PySem.SeqAt PySem.Builtin PySem.Builtin.Str PySem.StrLaws
/-! ### is True, is False -/
/-! ### a text that starts with another; a tuple and a tuple -/
end L2

set_option Elab.async false
set_option linter.all false
set_option maxRecDepth 100000
set_option maxHeartbeats 4000000
namespace L2
open PySem PySem.Spec PyProof.Rows
/-! ### list.insert, list.pop(at) -/
section
variable {X : Cx}
end
end L2

set_option Elab.async false
set_option linter.all false
set_option maxRecDepth 100000
set_option maxHeartbeats 4000000
/-! ### a comprehension with a test over enumerate; list(reversed(a list)) -/
namespace L2
open PySem PySem.Spec PyProof PyProof.Rows
section
variable {K : PySem.W.Frag} {a b : Addr} {xs ys : List V} {g : TG} {te : TE} {nT : Nat} {σ : St} {D : Addr} {Q : VK} {H : Hp}
theorem compT_enum {tc : TT} (Pv : Nat → List V → Hp → Prop) (h0 : Pv 0 [] H) (hl : ∀ i zs H, i ≤ xs.length → Pv i zs H → SqL K H a xs)
    (hs : ∀ i zs H x t, xs[i]? = some x → i < xs.length → Pv i zs H → H t = none → g (.ref t) (σ ++ List.replicate nT none) (upd H t (.tup [.int i, x])) (compT xs.length i Pv D zs tc te))
    (hd : ∀ zs H, Pv xs.length zs H → Q (.ref D) H) : compW (Ite K a) g tc te nT σ D Q H := by
  refine compT_by xs.length Pv h0 (fun i zs H hi p => ⟨xs, xs[i], hl i zs H (Nat.le_of_lt hi) p, by simp [hi]⟩) (fun zs H p => ⟨xs, hl _ zs H (Nat.le_refl _) p, Nat.le_refl _⟩) (fun i zs H v H' hi p yl => ?_) hd
  obtain ⟨t, x, ht, rfl, rfl, y1⟩ := yl
  exact hs i zs H x t (y1 xs (hl i zs H (Nat.le_of_lt hi) p)) hi p ht
end
theorem atI_end {α : Type} {xs : List α} {v : α} (h : xs[xs.length - 1]? = some v) : atI xs (-1) = some v := by
  have hl : 0 < xs.length := by
    refine Classical.byContradiction fun hn => ?_
    rw [List.getElem?_eq_none (by omega)] at h; cases h
  unfold atI ixN
  rw [if_neg (by decide), if_pos (by omega)]
  show xs[(-1 + (xs.length : Int)).toNat]? = some v
  rw [show (-1 + (xs.length : Int)).toNat = xs.length - 1 by omega]; exact h
theorem cutV_init (xs : List V) : cutV xs none (some (-1)) = xs.dropLast := by
  unfold cutV
  rw [HT.sIx_none, List.drop_zero, Nat.sub_zero, List.dropLast_eq_take]
  congr 1
  unfold HT.sIx
  simp only []
  split <;> omega
section
variable {prog : Program} {w : World} {A : Around} {E : Value → Shared → Prop} {s : Shared}
theorem lri_nolen : typeLookup (.type "list_reverseiterator") "__len__" = pure none := by rw [typeLookup_type, builtinLookup_eq_fast]; kernel_rfl
theorem lri_hint : typeLookup (.type "list_reverseiterator") "__length_hint__" = pure (some (.builtin "list_reverseiterator.__length_hint__")) := by rw [typeLookup_type, builtinLookup_eq_fast]; kernel_rfl
theorem hint_rev {v l : Addr} {i : Int} {Q : Bool → Shared → Prop} (hv : s.heap.IsRevIter v l i) (h : Q false s) : wpAny (model prog w) A (Builtin.List.listLengthHint (.ref v)) Q E s := by
  unfold Builtin.List.listLengthHint
  refine wpAny_bind (wpAny_specialOf hv.typeIs lri_nolen ?_)
  wp_delta
  refine wpAny_ite_split (fun hab => absurd hab (by decide +kernel)) (fun _ => ?_)
  refine wpAny_ite_split (fun hab => absurd hab (by decide)) (fun _ => ?_)
  refine wpAny_bind (wpAny_specialOf hv.typeIs lri_hint ?_)
  generalize hid : ("list_reverseiterator.__length_hint__" : String) = id0
  wp_delta
  rw [show splitId id0 = some ("list_reverseiterator", "__length_hint__") from by subst hid; decide +kernel]
  subst hid
  refine wpAny_bind (wpAny_isInstance (T := "list_reverseiterator") (b := true) hv.typeIs (by rw [isSubtype_type]; kernel_rfl) ?_)
  refine wpAny_ite_split (fun hab => absurd hab (by decide)) (fun _ => ?_)
  refine wpAny_ite_split (fun _ => ?_) (fun hab => absurd (by decide +kernel) hab)
  refine wpAny_ite_split (fun hab => absurd hab (by decide +kernel)) (fun _ => ?_)
  exact wpAny_pure h
theorem extend_rev {R : Result → Shared → Prop} {v l : Addr} {items : Array Value} (hh : A.handled = none) (hv : s.heap.IsRevIter v l ((items.size : Int) - 1)) (hm : s.heap.IsList l items) (hvl : l ≠ v) (hlen : items.size ≤ 2 ^ 20)
    (S : Addr) (res : Value) (c₀ : Nat) (hS : s.heap.get? S = some { cls := .type "list", data := .seq #[] c₀ }) (hSv : S ≠ v) (hSl : S ≠ l)
    (hR : ∀ h' tk acc' c', (∀ b o, b ≠ S → b ≠ v → s.heap.get? b = some o → h'.get? b = some o) → h'.get? S = some { cls := .type "list", dict := none, data := .seq acc' c', slots := #[] } →
      ItemsOf (fun i x => items[items.size - 1 - i]? = some x) acc' items.size → R (.ok (.ret res)) { s with heap := h', toks := tk }) :
    wpAny (model prog w) A.in1 (Builtin.List.listExtendWith (.ref S) (.ref v) res)
      (fun fin s' => match fin with | .done f => R (.ok f) s' | .again c' => c'.quiet = true ∧ codeAny (model prog w) A c' R s') (fun e s' => R (.error e) s') s := by
  have hSf : S ∉ [v, l] := fun hm => by
    rcases List.mem_cons.mp hm with e | e
    · exact hSv e
    · exact hSl (List.mem_singleton.mp e)
  have W := (Walks.listRev (prog := prog) (w := w) (A := A.in1) hh v l hvl items).toS
  unfold Builtin.List.listExtendWith
  refine wpAny_bind (wpAny_typeOf hv.typeIs ?_)
  have h1 : Builtin.List.listSameRef (.ref S) (.ref v) = false := by simp [Builtin.List.listSameRef, hSv]
  have h2 : (Value.type "list_reverseiterator" == Value.type "list") = false := by decide
  have h3 : (Value.type "list_reverseiterator" == Value.type "tuple") = false := by decide
  simp only [h1, h2, h3, Bool.or_false, Bool.false_eq_true, if_false]
  refine wpAny_bind (wpAny_pyIter_revIter hv ?_)
  refine wpAny_bind (wpAny_holding (hint_rev hv ?_))
  have key : ∀ (h : Heap) (c₁ tk : Nat), h.IsRevIter v l ((items.size : Int) - 1) → h.IsList l items → (∀ b o, b ≠ S → s.heap.get? b = some o → h.get? b = some o) →
      h.get? S = some { cls := .type "list", data := .seq #[] c₁ } → codeAny (model prog w) A (.builtin "list.extend.loop" ⟨[.ref S, .ref v, res], []⟩) R { s with heap := h, toks := tk } := by
    intro h c₁ tk hit hm' hk hS₁
    refine codeAny_extend_loopS W (by rw [sizeLine_eq]; omega) S hSf res items.size 0 _ #[] c₁ rfl (Nat.zero_le _) ⟨Nat.zero_le _, by simpa using hit, hm'⟩ hS₁ (ItemsOf.nil _) fun s' acc' c' hmv hS' hacc => ?_
    rw [Moved.eq_with hmv]
    refine hR s'.heap s'.toks acc' c' (fun b o hb hbv e => hmv.heap b o (fun hmem => ?_) (hk b o hb e)) hS' hacc
    rcases List.mem_cons.mp hmem with e' | hmem
    · exact hb e'
    · exact hbv (List.mem_singleton.mp hmem)
  refine wpAny_ite_split (fun hab => absurd hab (by decide +kernel)) (fun _ => ?_)
  exact wpAny_pure ⟨plainId_quiet F.plain_extend_loop _, key _ _ _ hv hm (fun b o _ e => e) hS⟩
theorem list_init_rev {R : Result → Shared → Prop} {v l : Addr} {items : Array Value} (hh : A.handled = none) (hv : s.heap.IsRevIter v l ((items.size : Int) - 1)) (hm : s.heap.IsList l items) (hvl : l ≠ v) (hlen : items.size ≤ 2 ^ 20) (S : Addr) (hS : s.heap.get? S = some { cls := .type "list", data := .seq #[] }) (hSv : S ≠ v) (hSl : S ≠ l)
    (hR : ∀ h' tk acc' c', (∀ b o, b ≠ S → b ≠ v → s.heap.get? b = some o → h'.get? b = some o) → h'.get? S = some { cls := .type "list", dict := none, data := .seq acc' c', slots := #[] } →
      ItemsOf (fun i x => items[items.size - 1 - i]? = some x) acc' items.size → R (.ok (.ret .none)) { s with heap := h', toks := tk }) :
    wpAny (model prog w) A.in1 (Builtin.«list.__init__» ⟨[.ref S, .ref v], []⟩)
      (fun fin s' => match fin with | .done f => R (.ok f) s' | .again c' => c'.quiet = true ∧ codeAny (model prog w) A c' R s') (fun e s' => R (.error e) s') s := by
  show wpAny _ _ (do let old ← Builtin.List.listItems (.ref S); Builtin.List.listUpdate (.ref S) (fun _ => #[]); letGo old.toList.reverse; Builtin.List.listExtendWith (.ref S) (.ref v) .none) _ _ s
  refine wpAny_bind ?_
  unfold Builtin.List.listItems
  refine wpAny_bind (wpAny_seqItems hS rfl (wpAny_pure ?_))
  show wpAny _ _ (updateSeq S (fun _ => #[]) >>= fun _ => letGo (#[] : Array Value).toList.reverse >>= fun _ => Builtin.List.listExtendWith (.ref S) (.ref v) .none) _ _ s
  refine wpAny_bind (wpAny_updateSeq hS rfl ?_)
  have hS₂ := Heap.get?_update_self (Obj.mapSeq (fun _ => (#[] : Array Value))) hS rfl
  have oth : ∀ b o, b ≠ S → s.heap.get? b = some o → (s.heap.update S (Obj.mapSeq (fun _ => (#[] : Array Value)))).get? b = some o :=
    fun b o hb e => (Heap.get?_update_other _ _ (Ne.symm hb)).trans e
  refine wpAny_bind (wpAny_letGo ?_)
  refine extend_rev hh (hv.at fun o e => oth v o (Ne.symm hSv) e) (hm.at fun o e => oth l o (Ne.symm hSl) e) hvl hlen S .none _ hS₂ hSv hSl fun h' tk acc' c' hk hS' hacc => ?_
  exact hR h' tk acc' c' (fun b o hb hbv e => hk b o hb hbv (oth b o hb e)) hS' hacc
theorem call_list_rev {Q : Value → Shared → Prop} {v l : Addr} {items : Array Value} (hh : A.handled = none) (hv : s.heap.IsRevIter v l ((items.size : Int) - 1)) (hm : s.heap.IsList l items) (hvl : l ≠ v) (hlen : items.size ≤ 2 ^ 20)
    (hQ : ∀ h' tk acc' c', (∀ b o, b ≠ v → s.heap.get? b = some o → h'.get? b = some o) →
      h'.get? s.heap.objs.size = some { cls := .type "list", dict := none, data := .seq acc' c', slots := #[] } → ItemsOf (fun i x => items[items.size - 1 - i]? = some x) acc' items.size → Q (.ref s.heap.objs.size) { s with heap := h', toks := tk }) :
    wpAny (model prog w) A (call (.type "list") [.ref v]) Q E s := by
  obtain ⟨ov, hov, hcv, hdv⟩ := id hv
  obtain ⟨ol, hol, _⟩ := id hm
  refine callType_codes (Q₁ := fun obj s₁ => obj = .ref s.heap.objs.size ∧ s₁ = { s with heap := s.heap.push { cls := .type "list", data := .seq #[] } }) F.called_list (F.typeCall_list_1 _) F.entry_list_init
    (code_list_new _ ⟨rfl, rfl⟩) fun obj s₁ h₁ => ?_
  obtain ⟨rfl, rfl⟩ := h₁
  have hS : (s.heap.push { cls := .type "list", data := .seq #[] }).get? s.heap.objs.size = some { cls := .type "list", data := .seq #[] } := Heap.get?_push_size _ rfl
  refine ⟨⟨_, hS, rfl⟩, F.args_list_init_2 _ _, list_init_rev (A := A.in1) hh (hv.at fun o e => Heap.get?_push_of_some _ e) (hm.at fun o e => Heap.get?_push_of_some _ e) hvl hlen _ hS (Nat.ne_of_gt (Heap.lt_size hov)) (Nat.ne_of_gt (Heap.lt_size hol)) fun h' tk acc' c' hk hS' hacc => ?_⟩
  exact ⟨rfl, hQ h' tk acc' c' (fun b o hbv e => hk b o (Nat.ne_of_lt (Heap.lt_size e)) hbv (Heap.get?_push_of_some _ e)) hS' hacc⟩
end
/-- list(reversed(a list)) -/
def tLRev (K : PySem.W.Frag) (ta : TA) : TE := fun σ H Q => ta σ H fun vs H1 => ∃ a : Addr, vs = [.ref a] ∧ ∃ xs, SqL K H1 a xs ∧ xs.length ≤ 60000 ∧ ∀ p, H1 p = none → Q (.ref p) (upd H1 p (.lst xs.reverse))
theorem tLRev_at (K : PySem.W.Frag) (ta : TA) {σ : St} {H : Hp} {Q : VK} : tLRev K ta σ H Q = ta σ H fun vs H1 => ∃ a : Addr, vs = [.ref a] ∧ ∃ xs, SqL K H1 a xs ∧ xs.length ≤ 60000 ∧ ∀ p, H1 p = none → Q (.ref p) (upd H1 p (.lst xs.reverse)) := rfl
theorem pe_listRev (K : PySem.W.Frag) {X : Cx} {m : Nat} {a : Expr} {ta : TA} {p p2 pos pos2 : Pos} (hr : Room m X.A) (hg : Gl X "list") (hm : X.mg "list" = none) (hg2 : Gl X "reversed") (hm2 : X.mg "reversed" = none) (ha : PA X [a] ta)
    (hs : starEach [a] X.env = [(false, eval a X.env)] := by rfl) (hs2 : starEach [.Call (.Name "reversed" p2) [a] [] pos2] X.env = [(false, eval (.Call (.Name "reversed" p2) [a] [] pos2) X.env)] := by rfl) (hK : X.K = K := by rfl) :
    PE X (.Call (.Name "list" p) [.Call (.Name "reversed" p2) [a] [] pos2] [] pos) (tLRev K ta) := by
  subst hK
  intro pins s σ H Q I h
  refine Call_ (ld_blt I hg hm bt_list (PyProof.Rows.callWith_type1 ?_ hs2 rfl))
  rw [hs2]
  show wpAny _ _ (spliced ((false, eval (.Call (.Name "reversed" p2) [a] [] pos2) X.env) :: [])) _ _ s
  refine Calls.spliced_cons ?_
  refine Call_ (ld_blt I hg2 hm2 boot_reversed (PyProof.Rows.callWith_type1 (thn (ha pos2 pins s σ H _ I h) fun us s1 ⟨vs, H1, I1, r1, q1⟩ => ?_) hs rfl))
  obtain ⟨l, e, xs, h1, hz, q⟩ := q1
  subst e
  obtain ⟨u1, rfl, r1'⟩ := vals1 r1
  obtain rfl : u1 = Value.ref l := r1'
  obtain ⟨its, rv, pl, hz'⟩ := I1.list h1
  have hlen : its.toArray.size = xs.length := by rw [List.size_toArray]; exact rv.length.symm
  refine call_reversed_list pl.isList ?_
  refine Calls.spliced_nil ?_
  have hit : (s1.heap.push (revObj l ((its.toArray.size : Int) - 1))).IsRevIter s1.heap.objs.size l ((its.toArray.size : Int) - 1) := ⟨_, Heap.get?_push_size _ rfl, rfl, by simp [revObj]⟩
  obtain ⟨ol, hol, _⟩ := id pl.isList
  have hl : l < s1.heap.objs.size := Heap.lt_size hol
  have I2 : Inv X pins σ H1 { s1 with heap := s1.heap.push (revObj l ((its.toArray.size : Int) - 1)) } := I1.kept (t' := s1.toks) fun b o e => Heap.get?_push_of_some _ e
  obtain ⟨f0, f1, f2, f3, f4, f5⟩ := I1.fpOk (Nat.le_refl _) (I1.hok.fresh (Nat.le_refl _))
  refine call_list_rev (s := { s1 with heap := s1.heap.push (revObj l ((its.toArray.size : Int) - 1)) }) (v := s1.heap.objs.size) (l := l) (items := its.toArray) hr.hd hit (pl.isList.at fun o e => Heap.get?_push_of_some _ e) (Nat.ne_of_lt hl) (by rw [hlen]; omega) fun h' tk acc' c' hk hS hacc => ?_
  have hs : sizeLine = 16777216 := sizeLine_eq
  refine ⟨.ref _, _, I2.turnedLaid (ch := [s1.heap.objs.size]) (t' := tk) (fun b o hb e => hk b o (by simpa using hb) e) (fun b hb => ?_) (Nat.le_refl _) (show ObjOk X.prog X.w _ h' _ (.lst xs.reverse) from ⟨by simp; omega, acc'.toList, c', ?_, by simpa using hS⟩), rfl, q _ (I2.hok.fresh (Nat.le_refl _))⟩
  · have e : b = s1.heap.objs.size := by simpa using hb
    subst e
    exact ⟨f0, f1, f2, f3, f4, f5⟩
  · refine vals_mk _ _ (by simp [hacc.1]; exact hlen.symm) fun j x w' e1 e2 => ?_
    have e3 := hacc.2 j w' (by rw [← Array.getElem?_toList]; exact e2)
    have hj : j < xs.length := by
      refine Classical.byContradiction fun hn => ?_
      rw [List.getElem?_eq_none (by simp; omega)] at e1; cases e1
    rw [List.getElem?_reverse hj] at e1
    rw [hlen] at e3
    exact paired_get rv e1 (by simpa using e3)
end L2

set_option Elab.async false
set_option linter.all false
set_option maxRecDepth 100000
set_option maxHeartbeats 4000000
section
open PySem PySem.Spec PyProof.Rows L2
seal L2.PE L2.PT L2.PW L2.PA L2.PS L2.PSs L2.PG L2.PGs L2.PSet L2.PI L2.PIfs L2.OpR L2.UnR L2.CallR L2.IxR L2.MtR L2.SlR L2.PO L2.PPs
local macro_rules | `(tactic| walk_at "rd1") => `(tactic| try simp only [tSeq_at, tPairs_nil, tPairs_cons, tNext_at, tIfS_at, tRet_at, tDrop_at, tAsg_at, gName_at, gNil_at, gCons_at, gTup_at, gSub_at, tVar_at, tC_at, tOp_at, tUn_at, tTest_at, tB_at, tAnd_at, tOr_at, tNot_at, tAndV_at, tNotV_at, tIf_at, tCB_at, tCons_at, tNil_at, tTup_at, tLst_at, tCall_at, tBM_at, tDGet2_at, tSl_at, tPart_at, tNoPart_at, tComp_at, tYes_at, ex_refs2, iEnum_at, ex_ref1, compT_at, iList_at, iRng1_at, tFor_at, compK_at, rI0_at, rI_at, rAddA_int, rAddA_str, rAddA_ref, rMulB_int, rMulB_str, rIsN_at, rNotN_at, rInt1_int, rInt1_bl, rListOf_at, rSlL_at, rU_at, rEqD_at, rNeD_at, rSortS_at, rIndexS_at, rLtA_int, rLtA_str, rInA_str, rInA_ref, rNotInA_str, rNotInA_ref, rLenA_str, rLenA_ref, rIxA_ref, rIxA_str, rSetL_at, rAppend_at, rIsT_at, iRev_at, rEqA_int, rEqA_bl, rEqA_str, rNeA_int, rNeA_str, rNeA_bl, tyV_str, tyV_lst, L2.start, List.map_cons, List.map_nil, List.length_cons, List.length_nil, List.replicate, List.cons_append, List.nil_append, List.append_nil, List.getElem?_cons_zero, List.getElem?_cons_succ, List.set_cons_zero, List.set_cons_succ, Nat.reduceAdd, Nat.reduceSub, Option.some.injEq, exists_eq_left', exists_eq_left, V.int.injEq, V.ref.injEq, V.str.injEq, V.bl.injEq, ex_one, ex_two, ex_cons, ex_nil, and_true, true_and, decide_eq_true_eq, Bool.not_true, Bool.not_false, if_true, Bool.false_eq_true, if_false, ite_true, ite_false])
local macro_rules | `(tactic| walk_at "rd") => `(tactic| try simp only [rest_at, tSeq_at, tPairs_nil, tPairs_cons, tNext_at, tIfS_at, tRet_at, tDrop_at, tAsg_at, gName_at, gNil_at, gCons_at, gTup_at, gSub_at, tVar_at, tC_at, tOp_at, tUn_at, tTest_at, tB_at, tAnd_at, tOr_at, tNot_at, tAndV_at, tNotV_at, tIf_at, tCB_at, tCons_at, tNil_at, tTup_at, tLst_at, tCall_at, tBM_at, tDGet2_at, tSl_at, tPart_at, tNoPart_at, tComp_at, tYes_at, ex_refs2, iEnum_at, ex_ref1, compT_at, iList_at, iRng1_at, tFor_at, compK_at, rI0_at, rI_at, rAddA_int, rAddA_str, rAddA_ref, rMulB_int, rMulB_str, rIsN_at, rNotN_at, rInt1_int, rInt1_bl, rListOf_at, rSlL_at, rU_at, rEqD_at, rNeD_at, rSortS_at, rIndexS_at, rLtA_int, rLtA_str, rInA_str, rInA_ref, rNotInA_str, rNotInA_ref, rLenA_str, rLenA_ref, rIxA_ref, rIxA_str, rSetL_at, rAppend_at, rIsT_at, iRev_at, rEqA_int, rEqA_bl, rEqA_str, rNeA_int, rNeA_str, rNeA_bl, tyV_str, tyV_lst, L2.start, List.map_cons, List.map_nil, List.length_cons, List.length_nil, List.replicate, List.cons_append, List.nil_append, List.append_nil, List.getElem?_cons_zero, List.getElem?_cons_succ, List.set_cons_zero, List.set_cons_succ, Nat.reduceAdd, Nat.reduceSub, Option.some.injEq, exists_eq_left', exists_eq_left, V.int.injEq, V.ref.injEq, V.str.injEq, V.bl.injEq, ex_one, ex_two, ex_cons, ex_nil, and_true, true_and, decide_eq_true_eq, Bool.not_true, Bool.not_false, if_true, Bool.false_eq_true, if_false, ite_true, ite_false])
local macro_rules | `(tactic| walk_at "nx") => `(tactic| ((first | rw [rest_at] | (dsimp only; rw [rest_at])); walk_at "rd1"))
local macro_rules | `(tactic| walk_at "lk") => `(tactic| repeat (first | exact lk_hit | exact lk_nil | rw [lk_miss (by decide +kernel)]))
local macro_rules | `(tactic| walk_at "pf") => `(tactic| repeat (first | rw [putF_hit] | rw [putF_nil] | rw [putF_miss (by decide +kernel)]))
namespace K80
open PySem L2
def top (i : Nat) : Stmt := PySem.Challenge.pw_usewarden_k80_no_breach_to_tell.main.body.getD i (.Pass ⟨0, 0, 0, 0⟩)
abbrev s_next_room : Stmt := top 1
theorem sc_next_room : FnScope ["rule", "room", "text", "words"] ["rule", "room", "text"] (defScope s_next_room) := ⟨rfl, rfl, rfl, by decide +kernel, rfl, by decide +kernel, by decide +kernel⟩
theorem v_next_room_rule : Vis (defScope s_next_room) "rule" := Or.inl (by decide +kernel)
theorem v_next_room_room : Vis (defScope s_next_room) "room" := Or.inl (by decide +kernel)
theorem v_next_room_text : Vis (defScope s_next_room) "text" := Or.inl (by decide +kernel)
theorem v_next_room_words : Vis (defScope s_next_room) "words" := Or.inl (by decide +kernel)
theorem l_next_room_words : Loc (defScope s_next_room) "words" := Or.inl (by decide +kernel)
abbrev s_room_from : Stmt := top 2
theorem sc_room_from : FnScope ["rule", "room", "row", "text"] ["rule", "room", "row"] (defScope s_room_from) := ⟨rfl, rfl, rfl, by decide +kernel, rfl, by decide +kernel, by decide +kernel⟩
theorem v_room_from_rule : Vis (defScope s_room_from) "rule" := Or.inl (by decide +kernel)
theorem v_room_from_room : Vis (defScope s_room_from) "room" := Or.inl (by decide +kernel)
theorem l_room_from_room : Loc (defScope s_room_from) "room" := Or.inl (by decide +kernel)
theorem v_room_from_row : Vis (defScope s_room_from) "row" := Or.inl (by decide +kernel)
theorem v_room_from_text : Vis (defScope s_room_from) "text" := Or.inl (by decide +kernel)
theorem l_room_from_text : Loc (defScope s_room_from) "text" := Or.inl (by decide +kernel)
theorem gl_room_from_next_room : (defScope s_room_from).names.lookup ("next_room" : Str) = some .globalImplicit := by decide +kernel

abbrev s_room_after : Stmt := top 3
theorem sc_room_after : FnScope ["rule", "row"] ["rule", "row"] (defScope s_room_after) := ⟨rfl, rfl, rfl, by decide +kernel, rfl, by decide +kernel, by decide +kernel⟩
theorem v_room_after_rule : Vis (defScope s_room_after) "rule" := Or.inl (by decide +kernel)
theorem v_room_after_row : Vis (defScope s_room_after) "row" := Or.inl (by decide +kernel)
theorem gl_room_after_room_from : (defScope s_room_after).names.lookup ("room_from" : Str) = some .globalImplicit := by decide +kernel

abbrev s_breaks_with_last : Stmt := top 5
theorem sc_breaks_with_last : FnScope ["rule", "row", "room"] ["rule", "row"] (defScope s_breaks_with_last) := ⟨rfl, rfl, rfl, by decide +kernel, rfl, by decide +kernel, by decide +kernel⟩
theorem v_breaks_with_last_rule : Vis (defScope s_breaks_with_last) "rule" := Or.inl (by decide +kernel)
theorem v_breaks_with_last_row : Vis (defScope s_breaks_with_last) "row" := Or.inl (by decide +kernel)
theorem v_breaks_with_last_room : Vis (defScope s_breaks_with_last) "room" := Or.inl (by decide +kernel)
theorem l_breaks_with_last_room : Loc (defScope s_breaks_with_last) "room" := Or.inl (by decide +kernel)
theorem gl_breaks_with_last_len : (defScope s_breaks_with_last).names.lookup ("len" : Str) = some .globalImplicit := by decide +kernel
theorem gl_breaks_with_last_next_room : (defScope s_breaks_with_last).names.lookup ("next_room" : Str) = some .globalImplicit := by decide +kernel
theorem gl_breaks_with_last_room_after : (defScope s_breaks_with_last).names.lookup ("room_after" : Str) = some .globalImplicit := by decide +kernel

abbrev s_moves_of : Stmt := top 6
theorem sc_moves_of : FnScope ["rule", "moves", "place", "word"] ["rule"] (defScope s_moves_of) := ⟨rfl, rfl, rfl, by decide +kernel, rfl, by decide +kernel, by decide +kernel⟩
theorem v_moves_of_rule : Vis (defScope s_moves_of) "rule" := Or.inl (by decide +kernel)
theorem v_moves_of_moves : Vis (defScope s_moves_of) "moves" := Or.inl (by decide +kernel)
theorem l_moves_of_moves : Loc (defScope s_moves_of) "moves" := Or.inl (by decide +kernel)
theorem l_moves_of_place : Loc (defScope s_moves_of) "place" := Or.inr (by decide +kernel)
theorem v_moves_of_word : Vis (defScope s_moves_of) "word" := Or.inl (by decide +kernel)
theorem l_moves_of_word : Loc (defScope s_moves_of) "word" := Or.inl (by decide +kernel)
theorem gl_moves_of_enumerate : (defScope s_moves_of).names.lookup ("enumerate" : Str) = some .globalImplicit := by decide +kernel

abbrev s_counts_ahead : Stmt := top 7
theorem sc_counts_ahead : FnScope ["counts", "moves", "fewer", "ahead", "room", "count"] ["counts", "moves"] (defScope s_counts_ahead) := ⟨rfl, rfl, rfl, by decide +kernel, rfl, by decide +kernel, by decide +kernel⟩
theorem v_counts_ahead_counts : Vis (defScope s_counts_ahead) "counts" := Or.inr (Or.inl (by decide +kernel))
theorem v_counts_ahead_moves : Vis (defScope s_counts_ahead) "moves" := Or.inl (by decide +kernel)
theorem v_counts_ahead_fewer : Vis (defScope s_counts_ahead) "fewer" := Or.inl (by decide +kernel)
theorem k_counts_ahead_fewer : (defScope s_counts_ahead).names.lookup ("fewer" : Str) = some .local := by decide +kernel
theorem v_counts_ahead_ahead : Vis (defScope s_counts_ahead) "ahead" := Or.inl (by decide +kernel)
theorem l_counts_ahead_ahead : Loc (defScope s_counts_ahead) "ahead" := Or.inl (by decide +kernel)
theorem v_counts_ahead_room : Vis (defScope s_counts_ahead) "room" := Or.inl (by decide +kernel)
theorem l_counts_ahead_room : Loc (defScope s_counts_ahead) "room" := Or.inl (by decide +kernel)
theorem v_counts_ahead_count : Vis (defScope s_counts_ahead) "count" := Or.inl (by decide +kernel)
theorem l_counts_ahead_count : Loc (defScope s_counts_ahead) "count" := Or.inl (by decide +kernel)
theorem gl_counts_ahead_len : (defScope s_counts_ahead).names.lookup ("len" : Str) = some .globalImplicit := by decide +kernel
theorem gl_counts_ahead_list : (defScope s_counts_ahead).names.lookup ("list" : Str) = some .globalImplicit := by decide +kernel

abbrev s_counts_by_place : Stmt := top 8
theorem sc_counts_by_place : FnScope ["rule", "row", "never", "moves", "last", "counts", "text"] ["rule", "row"] (defScope s_counts_by_place) := ⟨rfl, rfl, rfl, by decide +kernel, rfl, by decide +kernel, by decide +kernel⟩
theorem v_counts_by_place_rule : Vis (defScope s_counts_by_place) "rule" := Or.inr (Or.inl (by decide +kernel))
theorem v_counts_by_place_row : Vis (defScope s_counts_by_place) "row" := Or.inr (Or.inl (by decide +kernel))
theorem l_counts_by_place_never : Loc (defScope s_counts_by_place) "never" := Or.inr (by decide +kernel)
theorem v_counts_by_place_moves : Vis (defScope s_counts_by_place) "moves" := Or.inl (by decide +kernel)
theorem l_counts_by_place_moves : Loc (defScope s_counts_by_place) "moves" := Or.inl (by decide +kernel)
theorem v_counts_by_place_last : Vis (defScope s_counts_by_place) "last" := Or.inl (by decide +kernel)
theorem k_counts_by_place_last : (defScope s_counts_by_place).names.lookup ("last" : Str) = some .local := by decide +kernel
theorem v_counts_by_place_counts : Vis (defScope s_counts_by_place) "counts" := Or.inl (by decide +kernel)
theorem l_counts_by_place_counts : Loc (defScope s_counts_by_place) "counts" := Or.inl (by decide +kernel)
theorem v_counts_by_place_text : Vis (defScope s_counts_by_place) "text" := Or.inl (by decide +kernel)
theorem l_counts_by_place_text : Loc (defScope s_counts_by_place) "text" := Or.inl (by decide +kernel)
theorem gl_counts_by_place_counts_ahead : (defScope s_counts_by_place).names.lookup ("counts_ahead" : Str) = some .globalImplicit := by decide +kernel
theorem gl_counts_by_place_len : (defScope s_counts_by_place).names.lookup ("len" : Str) = some .globalImplicit := by decide +kernel
theorem gl_counts_by_place_list : (defScope s_counts_by_place).names.lookup ("list" : Str) = some .globalImplicit := by decide +kernel
theorem gl_counts_by_place_moves_of : (defScope s_counts_by_place).names.lookup ("moves_of" : Str) = some .globalImplicit := by decide +kernel
theorem gl_counts_by_place_range : (defScope s_counts_by_place).names.lookup ("range" : Str) = some .globalImplicit := by decide +kernel
theorem gl_counts_by_place_reversed : (defScope s_counts_by_place).names.lookup ("reversed" : Str) = some .globalImplicit := by decide +kernel

abbrev s_shortest_breach : Stmt := top 9
theorem sc_shortest_breach : FnScope ["rule", "row", "counts", "places", "room", "at", "way"] ["rule", "row"] (defScope s_shortest_breach) := ⟨rfl, rfl, rfl, by decide +kernel, rfl, by decide +kernel, by decide +kernel⟩
theorem v_shortest_breach_rule : Vis (defScope s_shortest_breach) "rule" := Or.inl (by decide +kernel)
theorem v_shortest_breach_row : Vis (defScope s_shortest_breach) "row" := Or.inl (by decide +kernel)
theorem v_shortest_breach_counts : Vis (defScope s_shortest_breach) "counts" := Or.inl (by decide +kernel)
theorem l_shortest_breach_counts : Loc (defScope s_shortest_breach) "counts" := Or.inl (by decide +kernel)
theorem v_shortest_breach_places : Vis (defScope s_shortest_breach) "places" := Or.inl (by decide +kernel)
theorem l_shortest_breach_places : Loc (defScope s_shortest_breach) "places" := Or.inl (by decide +kernel)
theorem v_shortest_breach_room : Vis (defScope s_shortest_breach) "room" := Or.inl (by decide +kernel)
theorem l_shortest_breach_room : Loc (defScope s_shortest_breach) "room" := Or.inl (by decide +kernel)
theorem v_shortest_breach_at : Vis (defScope s_shortest_breach) "at" := Or.inl (by decide +kernel)
theorem l_shortest_breach_at : Loc (defScope s_shortest_breach) "at" := Or.inl (by decide +kernel)
theorem v_shortest_breach_way : Vis (defScope s_shortest_breach) "way" := Or.inl (by decide +kernel)
theorem l_shortest_breach_way : Loc (defScope s_shortest_breach) "way" := Or.inl (by decide +kernel)
theorem gl_shortest_breach_breaks_with_last : (defScope s_shortest_breach).names.lookup ("breaks_with_last" : Str) = some .globalImplicit := by decide +kernel
theorem gl_shortest_breach_counts_by_place : (defScope s_shortest_breach).names.lookup ("counts_by_place" : Str) = some .globalImplicit := by decide +kernel
theorem gl_shortest_breach_len : (defScope s_shortest_breach).names.lookup ("len" : Str) = some .globalImplicit := by decide +kernel
theorem gl_shortest_breach_next_room : (defScope s_shortest_breach).names.lookup ("next_room" : Str) = some .globalImplicit := by decide +kernel
theorem gl_shortest_breach_range : (defScope s_shortest_breach).names.lookup ("range" : Str) = some .globalImplicit := by decide +kernel

abbrev s_law_cell_at : Stmt := top 11
theorem sc_law_cell_at : FnScope ["_law_script", "_law_k"] ["_law_script", "_law_k"] (defScope s_law_cell_at) := ⟨rfl, rfl, rfl, by decide +kernel, rfl, by decide +kernel, by decide +kernel⟩
theorem v_law_cell_at__law_script : Vis (defScope s_law_cell_at) "_law_script" := Or.inl (by decide +kernel)
theorem v_law_cell_at__law_k : Vis (defScope s_law_cell_at) "_law_k" := Or.inl (by decide +kernel)
theorem gl_law_cell_at_len : (defScope s_law_cell_at).names.lookup ("len" : Str) = some .globalImplicit := by decide +kernel

abbrev s_law_mixed : Stmt := top 12
theorem sc_law_mixed : FnScope ["_law_cell", "_law_k", "_law_number"] ["_law_cell", "_law_k"] (defScope s_law_mixed) := ⟨rfl, rfl, rfl, by decide +kernel, rfl, by decide +kernel, by decide +kernel⟩
theorem v_law_mixed__law_cell : Vis (defScope s_law_mixed) "_law_cell" := Or.inl (by decide +kernel)
theorem v_law_mixed__law_k : Vis (defScope s_law_mixed) "_law_k" := Or.inl (by decide +kernel)
theorem v_law_mixed__law_number : Vis (defScope s_law_mixed) "_law_number" := Or.inl (by decide +kernel)
theorem l_law_mixed__law_number : Loc (defScope s_law_mixed) "_law_number" := Or.inl (by decide +kernel)
abbrev s_law_words : Stmt := top 13
theorem sc_law_words : FnScope ["_law_cell", "_law_many", "_law_letters", "_law_size", "_law_at", "_law_words_here", "_law_k", "_law_word", "_law_j"] ["_law_cell", "_law_many"] (defScope s_law_words) := ⟨rfl, rfl, rfl, by decide +kernel, rfl, by decide +kernel, by decide +kernel⟩
theorem v_law_words__law_cell : Vis (defScope s_law_words) "_law_cell" := Or.inl (by decide +kernel)
theorem v_law_words__law_many : Vis (defScope s_law_words) "_law_many" := Or.inl (by decide +kernel)
theorem v_law_words__law_letters : Vis (defScope s_law_words) "_law_letters" := Or.inl (by decide +kernel)
theorem l_law_words__law_letters : Loc (defScope s_law_words) "_law_letters" := Or.inl (by decide +kernel)
theorem v_law_words__law_size : Vis (defScope s_law_words) "_law_size" := Or.inl (by decide +kernel)
theorem l_law_words__law_size : Loc (defScope s_law_words) "_law_size" := Or.inl (by decide +kernel)
theorem v_law_words__law_at : Vis (defScope s_law_words) "_law_at" := Or.inl (by decide +kernel)
theorem l_law_words__law_at : Loc (defScope s_law_words) "_law_at" := Or.inl (by decide +kernel)
theorem v_law_words__law_words_here : Vis (defScope s_law_words) "_law_words_here" := Or.inl (by decide +kernel)
theorem l_law_words__law_words_here : Loc (defScope s_law_words) "_law_words_here" := Or.inl (by decide +kernel)
theorem v_law_words__law_k : Vis (defScope s_law_words) "_law_k" := Or.inl (by decide +kernel)
theorem l_law_words__law_k : Loc (defScope s_law_words) "_law_k" := Or.inl (by decide +kernel)
theorem v_law_words__law_word : Vis (defScope s_law_words) "_law_word" := Or.inl (by decide +kernel)
theorem l_law_words__law_word : Loc (defScope s_law_words) "_law_word" := Or.inl (by decide +kernel)
theorem v_law_words__law_j : Vis (defScope s_law_words) "_law_j" := Or.inl (by decide +kernel)
theorem l_law_words__law_j : Loc (defScope s_law_words) "_law_j" := Or.inl (by decide +kernel)
theorem gl_law_words__law_mixed : (defScope s_law_words).names.lookup ("_law_mixed" : Str) = some .globalImplicit := by decide +kernel
theorem gl_law_words_int : (defScope s_law_words).names.lookup ("int" : Str) = some .globalImplicit := by decide +kernel
theorem gl_law_words_range : (defScope s_law_words).names.lookup ("range" : Str) = some .globalImplicit := by decide +kernel

abbrev s_law_whole : Stmt := top 14
theorem sc_law_whole : FnScope ["_law_found"] ["_law_found"] (defScope s_law_whole) := ⟨rfl, rfl, rfl, by decide +kernel, rfl, by decide +kernel, by decide +kernel⟩
theorem v_law_whole__law_found : Vis (defScope s_law_whole) "_law_found" := Or.inl (by decide +kernel)
theorem gl_law_whole_bool : (defScope s_law_whole).names.lookup ("bool" : Str) = some .globalImplicit := by decide +kernel
theorem gl_law_whole_int : (defScope s_law_whole).names.lookup ("int" : Str) = some .globalImplicit := by decide +kernel
theorem gl_law_whole_isinstance : (defScope s_law_whole).names.lookup ("isinstance" : Str) = some .globalImplicit := by decide +kernel

abbrev s_law_rule : Stmt := top 15
theorem sc_law_rule : FnScope ["_law_cell", "_law_words_here", "_law_sides", "_law_texts", "_law_many", "_law_rooms", "_law_room", "_law_row", "_law_j", "_law_number"] ["_law_cell", "_law_words_here"] (defScope s_law_rule) := ⟨rfl, rfl, rfl, by decide +kernel, rfl, by decide +kernel, by decide +kernel⟩
theorem v_law_rule__law_cell : Vis (defScope s_law_rule) "_law_cell" := Or.inr (Or.inl (by decide +kernel))
theorem v_law_rule__law_words_here : Vis (defScope s_law_rule) "_law_words_here" := Or.inr (Or.inl (by decide +kernel))
theorem v_law_rule__law_sides : Vis (defScope s_law_rule) "_law_sides" := Or.inl (by decide +kernel)
theorem l_law_rule__law_sides : Loc (defScope s_law_rule) "_law_sides" := Or.inl (by decide +kernel)
theorem v_law_rule__law_texts : Vis (defScope s_law_rule) "_law_texts" := Or.inr (Or.inl (by decide +kernel))
theorem l_law_rule__law_texts : Loc (defScope s_law_rule) "_law_texts" := Or.inr (by decide +kernel)
theorem v_law_rule__law_many : Vis (defScope s_law_rule) "_law_many" := Or.inl (by decide +kernel)
theorem l_law_rule__law_many : Loc (defScope s_law_rule) "_law_many" := Or.inl (by decide +kernel)
theorem v_law_rule__law_rooms : Vis (defScope s_law_rule) "_law_rooms" := Or.inl (by decide +kernel)
theorem l_law_rule__law_rooms : Loc (defScope s_law_rule) "_law_rooms" := Or.inl (by decide +kernel)
theorem v_law_rule__law_room : Vis (defScope s_law_rule) "_law_room" := Or.inl (by decide +kernel)
theorem l_law_rule__law_room : Loc (defScope s_law_rule) "_law_room" := Or.inl (by decide +kernel)
theorem v_law_rule__law_row : Vis (defScope s_law_rule) "_law_row" := Or.inl (by decide +kernel)
theorem l_law_rule__law_row : Loc (defScope s_law_rule) "_law_row" := Or.inl (by decide +kernel)
theorem v_law_rule__law_j : Vis (defScope s_law_rule) "_law_j" := Or.inl (by decide +kernel)
theorem l_law_rule__law_j : Loc (defScope s_law_rule) "_law_j" := Or.inl (by decide +kernel)
theorem v_law_rule__law_number : Vis (defScope s_law_rule) "_law_number" := Or.inl (by decide +kernel)
theorem l_law_rule__law_number : Loc (defScope s_law_rule) "_law_number" := Or.inl (by decide +kernel)
theorem gl_law_rule__law_mixed : (defScope s_law_rule).names.lookup ("_law_mixed" : Str) = some .globalImplicit := by decide +kernel
theorem gl_law_rule_len : (defScope s_law_rule).names.lookup ("len" : Str) = some .globalImplicit := by decide +kernel
theorem gl_law_rule_range : (defScope s_law_rule).names.lookup ("range" : Str) = some .globalImplicit := by decide +kernel
theorem gl_law_rule_sorted : (defScope s_law_rule).names.lookup ("sorted" : Str) = some .globalImplicit := by decide +kernel

abbrev s_law_breaking : Stmt := top 16
theorem sc_law_breaking : FnScope ["_law_rule_here", "_law_row", "_law_room", "_law_at", "_law_text"] ["_law_rule_here", "_law_row"] (defScope s_law_breaking) := ⟨rfl, rfl, rfl, by decide +kernel, rfl, by decide +kernel, by decide +kernel⟩
theorem v_law_breaking__law_rule_here : Vis (defScope s_law_breaking) "_law_rule_here" := Or.inl (by decide +kernel)
theorem v_law_breaking__law_row : Vis (defScope s_law_breaking) "_law_row" := Or.inl (by decide +kernel)
theorem v_law_breaking__law_room : Vis (defScope s_law_breaking) "_law_room" := Or.inl (by decide +kernel)
theorem l_law_breaking__law_room : Loc (defScope s_law_breaking) "_law_room" := Or.inl (by decide +kernel)
theorem v_law_breaking__law_at : Vis (defScope s_law_breaking) "_law_at" := Or.inl (by decide +kernel)
theorem l_law_breaking__law_at : Loc (defScope s_law_breaking) "_law_at" := Or.inl (by decide +kernel)
theorem v_law_breaking__law_text : Vis (defScope s_law_breaking) "_law_text" := Or.inl (by decide +kernel)
theorem l_law_breaking__law_text : Loc (defScope s_law_breaking) "_law_text" := Or.inl (by decide +kernel)
theorem gl_law_breaking_enumerate : (defScope s_law_breaking).names.lookup ("enumerate" : Str) = some .globalImplicit := by decide +kernel
theorem gl_law_breaking_len : (defScope s_law_breaking).names.lookup ("len" : Str) = some .globalImplicit := by decide +kernel

abbrev s_law : Stmt := top 17
theorem sc_law : FnScope ["_law_script", "_law_words_here", "_law_rule_here", "_law_texts", "_law_row", "_law_at", "_law_handed", "_law_found"] ["_law_script"] (defScope s_law) := ⟨rfl, rfl, rfl, by decide +kernel, rfl, by decide +kernel, by decide +kernel⟩
theorem v_law__law_script : Vis (defScope s_law) "_law_script" := Or.inl (by decide +kernel)
theorem v_law__law_words_here : Vis (defScope s_law) "_law_words_here" := Or.inl (by decide +kernel)
theorem l_law__law_words_here : Loc (defScope s_law) "_law_words_here" := Or.inl (by decide +kernel)
theorem v_law__law_rule_here : Vis (defScope s_law) "_law_rule_here" := Or.inl (by decide +kernel)
theorem l_law__law_rule_here : Loc (defScope s_law) "_law_rule_here" := Or.inl (by decide +kernel)
theorem v_law__law_texts : Vis (defScope s_law) "_law_texts" := Or.inr (Or.inl (by decide +kernel))
theorem l_law__law_texts : Loc (defScope s_law) "_law_texts" := Or.inr (by decide +kernel)
theorem v_law__law_row : Vis (defScope s_law) "_law_row" := Or.inl (by decide +kernel)
theorem k_law__law_row : (defScope s_law).names.lookup ("_law_row" : Str) = some .local := by decide +kernel
theorem v_law__law_at : Vis (defScope s_law) "_law_at" := Or.inl (by decide +kernel)
theorem l_law__law_at : Loc (defScope s_law) "_law_at" := Or.inl (by decide +kernel)
theorem v_law__law_handed : Vis (defScope s_law) "_law_handed" := Or.inl (by decide +kernel)
theorem l_law__law_handed : Loc (defScope s_law) "_law_handed" := Or.inl (by decide +kernel)
theorem v_law__law_found : Vis (defScope s_law) "_law_found" := Or.inl (by decide +kernel)
theorem l_law__law_found : Loc (defScope s_law) "_law_found" := Or.inl (by decide +kernel)
theorem gl_law__law_breaking : (defScope s_law).names.lookup ("_law_breaking" : Str) = some .globalImplicit := by decide +kernel
theorem gl_law__law_cell_at : (defScope s_law).names.lookup ("_law_cell_at" : Str) = some .globalImplicit := by decide +kernel
theorem gl_law__law_rule : (defScope s_law).names.lookup ("_law_rule" : Str) = some .globalImplicit := by decide +kernel
theorem gl_law__law_whole : (defScope s_law).names.lookup ("_law_whole" : Str) = some .globalImplicit := by decide +kernel
theorem gl_law__law_words : (defScope s_law).names.lookup ("_law_words" : Str) = some .globalImplicit := by decide +kernel
theorem gl_law_isinstance : (defScope s_law).names.lookup ("isinstance" : Str) = some .globalImplicit := by decide +kernel
theorem gl_law_len : (defScope s_law).names.lookup ("len" : Str) = some .globalImplicit := by decide +kernel
theorem gl_law_list : (defScope s_law).names.lookup ("list" : Str) = some .globalImplicit := by decide +kernel
theorem gl_law_shortest_breach : (defScope s_law).names.lookup ("shortest_breach" : Str) = some .globalImplicit := by decide +kernel

/-! ### what the law draws: cells, mixed numbers, words that differ at one place -/
abbrev letters : Str := "abcdefghijklmnopqrstuvwxyz"
def spLaw (K : PySem.W.Frag) : Sp := fun vs H Q _ => ∃ (a : Addr) (ns : List Int), vs = [.ref a] ∧ SqL K H a (ns.map V.int) ∧ ns.length ≤ 63 ∧ ∀ H', Q (.bl true) H'
def spCell (K : PySem.W.Frag) : Sp := fun vs H Q _ => ∃ (a : Addr) (ns : List Int) (k : Int), vs = [.ref a, .int k] ∧ SqL K H a (ns.map V.int) ∧ 0 ≤ k ∧ Q (.int (ns.getD k.toNat 0)) H
def mixF (c k : Int) : Int := ((c % 2147483647 + 7919 * k * k + k) * 48271 % 2147483647) * ((c % 2147483647 + 7919 * k * k + k) * 48271 % 2147483647) % 1000003
theorem mixF_bd (c k : Int) : 0 ≤ mixF c k ∧ mixF c k < 1000003 := by unfold mixF; omega
def spMix : Sp := fun vs H Q _ => ∃ (c k : Int), vs = [.int c, .int k] ∧ 0 ≤ k ∧ k ≤ 100000 ∧ Q (.int (mixF c k)) H
def wayV : Option Nat → V
  | none => .non
  | some n => .int n
theorem len_app1 (x : Str) (c : Nat) : (x ++ (⟨#[c]⟩ : Str)).length = x.length + 1 := by rw [Str.length_append]; rfl
def letF (z : Int) : Nat := letters.cps.toList.getD (z % 26).toNat 0
theorem letter_at (z : Int) : letters.length ≤ sizeLine ∧ atI letters.cps.toList (z % 26) = some (letF z) := by
  have hz : (z % 26).toNat < letters.cps.toList.length := by
    show (z % 26).toNat < 26
    omega
  refine ⟨by decide, ?_⟩
  have q := atI_nat (List.getElem?_eq_getElem hz)
  rw [show (((z % 26).toNat : Nat) : Int) = z % 26 by omega] at q
  rw [q]
  unfold letF
  rw [List.getD_eq_getElem?_getD, List.getElem?_eq_getElem hz]; rfl
theorem letF_inj {y z : Int} (h : letF y = letF z) : y % 26 = z % 26 := by
  have key : ∀ i j : Fin 26, letters.cps.toList.getD i.val 0 = letters.cps.toList.getD j.val 0 → i = j := by decide +kernel
  have := key ⟨(y % 26).toNat, by omega⟩ ⟨(z % 26).toNat, by omega⟩ h
  have := congrArg Fin.val this
  simp only [] at this
  omega
def spWordsN : Sp := fun vs H Q _ => ∃ (c : Int) (n : Nat), vs = [.int c, .int n] ∧ n ≤ 26 ∧ ∀ (p : Addr) (H' : Hp) (ss : List Str), Same H H' → H p = none → H' p = some (.lst (ss.map V.str)) → ss.length = n → (∀ x ∈ ss, x.length ≤ 8) → ss.Nodup → Q (.ref p) H'
section
variable {P : Program} {w : World} {K : PySem.W.Frag} {mg : Str → Option Value} {base : Heap}
theorem ok_cell (D : DefAt K mg "_law_cell_at" s_law_cell_at) (z_len : mg "len" = none) : Cal P w K mg base 1 "_law_cell_at" ["_law_script", "_law_k"] (spCell K) := by
  refine D.cal sc_law_cell_at (fun _ _ _ _ _ _ us hl => match us, hl with | [_, _], _ => rfl) (fun vs H Q E h => by obtain ⟨a, ns, k, rfl, _⟩ := h; rfl) (fun f cdv A outer s H vs Q E hr h => ?_)
  obtain ⟨a, ns, k, rfl, hS, h0, q⟩ := h
  refine ⟨_, (pss_cons (ps_if (pt_cmpR op_ltA (pv 1 (hv := v_law_cell_at__law_k)) (pe_blt (call_lenK K) z_len bt_len (pa_cons (pv 0 (hv := v_law_cell_at__law_script)) pa_nil) (hg := gl_law_cell_at_len)) (nomark _)) (pss_one (ps_ret (pe_ix (ix_K K) (pv 0 (hv := v_law_cell_at__law_script)) (pv 1 (hv := v_law_cell_at__law_k)) (fun _ _ => rfl)))) pss_nil)
      (pss_one (ps_ret pe_int))), ?_⟩
  walk_at "rd1"
  refine ⟨_, .inl hS, ite2 (fun c => ?_) (fun c => ?_)⟩
  · rw [List.length_map] at c
    refine ⟨_, .int (ns.getD k.toNat 0), .inl hS, at_map h0 ?_, q⟩
    rw [List.getD_eq_getElem?_getD, List.getElem?_eq_getElem (by omega)]; rfl
  · rw [List.length_map] at c
    have e : ns.getD k.toNat 0 = 0 := by
      rw [List.getD_eq_getElem?_getD, List.getElem?_eq_none (by omega)]; rfl
    walk_at "nx"
    rw [e] at q; exact q
theorem ok_mix (D : DefAt K mg "_law_mixed" s_law_mixed) : Cal P w K mg base 1 "_law_mixed" ["_law_cell", "_law_k"] spMix := by
  refine D.cal sc_law_mixed (fun _ _ _ _ _ _ us hl => match us, hl with | [_, _], _ => rfl) (fun vs H Q E h => by obtain ⟨c, k, rfl, _⟩ := h; rfl) (fun f cdv A outer s H vs Q E hr h => ?_)
  obtain ⟨c, k, rfl, k0, k1, q⟩ := h
  refine ⟨_, (pss_cons (ps_let 2 sc_law_mixed.nd (pe_op op_mod (pe_op op_mulB (pe_op op_addA (pe_op op_addA (pe_op op_mod (pv 0 (hv := v_law_mixed__law_cell)) pe_int) (pe_op op_mulB (pe_op op_mulB pe_int (pv 1 (hv := v_law_mixed__law_k))) (pv 1 (hv := v_law_mixed__law_k)))) (pv 1 (hv := v_law_mixed__law_k))) pe_int) pe_int) (hx := l_law_mixed__law_number))
      (pss_one (ps_ret (pe_op op_mod (pe_op op_mulB (pv 2 (hv := v_law_mixed__law_number)) (pv 2 (hv := v_law_mixed__law_number))) pe_int)))), ?_⟩
  walk_at "rd1"
  have hk : (0 : Int) ≤ 7919 * k ∧ 7919 * k ≤ 791900000 := by omega
  refine ⟨by decide, .inl ⟨by decide, by decide⟩, .inl ⟨by omega, by omega⟩, .inr ⟨by decide, by decide⟩, by decide, ?_⟩
  unfold mixF at q
  have b := Int.emod_nonneg ((c % 2147483647 + 7919 * k * k + k) * 48271) (show (2147483647 : Int) ≠ 0 by decide)
  have b' := Int.emod_lt_of_pos ((c % 2147483647 + 7919 * k * k + k) * 48271) (show (0 : Int) < 2147483647 by decide)
  walk_at "nx"
  exact ⟨.inl ⟨by omega, by omega⟩, by decide, q⟩
end
/-! ### a rule as data, and in the heap -/
structure Rl where
  s : Int
  ws : List Str
  rs : List (List (Option Nat))
structure RlOk (r : Rl) : Prop where
  s : r.s = 1 ∨ r.s = 2
  nw : r.ws.length ≤ 16
  n0 : 1 ≤ r.rs.length
  n1 : r.rs.length ≤ 60
  row : ∀ x ∈ r.rs, x.length = r.ws.length ∧ ∀ k, some k ∈ x → k < r.rs.length
  lw : ∀ w ∈ r.ws, w.length ≤ 10
def RoomsAs (H : Hp) (p : Addr) (rs : List (List (Option Nat))) (as : List Addr) : Prop :=
  H p = some (.lst (as.map V.ref)) ∧ as.length = rs.length ∧ ∀ (i : Nat) a x, as[i]? = some a → rs[i]? = some x → H a = some (.lst (x.map wayV))
def RuleAt (H : Hp) (p : Addr) (r : Rl) : Prop := ∃ pw pr as, H p = some (.tup [.int r.s, .ref pw, .ref pr]) ∧ H pw = some (.lst (r.ws.map V.str)) ∧ RoomsAs H pr r.rs as
theorem RoomsAs.mono {H H' : Hp} {p : Addr} {rs : List (List (Option Nat))} {as : List Addr} (sm : Same H H') (h : RoomsAs H p rs as) : RoomsAs H' p rs as := by
  obtain ⟨h1, h2, h3⟩ := h
  exact ⟨sm _ _ h1, h2, fun i a x e1 e2 => sm _ _ (h3 i a x e1 e2)⟩
theorem RuleAt.mono {H H' : Hp} {p : Addr} {r : Rl} (sm : Same H H') (h : RuleAt H p r) : RuleAt H' p r := by
  obtain ⟨pw, pr, as, h1, h2, h3⟩ := h
  exact ⟨pw, pr, as, sm _ _ h1, sm _ _ h2, h3.mono sm⟩
theorem flat_strs (ss : List Str) : (ss.map V.str).all flatV = true := by
  rw [List.all_eq_true]; intro x hx; obtain ⟨s, _, rfl⟩ := List.mem_map.mp hx; rfl
theorem inV_str (y : Str) (ss : List Str) : inV (.str y) (ss.map V.str) = decide (y ∈ ss) := by
  rw [Bool.eq_iff_iff]
  unfold inV
  rw [List.any_eq_true, decide_eq_true_eq]
  constructor
  · rintro ⟨x, hx, e⟩
    obtain ⟨s, hs, rfl⟩ := List.mem_map.mp hx
    have e' : (s == y) = true := e
    rw [← eq_of_beq e']; exact hs
  · intro h
    exact ⟨.str y, List.mem_map.mpr ⟨y, h, rfl⟩, by show (y == y) = true; simp⟩
def cutS {α : Type} (xs : List α) (lo hi : Option Int) : List α := (xs.drop (HT.sIx xs.length 0 lo)).take (HT.sIx xs.length xs.length hi - HT.sIx xs.length 0 lo)
theorem cut_map {α : Type} (f : α → V) (xs : List α) (lo hi : Option Int) : cutV (xs.map f) lo hi = (cutS xs lo hi).map f := by
  unfold cutV cutS
  rw [List.length_map, List.map_take, List.map_drop]
theorem cutS_len {α : Type} (xs : List α) (lo hi : Option Int) : (cutS xs lo hi).length ≤ xs.length := by
  unfold cutS
  rw [List.length_take, List.length_drop]
  omega
theorem strs_flat (x : List Str) : ∀ v ∈ x.map V.str, flatV v = true := by
  intro v hv
  obtain ⟨o, _, rfl⟩ := List.mem_map.mp hv
  rfl
section
variable {P : Program} {w : World} {K : PySem.W.Frag} {mg : Str → Option Value} {base : Heap}
/-! ### where a row leads -/
def step (r : Rl) (k : Nat) (y : Str) : Option Nat := if y ∈ r.ws then (r.rs.getD k []).getD (r.ws.idxOf y) none else some k
def after (r : Rl) : Nat → List Str → Option Nat
  | k, [] => some k
  | k, y :: ys => match step r k y with
    | none => none
    | some k' => after r k' ys
theorem step_lt {r : Rl} {k j : Nat} {y : Str} (ok : RlOk r) (hk : k < r.rs.length) (h : step r k y = some j) : j < r.rs.length := by
  unfold step at h
  by_cases hy : y ∈ r.ws
  · rw [if_pos hy, List.getD_eq_getElem?_getD (l := r.rs), List.getElem?_eq_getElem hk] at h
    have hx := ok.row r.rs[k] (List.getElem_mem hk)
    have hj : r.ws.idxOf y < (r.rs[k]).length := by rw [hx.1]; exact List.idxOf_lt_length_iff.mpr hy
    have h' : (r.rs[k]).getD (r.ws.idxOf y) none = some j := h
    rw [List.getD_eq_getElem?_getD, List.getElem?_eq_getElem hj] at h'
    have h'' : (r.rs[k])[r.ws.idxOf y] = some j := h'
    exact hx.2 j (h'' ▸ List.getElem_mem hj)
  · rw [if_neg hy] at h
    cases h; exact hk
def spNext : Sp := fun vs H Q _ => ∃ (p : Addr) (r : Rl) (k : Nat) (y : Str), vs = [.ref p, .int k, .str y] ∧ RuleAt H p r ∧ RlOk r ∧ k < r.rs.length ∧ Q (wayV (step r k y)) H
def spAfter (K : PySem.W.Frag) : Sp := fun vs H Q _ => ∃ (p b : Addr) (r : Rl) (ys : List Str), vs = [.ref p, .ref b] ∧ RuleAt H p r ∧ RlOk r ∧ SqL K H b (ys.map V.str) ∧ Q (wayV (after r 0 ys)) H
def spFrom (K : PySem.W.Frag) : Sp := fun vs H Q _ => ∃ (p b : Addr) (r : Rl) (j : Nat) (ys : List Str), vs = [.ref p, .int j, .ref b] ∧ RuleAt H p r ∧ RlOk r ∧ j < r.rs.length ∧ SqL K H b (ys.map V.str) ∧ Q (wayV (after r j ys)) H
theorem way_val {r : Rl} {k : Nat} {y : Str} {x : List (Option Nat)} (ok : RlOk r) (hx : r.rs[k]? = some x) (hy : y ∈ r.ws) : (x.map wayV)[r.ws.idxOf y]? = some (wayV (step r k y)) := by
  have hj : r.ws.idxOf y < x.length := by rw [(ok.row x (List.mem_of_getElem? hx)).1]; exact List.idxOf_lt_length_iff.mpr hy
  rw [List.getElem?_map, List.getElem?_eq_getElem hj]
  show some (wayV x[r.ws.idxOf y]) = _
  unfold step
  rw [if_pos hy, List.getD_eq_getElem?_getD (l := r.rs), hx]
  show _ = some (wayV (x.getD (r.ws.idxOf y) none))
  rw [List.getD_eq_getElem?_getD, List.getElem?_eq_getElem hj]; rfl
theorem ok_next (D : DefAt K mg "next_room" s_next_room) : Cal P w K mg base 1 "next_room" ["rule", "room", "text"] spNext := by
  refine D.cal sc_next_room (fun _ _ _ _ _ _ us hl => match us, hl with | [_, _, _], _ => rfl) (fun vs H Q E h => by obtain ⟨p, r, k, y, rfl, _⟩ := h; rfl) (fun f cdv A outer s H vs Q E hr h => ?_)
  obtain ⟨p, r, k, y, rfl, hR, ok, hk, q⟩ := h
  obtain ⟨pw, pr, as, h1, h2, h3, h4, h5⟩ := hR
  refine ⟨_, (pss_cons (ps_let 3 sc_next_room.nd (pe_ix (ix_K K) (pv 0 (hv := v_next_room_rule)) pe_int (fun _ _ => rfl)) (hx := l_next_room_words))
      (pss_cons (ps_if (pt_cmpR (op_notInK K) (pv 2 (hv := v_next_room_text)) (pv 3 (hv := v_next_room_words)) (by with_unfolding_all rfl)) (pss_one (ps_ret (pv 1 (hv := v_next_room_room)))) pss_nil)
      (pss_one (ps_ret (pe_ix (ix_K K) (pe_ix (ix_K K) (pe_ix (ix_K K) (pv 0 (hv := v_next_room_rule)) pe_int (fun _ _ => rfl)) (pv 1 (hv := v_next_room_room)) (fun _ _ => rfl)) (pe_bmK K PySem.F.plainAttrs_list PySem.F.slot_list_index PySem.F.type_list_index (mt_indexS K) (pv 3 (hv := v_next_room_words)) (pa_cons (pv 2 (hv := v_next_room_text)) pa_nil)) (fun _ _ => rfl)))))), ?_⟩
  walk_at "rd1"
  refine ⟨_, _, .inr (SqT.of h1), rfl, ?_⟩
  walk_at "nx"
  refine ⟨_, .inl (SqL.of h2), rfl, flat_strs _, ?_⟩
  rw [inV_str]
  refine ite2 (fun c => ?_) (fun c => ?_)
  · have hy : y ∉ r.ws := by simpa using c
    have e : step r k y = some k := by unfold step; rw [if_neg hy]
    rw [e] at q; exact q
  · have hy : y ∈ r.ws := by simpa using c
    obtain ⟨b, hb⟩ : ∃ b, as[k]? = some b := ⟨as[k], List.getElem?_eq_getElem (by omega)⟩
    obtain ⟨x, hx⟩ : ∃ x, r.rs[k]? = some x := ⟨_, List.getElem?_eq_getElem hk⟩
    walk_at "nx"
    refine ⟨_, _, .inr (SqT.of h1), rfl, ?_⟩
    walk_at "rd1"
    refine ⟨_, _, .inl (SqL.of h3), (at_map (by omega) (by simpa using hb)), ?_⟩
    walk_at "rd1"
    refine ⟨⟨_, SqL.of h2⟩, _, SqL.of h2, hy, ?_⟩
    exact ⟨_, _, .inl (SqL.of (h5 k b x hb hx)), (atI_nat (way_val ok hx hy)), q⟩
theorem after_drop {r : Rl} {k i : Nat} {ys : List Str} {y : Str} (h : ys[i]? = some y) : after r k (ys.drop i) = match step r k y with
    | none => none
    | some k' => after r k' (ys.drop (i + 1)) := by
  have hi := (List.getElem?_eq_some_iff.mp h)
  obtain ⟨hi, e⟩ := hi
  rw [List.drop_eq_getElem_cons hi, e]
  rfl
theorem ok_room_from (D : DefAt K mg "room_from" s_room_from) (c_next_room : Cal P w K mg base 1 "next_room" ["rule", "room", "text"] spNext) : Cal P w K mg base 2 "room_from" ["rule", "room", "row"] (spFrom K) := by
  refine D.cal sc_room_from (fun _ _ _ _ _ _ us hl => match us, hl with | [_, _, _], _ => rfl) (fun vs H Q E h => by obtain ⟨p, b, r, j, ys, rfl, _⟩ := h; rfl) (fun f cdv A outer s H vs Q E hr h => ?_)
  obtain ⟨p, b, r, j, ys, rfl, hR, ok, hj, hb, q⟩ := h
  refine ⟨_, (pss_cons (ps_for PassesOwn.never rfl (pi_listK K (pv 2 (hv := v_room_from_row))) (pg_let 3 sc_room_from.nd (hx := l_room_from_text)) (pss_cons (ps_let 1 sc_room_from.nd (pe_cal c_next_room hr (pa_cons (pv 0 (hv := v_room_from_rule)) (pa_cons (pv 1 (hv := v_room_from_room)) (pa_cons (pv 3 (hv := v_room_from_text)) pa_nil))) (hg := gl_room_from_next_room)) (hx := l_room_from_room))
      (pss_one (ps_if (pt_cmpR op_isNA (pv 1 (hv := v_room_from_room)) pe_non (nomark _)) (pss_one (ps_ret pe_non)) pss_nil))))
      (pss_one (ps_ret (pv 1 (hv := v_room_from_room))))), ?_⟩
  walk_at "rd1"
  refine ⟨⟨_, hb⟩, ?_⟩
  refine forW_list (xs := ys.map V.str) (fun i σ H' => ∃ (k : Nat) (o : Option V), σ = [some (.ref p), some (.int k), some (.ref b), o] ∧ H = H' ∧ k < r.rs.length ∧ after r j ys = after r k (ys.drop i)) ⟨j, none, rfl, rfl, hj, rfl⟩ (fun i σ H' _ h => by obtain ⟨_, _, _, rfl, _⟩ := h; exact hb) ?_ ?_
  · rintro i x σ H' hx ⟨k, o, rfl, rfl, hk, e⟩
    rw [List.getElem?_map] at hx
    cases qy : ys[i]? with
    | none => rw [qy] at hx; cases hx
    | some y =>
      rw [qy] at hx; cases hx
      rw [after_drop qy] at e
      walk_at "rd1"
      refine ⟨p, r, k, y, rfl, hR, ok, hk, ?_⟩
      cases hst : step r k y with
      | none =>
        rw [hst] at e
        walk_at "nx"
        refine ite2 (fun c => ?_) (fun c => ?_)
        · rw [e] at q; exact q
        · exact absurd rfl c
      | some k' =>
        rw [hst] at e
        have hk' := step_lt ok hk hst
        walk_at "nx"
        refine ite2 (fun c => ?_) (fun c => ?_)
        · cases c
        · exact ⟨k', _, rfl, hk', e⟩
  · rintro σ H' ⟨k, o, rfl, rfl, hk, e⟩
    rw [List.length_map, List.drop_length] at e
    walk_at "nx"
    have e' : after r j ys = some k := e
    rw [e'] at q; exact q
theorem ok_room_after (D : DefAt K mg "room_after" s_room_after) (c_room_from : Cal P w K mg base 2 "room_from" ["rule", "room", "row"] (spFrom K)) : Cal P w K mg base 3 "room_after" ["rule", "row"] (spAfter K) := by
  refine D.cal sc_room_after (fun _ _ _ _ _ _ us hl => match us, hl with | [_, _], _ => rfl) (fun vs H Q E h => by obtain ⟨p, b, r, ys, rfl, _⟩ := h; rfl) (fun f cdv A outer s H vs Q E hr h => ?_)
  obtain ⟨p, b, r, ys, rfl, hR, ok, hb, q⟩ := h
  refine ⟨_, (pss_one (ps_ret (pe_cal c_room_from hr (pa_cons (pv 0 (hv := v_room_after_rule)) (pa_cons pe_int (pa_cons (pv 1 (hv := v_room_after_row)) pa_nil))) (hg := gl_room_after_room_from)))), ?_⟩
  walk_at "rd1"
  exact ⟨p, b, r, 0, ys, rfl, hR, ok, ok.n0, hb, q⟩
theorem ok_words (D : DefAt K mg "_law_words" s_law_words) (z_range : mg "range" = none) (z_int : mg "int" = none) (c_law_mixed : Cal P w K mg base 1 "_law_mixed" ["_law_cell", "_law_k"] spMix) : Cal P w K mg base 2 "_law_words" ["_law_cell", "_law_many"] spWordsN := by
  refine D.cal sc_law_words (fun _ _ _ _ _ _ us hl => match us, hl with | [_, _], _ => rfl) (fun vs H Q E h => by obtain ⟨c, n, rfl, _⟩ := h; rfl) (fun f cdv A outer s H vs Q E hr h => ?_)
  obtain ⟨c, n, rfl, hn, q⟩ := h
  refine ⟨_, (pss_cons (ps_let 2 sc_law_words.nd pe_str (hx := l_law_words__law_letters))
      (pss_cons (ps_let 3 sc_law_words.nd (pe_op op_addA pe_int (pe_op op_mod (pv 0 (hv := v_law_words__law_cell)) pe_int)) (hx := l_law_words__law_size))
      (pss_cons (ps_let 4 sc_law_words.nd (pe_op op_mod (pe_op op_fdiv (pv 0 (hv := v_law_words__law_cell)) pe_int) (pv 3 (hv := v_law_words__law_size))) (hx := l_law_words__law_at))
      (pss_cons (ps_let 5 sc_law_words.nd (pe_lst pa_nil) (hx := l_law_words__law_words_here))
      (pss_cons (ps_for PassesOwn.never rfl (pi_range1 gl_law_words_range z_range (pa_cons (pv 1 (hv := v_law_words__law_many)) pa_nil)) (pg_let 6 sc_law_words.nd (hx := l_law_words__law_k)) (pss_cons (ps_let 7 sc_law_words.nd pe_str (hx := l_law_words__law_word))
      (pss_cons (ps_for PassesOwn.never rfl (pi_range1 gl_law_words_range z_range (pa_cons (pv 3 (hv := v_law_words__law_size)) pa_nil)) (pg_let 8 sc_law_words.nd (hx := l_law_words__law_j)) (pss_one (ps_let 7 sc_law_words.nd (pe_op op_addA (pv 7 (hv := v_law_words__law_word)) (pe_ix (ix_K K) (pv 2 (hv := v_law_words__law_letters)) (pe_op op_mod (pe_op op_addA (pe_cal c_law_mixed hr (pa_cons (pv 0 (hv := v_law_words__law_cell)) (pa_cons (pv 8 (hv := v_law_words__law_j)) pa_nil)) (hg := gl_law_words__law_mixed)) (pe_op op_mulB (pe_op op_mulB pe_int (pv 6 (hv := v_law_words__law_k))) (pe_bty call_intA z_int bt_int (pa_cons (pe_cmpR op_eqA (pv 8 (hv := v_law_words__law_j)) (pv 4 (hv := v_law_words__law_at)) (nomark _)) pa_nil) (hg := gl_law_words_int)))) pe_int) (fun _ _ => rfl))) (hx := l_law_words__law_word))))
      (pss_one (ps_expr (pe_bmK K PySem.F.plainAttrs_list PySem.F.slot_list_append PySem.F.type_list_append mt_appendA (pv 5 (hv := v_law_words__law_words_here)) (pa_cons (pv 7 (hv := v_law_words__law_word)) pa_nil)))))))
      (pss_one (ps_ret (pv 5 (hv := v_law_words__law_words_here))))))))), ?_⟩
  walk_at "rd1"
  walk_at "nx"
  refine ⟨by decide, ?_⟩
  have hsz0 : ∃ z : Nat, 1 + c % 8 = (z : Int) ∧ 1 ≤ z ∧ z ≤ 8 := ⟨(1 + c % 8).toNat, by omega, by omega, by omega⟩
  obtain ⟨sz, esz, sz0, sz1⟩ := hsz0
  rw [esz]
  walk_at "nx"
  refine ⟨⟨by decide, by decide⟩, by omega, ?_⟩
  have hat0 : ∃ z : Nat, c / 8 % (sz : Int) = (z : Int) ∧ z < sz := ⟨(c / 8 % (sz : Int)).toNat, by have := Int.emod_nonneg (c / 8) (show (sz : Int) ≠ 0 by omega); omega, by have := Int.emod_lt_of_pos (c / 8) (show (0 : Int) < sz by omega); have := Int.emod_nonneg (c / 8) (show (sz : Int) ≠ 0 by omega); omega⟩
  obtain ⟨at', eat, hat⟩ := hat0
  rw [eat]
  walk_at "nx"
  refine ⟨by decide, fun p hp => ?_⟩
  generalize hH1 : upd H p _ = H1
  have sm1 := al_same hH1 hp
  have e1 := al_at hH1
  walk_at "nx"
  refine ⟨by omega, by omega, ?_⟩
  refine forW_range (fun i σ H' => ∃ (ss : List Str) (o6 o7 o8 : Option V), σ = [some (.int c), some (.int n), some (.str letters), some (.int sz), some (.int at'), some (.ref p), o6, o7, o8] ∧ Same H H' ∧ H' p = some (.lst (ss.map V.str)) ∧ ss.length = i ∧ (∀ x ∈ ss, x.length ≤ 8) ∧ ∀ (k : Nat) x, ss[k]? = some x → x.cps.toList[at']? = some (letF (mixF c at' + 5 * k * 1)))
    ⟨[], none, none, none, rfl, sm1, e1, rfl, by simp, by simp⟩ ?_ ?_
  · rintro i σ H' hi ⟨ss, o6, o7, o8, rfl, sm, hl, hsn, hsl, hsk⟩
    rw [Int.toNat_natCast] at hi
    walk_at "rd1"
    walk_at "nx"
    refine ⟨by omega, by omega, ?_⟩
    refine forW_range (fun j σ H2 => ∃ (x : Str) (o8 : Option V), σ = [some (.int c), some (.int n), some (.str letters), some (.int sz), some (.int at'), some (.ref p), some (.int (0 + (i : Int))), some (.str x), o8] ∧ H' = H2 ∧ x.length = j ∧ (at' < j → x.cps.toList[at']? = some (letF (mixF c at' + 5 * i * 1))))
      ⟨_, _, rfl, rfl, rfl, fun h => absurd h (by omega)⟩ ?_ ?_
    · rintro j σ H2 hj ⟨x, o8, rfl, rfl, hx, hxa⟩
      rw [Int.toNat_natCast] at hj
      walk_at "rd1"
      refine ⟨c, 0 + (j : Int), rfl, by omega, by omega, ?_⟩
      walk_at "rd1"
      obtain ⟨l1, l2⟩ := letter_at (mixF c (0 + (j : Int)) + 5 * (0 + (i : Int)) * if 0 + (j : Int) = (at' : Int) then 1 else 0)
      refine ⟨.inl ⟨by decide, by decide⟩, .inl ⟨by omega, by omega⟩, by decide, _, l1, l2, ?_, x ++ ⟨#[letF (mixF c (0 + (j : Int)) + 5 * (0 + (i : Int)) * if 0 + (j : Int) = (at' : Int) then 1 else 0)]⟩, _, rfl, ?_, fun hlt => ?_⟩
      · show x.length + 1 ≤ sizeLine
        exact smallL (by omega)
      · rw [len_app1, hx]
      · have hxl : x.cps.toList.length = j := by rw [Array.length_toList]; exact hx
        rw [cps_app]
        rcases Nat.lt_or_ge at' j with g | g
        · rw [List.getElem?_append_left (by omega)]; exact hxa g
        · have e : at' = j := by omega
          subst e
          rw [List.getElem?_append_right (by omega), hxl, Nat.sub_self, if_pos (by omega), Int.zero_add, Int.zero_add]; rfl
    · rintro σ H2 ⟨x, o8, rfl, rfl, hx, hxa⟩
      rw [Int.toNat_natCast] at hx hxa
      walk_at "nx"
      refine ⟨⟨_, SqL.of hl⟩, _, hl, by rw [List.length_map]; exact small' (by omega), ?_⟩
      refine ⟨ss ++ [x], _, _, _, rfl, sm.upd hp _, by rw [upd_same, List.map_append]; rfl, by simp [hsn], fun y hy => ?_, fun k y e => ?_⟩
      · rcases List.mem_append.mp hy with z | z
        · exact hsl y z
        · rw [List.mem_singleton.mp z]; omega
      · rcases Nat.lt_or_ge k ss.length with z | z
        · rw [List.getElem?_append_left z] at e; exact hsk k y e
        · rw [List.getElem?_append_right z] at e
          have hk : k - ss.length = 0 := by
            have := (List.getElem?_eq_some_iff.mp e).1
            simp at this; omega
          rw [hk] at e
          have e' : x = y := by simpa using e
          subst e'
          rw [show k = i by omega]
          exact hxa hat
  · rintro σ H' ⟨ss, o6, o7, o8, rfl, sm, hl, hsn, hsl, hsk⟩
    rw [Int.toNat_natCast] at hsn
    walk_at "nx"
    refine q p H' ss sm hp hl hsn hsl ?_
    rw [List.nodup_iff_pairwise_ne, List.pairwise_iff_getElem]
    intro a b ha hb hab e
    have h1 := hsk a _ (List.getElem?_eq_getElem ha)
    have h2 := hsk b _ (List.getElem?_eq_getElem hb)
    rw [e, h2] at h1
    have h3 := letF_inj (Option.some.inj h1)
    omega
/-! ### shortest breaches, as numbers: the moves of a word, the counts by rooms and places -/
def mvsTo (rs : List (List (Option Nat))) (j n : Nat) : List (Nat × Nat) := (List.range n).filterMap fun k => ((rs.getD k []).getD j none).map fun w => (k, w)
def mov (r : Rl) (y : Str) : List (Nat × Nat) := if y ∈ r.ws then mvsTo r.rs (r.ws.idxOf y) r.rs.length else []
def few1 (cs : List Nat) (p : Nat × Nat) : Option (Nat × Nat) := if cs.getD p.2 0 + 1 < cs.getD p.1 0 then some (p.1, cs.getD p.2 0 + 1) else none
def setAll (cs : List Nat) (fs : List (Nat × Nat)) : List Nat := fs.foldl (fun a p => a.set p.1 p.2) cs
def ahd (cs : List Nat) (ps : List (Nat × Nat)) : List Nat := setAll cs (ps.filterMap (few1 cs))
def lastC (r : Rl) (nv : Nat) (z : Str) : List Nat := (List.range r.rs.length).map fun k => if step r k z = none then 1 else nv
/-- the counts ahead of the texts ys, the last one being z -/
def cts (r : Rl) (nv : Nat) (z : Str) : List Str → List Nat
  | [] => lastC r nv z
  | y :: ys => ahd (cts r nv z ys) (mov r y)
def cnt (r : Rl) (nv : Nat) (z : Str) : List Str → Nat → Nat
  | [], k => if step r k z = none then 1 else nv
  | y :: ys, k => match step r k y with
    | none => cnt r nv z ys k
    | some w => min (cnt r nv z ys k) (cnt r nv z ys w + 1)
/-- the places gone to, from the place at on -/
def gre (r : Rl) (nv : Nat) (z : Str) : List Str → Nat → Nat → List Nat
  | [], at', _ => []
  | y :: ys, at', k => match step r k y with
    | none => gre r nv z ys (at' + 1) k
    | some w => if cnt r nv z ys w < cnt r nv z (y :: ys) k then at' :: gre r nv z ys (at' + 1) w else gre r nv z ys (at' + 1) k
def shortL (r : Rl) (ys : List Str) (z : Str) : List Nat := gre r (ys.length + 2) z ys 0 0 ++ [ys.length]
theorem setAll_len : ∀ (fs : List (Nat × Nat)) (cs : List Nat), (setAll cs fs).length = cs.length
  | [], cs => rfl
  | p :: fs, cs => by
    show (setAll (cs.set p.1 p.2) fs).length = _
    rw [setAll_len fs, List.length_set]
theorem setAll_out : ∀ (fs : List (Nat × Nat)) (cs : List Nat) (k : Nat), k ∉ fs.map Prod.fst → (setAll cs fs).getD k 0 = cs.getD k 0
  | [], cs, k, _ => rfl
  | p :: fs, cs, k, h => by
    rw [List.map_cons, List.mem_cons, not_or] at h
    show (setAll (cs.set p.1 p.2) fs).getD k 0 = _
    rw [setAll_out fs _ k h.2, List.getD_eq_getElem?_getD, List.getElem?_set_ne (Ne.symm h.1), ← List.getD_eq_getElem?_getD]
theorem setAll_in : ∀ (fs : List (Nat × Nat)) (cs : List Nat) (k c : Nat), (fs.map Prod.fst).Nodup → (k, c) ∈ fs → k < cs.length → (setAll cs fs).getD k 0 = c
  | p :: fs, cs, k, c, nd, h, hk => by
    rw [List.map_cons, List.nodup_cons] at nd
    show (setAll (cs.set p.1 p.2) fs).getD k 0 = _
    rcases List.mem_cons.mp h with e | e
    · subst e
      rw [setAll_out fs _ k nd.1, List.getD_eq_getElem?_getD, List.getElem?_set_self hk]; rfl
    · exact setAll_in fs _ k c nd.2 e (by rw [List.length_set]; exact hk)
theorem few_fst (cs : List Nat) : ∀ (ps : List (Nat × Nat)) (k : Nat), k ∈ (ps.filterMap (few1 cs)).map Prod.fst → k ∈ ps.map Prod.fst := by
  intro ps k h
  obtain ⟨q, hq, e⟩ := List.mem_map.mp h
  obtain ⟨p, hp, e2⟩ := List.mem_filterMap.mp hq
  unfold few1 at e2
  split at e2
  · cases e2
    exact List.mem_map.mpr ⟨p, hp, e⟩
  · cases e2
theorem few_nd (cs : List Nat) : ∀ (ps : List (Nat × Nat)), (ps.map Prod.fst).Nodup → ((ps.filterMap (few1 cs)).map Prod.fst).Nodup
  | [], _ => List.nodup_nil
  | p :: ps, h => by
    rw [List.map_cons, List.nodup_cons] at h
    have ih := few_nd cs ps h.2
    rw [List.filterMap_cons]
    cases e : few1 cs p with
    | none => exact ih
    | some q =>
      have eq : q.1 = p.1 := by
        unfold few1 at e
        split at e
        · cases e; rfl
        · cases e
      show (q.1 :: (ps.filterMap (few1 cs)).map Prod.fst).Nodup
      rw [List.nodup_cons, eq]
      exact ⟨fun hm => h.1 (few_fst cs ps _ hm), ih⟩
theorem ahd_len (cs : List Nat) (ps : List (Nat × Nat)) : (ahd cs ps).length = cs.length := setAll_len _ _
theorem ahd_out {cs : List Nat} {ps : List (Nat × Nat)} {k : Nat} (h : k ∉ ps.map Prod.fst) : (ahd cs ps).getD k 0 = cs.getD k 0 := setAll_out _ _ _ fun hm => h (few_fst cs ps k hm)
theorem ahd_in {cs : List Nat} {ps : List (Nat × Nat)} {k w : Nat} (nd : (ps.map Prod.fst).Nodup) (h : (k, w) ∈ ps) (hk : k < cs.length) : (ahd cs ps).getD k 0 = min (cs.getD k 0) (cs.getD w 0 + 1) := by
  by_cases c : cs.getD w 0 + 1 < cs.getD k 0
  · have e : few1 cs (k, w) = some (k, cs.getD w 0 + 1) := by unfold few1; rw [if_pos c]
    rw [show (ahd cs ps).getD k 0 = cs.getD w 0 + 1 from setAll_in _ _ _ _ (few_nd cs ps nd) (List.mem_filterMap.mpr ⟨_, h, e⟩) hk]
    omega
  · have hn : k ∉ (ps.filterMap (few1 cs)).map Prod.fst := by
      intro hm
      obtain ⟨q, hq, e⟩ := List.mem_map.mp hm
      obtain ⟨p, hp, e2⟩ := List.mem_filterMap.mp hq
      have e3 : p.1 = k := by
        unfold few1 at e2
        split at e2
        · cases e2; exact e
        · cases e2
      have e4 : p = (k, w) := by
        clear hm hq e2 e
        induction ps with
        | nil => cases hp
        | cons x ps ih =>
          rw [List.map_cons, List.nodup_cons] at nd
          rcases List.mem_cons.mp hp with e | e <;> rcases List.mem_cons.mp h with e' | e'
          · rw [e, e']
          · exact absurd (List.mem_map.mpr ⟨_, e', by rw [← e]; exact e3.symm⟩) nd.1
          · exact absurd (List.mem_map.mpr ⟨_, e, by rw [← e']; exact e3⟩) nd.1
          · exact ih nd.2 e' e
      rw [e4] at e2
      unfold few1 at e2
      rw [if_neg c] at e2; cases e2
    rw [show (ahd cs ps).getD k 0 = cs.getD k 0 from setAll_out _ _ _ hn]
    omega
theorem mvs_mem {rs : List (List (Option Nat))} {j n k w : Nat} : (k, w) ∈ mvsTo rs j n ↔ k < n ∧ (rs.getD k []).getD j none = some w := by
  unfold mvsTo
  rw [List.mem_filterMap]
  constructor
  · rintro ⟨x, hx, e⟩
    obtain ⟨y, hy, e2⟩ := Option.map_eq_some_iff.mp e
    cases e2
    exact ⟨List.mem_range.mp hx, hy⟩
  · rintro ⟨h1, h2⟩
    exact ⟨k, List.mem_range.mpr h1, by rw [h2]; rfl⟩
theorem mvs_succ (rs : List (List (Option Nat))) (j n : Nat) : mvsTo rs j (n + 1) = mvsTo rs j n ++ (((rs.getD n []).getD j none).map fun w => (n, w)).toList := by
  unfold mvsTo
  rw [List.range_succ, List.filterMap_append]
  rw [List.filterMap_cons]
  cases h : (rs.getD n []).getD j none with
  | none => rfl
  | some w => rfl
theorem mvs_nd (rs : List (List (Option Nat))) (j : Nat) : ∀ n, ((mvsTo rs j n).map Prod.fst).Nodup
  | 0 => List.nodup_nil
  | n + 1 => by
    rw [mvs_succ, List.map_append, List.nodup_append]
    refine ⟨mvs_nd rs j n, ?_, fun a ha b hb => ?_⟩
    · cases (rs.getD n []).getD j none with
      | none => exact List.nodup_nil
      | some w => exact List.nodup_cons.mpr ⟨by simp, List.nodup_nil⟩
    · obtain ⟨⟨k, w⟩, hp, e⟩ := List.mem_map.mp ha
      have h1 := (mvs_mem.mp hp).1
      have e' : k = a := e
      subst e'
      cases h2 : (rs.getD n []).getD j none with
      | none => rw [h2] at hb; simp at hb
      | some w' =>
        rw [h2] at hb
        have hb' : b = n := by simpa using hb
        omega
theorem cts_len (r : Rl) (nv : Nat) (z : Str) : ∀ ys, (cts r nv z ys).length = r.rs.length
  | [] => by unfold cts lastC; rw [List.length_map, List.length_range]
  | y :: ys => by unfold cts; rw [ahd_len, cts_len r nv z ys]
theorem cts_at {r : Rl} {nv : Nat} {z : Str} (ok : RlOk r) : ∀ (ys : List Str) (k : Nat), k < r.rs.length → (cts r nv z ys).getD k 0 = cnt r nv z ys k
  | [], k, hk => by
    unfold cts lastC cnt
    rw [List.getD_eq_getElem?_getD, List.getElem?_map, List.getElem?_range hk]; rfl
  | y :: ys, k, hk => by
    have ih := cts_at (nv := nv) (z := z) ok ys
    have hl := cts_len r nv z ys
    show (ahd (cts r nv z ys) (mov r y)).getD k 0 = _
    unfold cnt
    by_cases hy : y ∈ r.ws
    · have em : mov r y = mvsTo r.rs (r.ws.idxOf y) r.rs.length := by unfold mov; rw [if_pos hy]
      have es : step r k y = (r.rs.getD k []).getD (r.ws.idxOf y) none := by unfold step; rw [if_pos hy]
      rw [em]
      cases h : step r k y with
      | none =>
        refine (ahd_out ?_).trans (ih k hk)
        intro hm
        obtain ⟨⟨k', w⟩, hp, e⟩ := List.mem_map.mp hm
        have e' : k' = k := e
        subst e'
        have := (mvs_mem.mp hp).2
        rw [← es, h] at this; cases this
      | some w =>
        have hw := step_lt ok hk h
        rw [ahd_in (mvs_nd _ _ _) (mvs_mem.mpr ⟨hk, es.symm.trans h⟩) (by rw [hl]; exact hk), ih k hk, ih w hw]
    · have em : mov r y = [] := by unfold mov; rw [if_neg hy]
      have es : step r k y = some k := by unfold step; rw [if_neg hy]
      rw [em, es]
      show (cts r nv z ys).getD k 0 = min _ _
      rw [ih k hk]; omega
/-- how far a row goes till it breaks -/
def brk (r : Rl) : Nat → List Str → Nat
  | _, [] => 0
  | k, y :: ys => match step r k y with
    | none => 0
    | some k' => brk r k' ys + 1
theorem brk_le (r : Rl) : ∀ (ys : List Str) (k : Nat), brk r k ys ≤ ys.length
  | [], _ => Nat.le_refl _
  | y :: ys, k => by
    unfold brk
    cases step r k y with
    | none => exact Nat.zero_le _
    | some k' => have := brk_le r ys k'; simp; omega
def endB (r : Rl) (k : Nat) (zs : List Str) (z : Str) : Bool := match after r k zs with
  | none => false
  | some j => (step r j z).isNone
theorem brk_snoc {r : Rl} {z : Str} : ∀ (zs : List Str) (k : Nat), endB r k zs z = decide (brk r k (zs ++ [z]) = zs.length)
  | [], k => by
    show (step r k z).isNone = decide (brk r k [z] = 0)
    unfold brk
    cases step r k z with
    | none => rfl
    | some j => rfl
  | y :: zs, k => by
    rw [List.cons_append]
    unfold endB after brk
    cases step r k y with
    | none => simp
    | some j =>
      have := brk_snoc (r := r) (z := z) zs j
      simp only [List.length_cons, Nat.add_right_cancel_iff]
      exact this
theorem brk_take (r : Rl) : ∀ (ys : List Str) (k : Nat), brk r k (ys.take (brk r k ys + 1)) = brk r k ys
  | [], k => rfl
  | y :: ys, k => by
    rw [List.take_succ_cons]
    cases hs : step r k y with
    | none =>
      have e : ∀ l, brk r k (y :: l) = 0 := fun l => by conv => lhs; unfold brk; rw [hs]
      rw [e, e]
    | some j =>
      have e : ∀ l, brk r k (y :: l) = brk r j l + 1 := fun l => by conv => lhs; unfold brk; rw [hs]
      rw [e, e, brk_take r ys j]
/-! ### the program's shortest breaches -/
abbrev nV (n : Nat) : V := .int (n : Int)
def PairsL (H : Hp) (ys : List V) (ps : List (Nat × Nat)) : Prop := ∃ ts : List Addr, ys = ts.map V.ref ∧ ts.length = ps.length ∧ ∀ (i : Nat) t p, ts[i]? = some t → ps[i]? = some p → H t = some (.tup [nV p.1, nV p.2])
def PairsAt (H : Hp) (b : Addr) (ps : List (Nat × Nat)) : Prop := ∃ ys, H b = some (.lst ys) ∧ PairsL H ys ps
theorem PairsL.mono {H H' : Hp} {ys : List V} {ps : List (Nat × Nat)} (k : ∀ t x y, H t = some (.tup [x, y]) → H' t = some (.tup [x, y])) (h : PairsL H ys ps) : PairsL H' ys ps := by
  obtain ⟨ts, e, hl, h⟩ := h
  exact ⟨ts, e, hl, fun i t p e1 e2 => k _ _ _ (h i t p e1 e2)⟩
theorem PairsL.nil {H : Hp} : PairsL H [] [] := ⟨[], rfl, rfl, by simp⟩
theorem PairsL.push {H : Hp} {ys : List V} {ps : List (Nat × Nat)} {t : Addr} {a b : Nat} (h : PairsL H ys ps) (ht : H t = some (.tup [nV a, nV b])) : PairsL H (ys ++ [.ref t]) (ps ++ [(a, b)]) := by
  obtain ⟨ts, e, hl, h⟩ := h
  refine ⟨ts ++ [t], by rw [e, List.map_append]; rfl, by simp [hl], fun i t' p e1 e2 => ?_⟩
  rcases Nat.lt_or_ge i ts.length with z | z
  · rw [List.getElem?_append_left z] at e1
    rw [List.getElem?_append_left (by omega)] at e2
    exact h i t' p e1 e2
  · rw [List.getElem?_append_right z] at e1
    rw [List.getElem?_append_right (by omega)] at e2
    have hj : i - ts.length = 0 := by
      have := (List.getElem?_eq_some_iff.mp e1).1
      simp at this; omega
    rw [hj] at e1
    rw [show i - ps.length = 0 by omega] at e2
    have e1' : t = t' := by simpa using e1
    have e2' : (a, b) = p := by simpa using e2
    subst e1' e2'; exact ht
theorem PairsAt.mono {H H' : Hp} {b : Addr} {ps : List (Nat × Nat)} (sm : Same H H') (h : PairsAt H b ps) : PairsAt H' b ps := by
  obtain ⟨ys, e, h⟩ := h
  exact ⟨ys, sm _ _ e, h.mono fun t x y z => sm _ _ z⟩
theorem keep_tup {H : Hp} {L : Addr} {ys zs : List V} (hl : H L = some (.lst ys)) : ∀ t x y, H t = some (.tup [x, y]) → upd H L (.lst zs) t = some (.tup [x, y]) := fun t x y e => by
  have n : t ≠ L := by rintro rfl; rw [hl] at e; cases e
  rw [upd_ne n]; exact e
theorem after_lt {r : Rl} (ok : RlOk r) : ∀ (ys : List Str) (k j : Nat), k < r.rs.length → after r k ys = some j → j < r.rs.length
  | [], k, j, hk, h => by cases h; exact hk
  | y :: ys, k, j, hk, h => by
    unfold after at h
    cases hs : step r k y with
    | none => rw [hs] at h; cases h
    | some w => rw [hs] at h; exact after_lt ok ys w j (step_lt ok hk hs) h
def brkL (r : Rl) (ys : List Str) : Bool := match ys.getLast? with
  | none => false
  | some z => match after r 0 ys.dropLast with
    | none => false
    | some k => (step r k z).isNone
theorem brkL_snoc (r : Rl) (zs : List Str) (z : Str) : brkL r (zs ++ [z]) = endB r 0 zs z := by
  unfold brkL endB
  rw [List.getLast?_concat, List.dropLast_concat]
theorem snoc_of {α : Type} {ys : List α} (h : ys ≠ []) : ∃ zs z, ys = zs ++ [z] := ⟨ys.dropLast, ys.getLast h, (List.dropLast_concat_getLast h).symm⟩
def spBreaks (K : PySem.W.Frag) : Sp := fun vs H Q _ => ∃ (p b : Addr) (r : Rl) (ys : List Str), vs = [.ref p, .ref b] ∧ RuleAt H p r ∧ RlOk r ∧ SqL K H b (ys.map V.str) ∧ ∀ H', Same H H' → Q (.bl (brkL r ys)) H'
theorem at_lastS {zs : List Str} {z : Str} : atI ((zs ++ [z]).map V.str) (-1) = some (.str z) := atI_end (by rw [List.length_map, List.getElem?_map]; simp)
theorem cut_initS {zs : List Str} {z : Str} : cutV ((zs ++ [z]).map V.str) none (some (-1)) = zs.map V.str := by
  rw [cutV_init, List.map_append]; exact List.dropLast_concat
theorem ok_breaks (D : DefAt K mg "breaks_with_last" s_breaks_with_last) (z_len : mg "len" = none) (c_next_room : Cal P w K mg base 1 "next_room" ["rule", "room", "text"] spNext) (c_room_after : Cal P w K mg base 3 "room_after" ["rule", "row"] (spAfter K)) :
    Cal P w K mg base 4 "breaks_with_last" ["rule", "row"] (spBreaks K) := by
  refine D.cal sc_breaks_with_last (fun _ _ _ _ _ _ us hl => match us, hl with | [_, _], _ => rfl) (fun vs H Q E h => by obtain ⟨p, b, r, ys, rfl, _⟩ := h; rfl) (fun f cdv A outer s H vs Q E hr h => ?_)
  obtain ⟨p, b, r, ys, rfl, hR, ok, hb, q⟩ := h
  refine ⟨_, (pss_cons (ps_if (pt_cmpR op_eqA (pe_blt (call_lenK K) z_len bt_len (pa_cons (pv 1 (hv := v_breaks_with_last_row)) pa_nil) (hg := gl_breaks_with_last_len)) pe_int (nomark _)) (pss_one (ps_ret pe_bl)) pss_nil)
      (pss_cons (ps_let 2 sc_breaks_with_last.nd (pe_cal c_room_after hr (pa_cons (pv 0 (hv := v_breaks_with_last_rule)) (pa_cons (pe_slice (sl_listK K) (pv 1 (hv := v_breaks_with_last_row)) po_none (po_some (pe_un un_neg pe_int))) pa_nil)) (hg := gl_breaks_with_last_room_after)) (hx := l_breaks_with_last_room))
      (pss_one (ps_ret (pe_and (pe_cmpR op_notNA (pv 2 (hv := v_breaks_with_last_room)) pe_non (nomark _)) (pe_one (pe_cmpR op_isNA (pe_cal c_next_room hr (pa_cons (pv 0 (hv := v_breaks_with_last_rule)) (pa_cons (pv 2 (hv := v_breaks_with_last_room)) (pa_cons (pe_ix (ix_K K) (pv 1 (hv := v_breaks_with_last_row)) (pe_un un_neg pe_int) (fun _ _ => rfl)) pa_nil))) (hg := gl_breaks_with_last_next_room)) pe_non (nomark _)))))))), ?_⟩
  walk_at "rd1"
  refine ⟨_, .inl hb, ?_⟩
  rw [List.length_map]
  walk_at "rd1"
  refine ite2 (fun c => ?_) (fun c => ?_)
  · have e : ys = [] := List.eq_nil_of_length_eq_zero (by omega)
    subst e
    exact q H (Same.refl H)
  · obtain ⟨zs, z, rfl⟩ := snoc_of (ys := ys) (fun e => c (by rw [e]; rfl))
    rw [brkL_snoc] at q
    unfold endB at q
    walk_at "nx"
    refine ⟨_, hb, fun sp hsp => ?_⟩
    rw [cut_initS]
    generalize hH1 : upd H sp _ = H1
    have sm1 := al_same hH1 hsp
    have e1 := al_at hH1
    have q1 := q H1 sm1
    refine ⟨p, sp, r, zs, rfl, hR.mono sm1, ok, SqL.of e1, ?_⟩
    cases ha : after r 0 zs with
    | none =>
      rw [ha] at q1
      walk_at "nx"
      exact q1
    | some k =>
      rw [ha] at q1
      walk_at "nx"
      refine ⟨_, _, .inl (sm1.seq hb), at_lastS, ?_⟩
      refine ⟨p, r, k, z, rfl, hR.mono sm1, ok, after_lt ok zs 0 k ok.n0 ha, ?_⟩
      walk_at "rd1"
      have q2 : Q (.bl (step r k z).isNone) H1 := q1
      cases hs : step r k z with
      | none => rw [hs] at q2; exact q2
      | some j => rw [hs] at q2; exact q2
/-- the moves, by words -/
def MovesAt (H : Hp) (d : Addr) (r : Rl) (ws : List Str) : Prop := ∃ kvs : List (Key × V), H d = some (.dK kvs) ∧ kvs.length ≤ ws.length ∧ ∀ y : Str,
  (y ∈ ws → ∃ b, valV kvs (.inr y) = some (.ref b) ∧ PairsAt H b (mvsTo r.rs (r.ws.idxOf y) r.rs.length)) ∧ (y ∉ ws → valV kvs (.inr y) = none)
theorem MovesAt.mono {H H' : Hp} {d : Addr} {r : Rl} {ws : List Str} (sm : Same H H') (h : MovesAt H d r ws) : MovesAt H' d r ws := by
  obtain ⟨kvs, e, hl, h⟩ := h
  refine ⟨kvs, sm _ _ e, hl, fun y => ⟨fun hy => ?_, (h y).2⟩⟩
  obtain ⟨b, hb, hp⟩ := (h y).1 hy
  exact ⟨b, hb, hp.mono sm⟩
def spMoves : Sp := fun vs H Q _ => ∃ (p : Addr) (r : Rl), vs = [.ref p] ∧ RuleAt H p r ∧ RlOk r ∧ r.ws.Nodup ∧ ∀ (d : Addr) (H' : Hp), Same H H' → H d = none → MovesAt H' d r r.ws → Q (.ref d) H'
theorem ok_moves (D : DefAt K mg "moves_of" s_moves_of) (z_enumerate : mg "enumerate" = none) : Cal P w K mg base 1 "moves_of" ["rule"] spMoves := by
  refine D.cal sc_moves_of (fun _ _ _ _ _ _ us hl => match us, hl with | [_], _ => rfl) (fun vs H Q E h => by obtain ⟨p, r, rfl, _⟩ := h; rfl) (fun f cdv A outer s H vs Q E hr h => ?_)
  obtain ⟨p, r, rfl, hR, ok, nd, q⟩ := h
  obtain ⟨pw, pr, as, h1, h2, h3, h4, h5⟩ := hR
  refine ⟨_, (pss_cons (ps_let 1 sc_moves_of.nd pe_dnewK (hx := l_moves_of_moves))
      (pss_cons (ps_for PassesOwn.never rfl (pi_enumK K gl_moves_of_enumerate z_enumerate (pa_cons (pe_ix (ix_K K) (pv 0 (hv := v_moves_of_rule)) pe_int (fun _ _ => rfl)) pa_nil)) (pg_tupK K (n := 2) (pgs_cons (pg_let 2 sc_moves_of.nd (hx := l_moves_of_place)) (pgs_cons (pg_let 3 sc_moves_of.nd (hx := l_moves_of_word)) pgs_nil))) (pss_one (ps_asg (pe_comp (CompSc.to (fsc := (defScope s_moves_of)) (N := ["rule", "moves", "place", "word"]) (N0 := ["rule", "moves", "place", "word"]) (T := ["number", "room"]) ⟨by decide +kernel, by decide +kernel, by decide +kernel, by decide +kernel, by decide +kernel, by decide +kernel, by decide +kernel⟩ rfl rfl) rfl (pi_enumK K gl_moves_of_enumerate z_enumerate (pa_cons (pe_ix (ix_K K) (pv 0 (hv := v_moves_of_rule)) pe_int (fun _ _ => rfl)) pa_nil)) (fun _ _ _ _ => (pg_tupK K (n := 2) (pgs_cons (pg_let 4 (show (["rule", "moves", "place", "word", "number", "room"] : List Str).Nodup from by decide +kernel) (hx := (locC (defScope s_moves_of) (by decide +kernel))) (hf := fnC (defScope s_moves_of) (by decide +kernel))) (pgs_cons (pg_let 5 (show (["rule", "moves", "place", "word", "number", "room"] : List Str).Nodup from by decide +kernel) (hx := (locC (defScope s_moves_of) (by decide +kernel))) (hf := fnC (defScope s_moves_of) (by decide +kernel))) pgs_nil)))) (gfr_tup (gsfr_cons (gfr_name (show (["rule", "moves", "place", "word"] : List Str).length ≤ 4 from by decide)) gm_name (gsfr_cons (gfr_name (show (["rule", "moves", "place", "word"] : List Str).length ≤ 5 from by decide)) gm_name gsfr_nil gsm_nil) (gsm_cons gm_name gsm_nil))) (fun _ _ _ _ => (pifs_one (pt_cmpR op_notNA (pe_ix (ix_K K) (pv 5 (hv := (visC (defScope s_moves_of) (by decide +kernel)))) (pv 2 (hv := (visC (defScope s_moves_of) (by decide +kernel)))) (fun _ _ => rfl)) pe_non (nomark _)))) (fun _ _ _ _ => (pe_tup (pa_cons (pv 4 (hv := (visC (defScope s_moves_of) (by decide +kernel)))) (pa_cons (pe_ix (ix_K K) (pv 5 (hv := (visC (defScope s_moves_of) (by decide +kernel)))) (pv 2 (hv := (visC (defScope s_moves_of) (by decide +kernel)))) (fun _ _ => rfl)) pa_nil))))) (pg_sub (pv 1 (hv := v_moves_of_moves)) (pv 3 (hv := v_moves_of_word)) (set_D hr)))))
      (pss_one (ps_ret (pv 1 (hv := v_moves_of_moves)))))), ?_⟩
  walk_at "rd1"
  intro d hd
  generalize hH1 : upd H d _ = H1
  have sm1 := al_same hH1 hd
  have e1 := al_at hH1
  walk_at "nx"
  refine ⟨_, _, .inr (SqT.of (sm1 _ _ h1)), rfl, ?_⟩
  walk_at "rd1"
  refine ⟨⟨_, sm1 _ _ h2⟩, ?_⟩
  refine forW_enum (xs := r.ws.map V.str) (fun i σ H' => ∃ (o2 o3 : Option V), σ = [some (.ref p), some (.ref d), o2, o3] ∧ Same H H' ∧ MovesAt H' d r (r.ws.take i))
    ⟨none, none, rfl, sm1, [], e1, by simp, fun y => ⟨by simp, fun _ => rfl⟩⟩ (fun i σ H' _ h => by obtain ⟨_, _, _, sm, _⟩ := h; exact SqL.of (sm _ _ h2)) ?_ ?_
  · rintro i v t σ H' hv ⟨o2, o3, rfl, sm, hM⟩ ht
    have hi : i < r.ws.length := by have := (List.getElem?_eq_some_iff.mp hv).1; simpa using this
    rw [List.getElem?_map, List.getElem?_eq_getElem hi] at hv
    cases hv
    have st := same_new ht (.tup [nV i, .str r.ws[i]])
    have ett : upd H' t (.tup [nV i, .str r.ws[i]]) t = some (.tup [nV i, .str r.ws[i]]) := upd_same
    have smt := sm.trans st
    have hMt := hM.mono st
    generalize upd H' t (.tup [nV i, .str r.ws[i]]) = Ht at st ett smt hMt ⊢
    walk_at "rd1"
    refine ⟨t, _, rfl, SqT.of ett, rfl, ?_⟩
    walk_at "rd1"
    refine ⟨_, _, .inr (SqT.of (smt _ _ h1)), rfl, ?_⟩
    walk_at "rd1"
    refine ⟨⟨_, smt _ _ h3⟩, fun L hL => ?_⟩
    refine compT_enum (xs := as.map V.ref) (fun n ys H2 => Same Ht H2 ∧ H2 L = some (.lst ys) ∧ PairsL H2 ys (mvsTo r.rs i n) ∧ ys.length ≤ n) ⟨same_new hL _, upd_same, PairsL.nil, Nat.le_refl _⟩ (fun n ys H2 _ h => SqL.of ((smt.trans h.1) _ _ h3)) ?_ ?_
    · rintro n ys H2 x t2 hx hn ⟨sm2, hl, hP, hys⟩ ht2
      rw [List.length_map] at hn
      rw [List.getElem?_map, List.getElem?_eq_getElem hn] at hx
      cases hx
      have hn' : n < r.rs.length := by omega
      have st2 := same_new ht2 (.tup [nV n, .ref as[n]])
      have et2 : upd H2 t2 (.tup [nV n, .ref as[n]]) t2 = some (.tup [nV n, .ref as[n]]) := upd_same
      have hl2 := st2 _ _ hl
      have hP2 := hP.mono (H' := upd H2 t2 (.tup [nV n, .ref as[n]])) (fun t x y z => st2 _ _ z)
      have sm3 := sm2.trans st2
      have hrow := (smt.trans sm3) _ _ (h5 n as[n] r.rs[n] (List.getElem?_eq_getElem hn) (List.getElem?_eq_getElem hn'))
      generalize upd H2 t2 (.tup [nV n, .ref as[n]]) = H3 at st2 et2 hl2 hP2 sm3 hrow ⊢
      have hwl : i < (r.rs[n]).length := by rw [(ok.row _ (List.getElem_mem hn')).1]; exact hi
      have hw : ((r.rs[n]).map wayV)[i]? = some (wayV ((r.rs.getD n []).getD i none)) := by
        rw [List.getElem?_map, List.getElem?_eq_getElem hwl, List.getD_eq_getElem?_getD (l := r.rs), List.getElem?_eq_getElem hn']
        show some (wayV (r.rs[n])[i]) = some (wayV ((r.rs[n]).getD i none))
        rw [List.getD_eq_getElem?_getD, List.getElem?_eq_getElem hwl]; rfl
      have hms := mvs_succ r.rs i n
      walk_at "rd1"
      refine ⟨t2, _, rfl, SqT.of et2, rfl, ?_⟩
      walk_at "rd1"
      refine ⟨_, _, .inl (SqL.of hrow), atI_nat hw, ?_⟩
      cases hwy : (r.rs.getD n []).getD i none with
      | none =>
        rw [hwy] at hms
        walk_at "rd1"
        refine ite2 (fun c => ?_) (fun c => ?_)
        · exact absurd c (by decide)
        · exact cskip (by rw [List.length_map]; exact hn) ⟨sm3, hl2, by rw [hms]; simpa using hP2, by omega⟩
      | some k =>
        rw [hwy] at hms hw
        walk_at "rd1"
        refine ite2 (fun c => ?_) (fun c => ?_)
        · refine ⟨_, _, .inl (SqL.of hrow), atI_nat hw, ?_⟩
          walk_at "rd1"
          refine ⟨by decide, fun t3 ht3 => ?_⟩
          have st3 := same_new ht3 (.tup [nV n, nV k])
          have hl3 := st3 _ _ hl2
          refine cstepT (by rw [List.length_map]; exact hn) hys (by rw [List.length_map]; exact smallL (by have := ok.n1; omega)) hl3 ⟨(sm3.trans st3).upd hL _, upd_same, ?_, by simp; omega⟩
          rw [hms]
          exact ((hP2.mono (fun t x y z => st3 _ _ z)).push upd_same).mono (keep_tup hl3)
        · exact absurd (by simp [wayV]) c
    rintro ys H2 ⟨sm2, hl, hP, hys⟩
    rw [List.length_map, h4] at hP
    obtain ⟨kvs, hk, hkl, hkv⟩ := hMt.mono sm2
    walk_at "rd1"
    refine ⟨d, kvs, .inr r.ws[i], rfl, rfl, hk, by rw [List.length_take] at hkl; exact small' (by have := ok.nw; omega), ?_⟩
    have nLd : L ≠ d := by rintro rfl; obtain ⟨_, z, _⟩ := hMt; rw [z] at hL; cases hL
    refine ⟨_, _, rfl, (smt.trans sm2).upd hd _, _, upd_same, ?_, fun y => ?_⟩
    · have := length_putK kvs (.inr r.ws[i]) (.ref L)
      rw [List.length_take] at hkl ⊢; omega
    · have hix : r.ws.idxOf r.ws[i] = i := nd.idxOf_getElem i hi
      rw [valV_put, List.take_add_one, List.getElem?_eq_getElem hi]
      by_cases c : y = r.ws[i]
      · subst c
        refine ⟨fun _ => ⟨L, by simp, ?_⟩, fun hn => absurd (List.mem_append.mpr (.inr (by simp))) hn⟩
        rw [hix]
        exact ⟨ys, by rw [upd_ne nLd]; exact hl, hP.mono fun t x y z => by rw [upd_ne (fun e => by rw [e, hk] at z; cases z)]; exact z⟩
      · rw [if_neg (by simpa using c)]
        refine ⟨fun hy => ?_, fun hn => (hkv y).2 fun h => hn (List.mem_append.mpr (.inl h))⟩
        have hy' : y ∈ r.ws.take i := by
          rcases List.mem_append.mp hy with z | z
          · exact z
          · exact absurd (by simpa using z) c
        obtain ⟨b, hb, zs, hz, hp⟩ := (hkv y).1 hy'
        exact ⟨b, hb, zs, by rw [upd_ne (fun e => by rw [e, hk] at hz; cases hz)]; exact hz, hp.mono fun t x y z => by rw [upd_ne (fun e => by rw [e, hk] at z; cases z)]; exact z⟩
  · rintro σ H' ⟨o2, o3, rfl, sm, hM⟩
    rw [List.length_map, List.take_length] at hM
    walk_at "nx"
    exact q d H' sm hd hM
def spAhead : Sp := fun vs H Q _ => ∃ (cp mp : Addr) (cs : List Nat) (ps : List (Nat × Nat)), vs = [.ref cp, .ref mp] ∧ H cp = some (.lst (cs.map nV)) ∧ PairsAt H mp ps ∧ cs.length ≤ 60 ∧ ps.length ≤ 60 ∧ (∀ p ∈ ps, p.1 < cs.length ∧ p.2 < cs.length) ∧
  ∀ (b : Addr) (H' : Hp), Same H H' → H' b = some (.lst ((ahd cs ps).map nV)) → Q (.ref b) H'
theorem ok_ahead (D : DefAt K mg "counts_ahead" s_counts_ahead) (z_len : mg "len" = none) (z_list : mg "list" = none) : Cal P w K mg base 1 "counts_ahead" ["counts", "moves"] spAhead := by
  refine D.cal sc_counts_ahead (fun _ _ _ _ _ _ us hl => match us, hl with | [_, _], _ => rfl) (fun vs H Q E h => by obtain ⟨cp, mp, cs, ps, rfl, _⟩ := h; rfl) (fun f cdv A outer s H vs Q E hr h => ?_)
  obtain ⟨cp, mp, cs, ps, rfl, hc, ⟨ys0, hm, ts, rfl, htl, hts⟩, hcl, hpl, hb, q⟩ := h
  refine ⟨_, (pss_cons (ps_setcomp (CompSc.to (fsc := (defScope s_counts_ahead)) (N := ["counts", "moves", "fewer", "ahead", "room", "count"]) (N0 := ["counts", "moves", "fewer", "ahead", "room'", "count"]) (T := ["room", "way"]) ⟨by decide +kernel, by decide +kernel, by decide +kernel, by decide +kernel, by decide +kernel, by decide +kernel, by decide +kernel⟩ rfl rfl) rfl sc_counts_ahead.nd (i := 2) rfl k_counts_ahead_fewer (pi_listK K (pv 1 (hv := v_counts_ahead_moves))) (fun _ _ _ _ => (pg_tupK K (n := 2) (pgs_cons (pg_let 6 (show (["counts", "moves", "fewer", "ahead", "room'", "count", "room", "way"] : List Str).Nodup from by decide +kernel) (hx := (locC (defScope s_counts_ahead) (by decide +kernel))) (hf := fnC (defScope s_counts_ahead) (by decide +kernel))) (pgs_cons (pg_let 7 (show (["counts", "moves", "fewer", "ahead", "room'", "count", "room", "way"] : List Str).Nodup from by decide +kernel) (hx := (locC (defScope s_counts_ahead) (by decide +kernel))) (hf := fnC (defScope s_counts_ahead) (by decide +kernel))) pgs_nil)))) (gfr_tup (gsfr_cons (gfr_name (show (["counts", "moves", "fewer", "ahead", "room", "count"] : List Str).length ≤ 6 from by decide)) gm_name (gsfr_cons (gfr_name (show (["counts", "moves", "fewer", "ahead", "room", "count"] : List Str).length ≤ 7 from by decide)) gm_name gsfr_nil gsm_nil) (gsm_cons gm_name gsm_nil))) (fun _ _ _ _ => (pifs_one (pt_cmpR op_ltA (pe_op op_addA (pe_ix (ix_K K) (pv 0 (hv := (visC (defScope s_counts_ahead) (by decide +kernel)))) (pv 7 (hv := (visC (defScope s_counts_ahead) (by decide +kernel)))) (fun _ _ => rfl)) pe_int) (pe_ix (ix_K K) (pv 0 (hv := (visC (defScope s_counts_ahead) (by decide +kernel)))) (pv 6 (hv := (visC (defScope s_counts_ahead) (by decide +kernel)))) (fun _ _ => rfl)) (nomark _)))) (fun _ _ _ _ => (pe_tup (pa_cons (pv 6 (hv := (visC (defScope s_counts_ahead) (by decide +kernel)))) (pa_cons (pe_op op_addA (pe_ix (ix_K K) (pv 0 (hv := (visC (defScope s_counts_ahead) (by decide +kernel)))) (pv 7 (hv := (visC (defScope s_counts_ahead) (by decide +kernel)))) (fun _ _ => rfl)) pe_int) pa_nil)))))
      (pss_cons (ps_if (pt_cmpR op_eqA (pe_blt (call_lenK K) z_len bt_len (pa_cons (pv 2 (hv := v_counts_ahead_fewer)) pa_nil) (hg := gl_counts_ahead_len)) pe_int (nomark _)) (pss_one (ps_ret (pv 0 (hv := v_counts_ahead_counts)))) pss_nil)
      (pss_cons (ps_let 3 sc_counts_ahead.nd (pe_bty (call_listA K) z_list bt_list (pa_cons (pv 0 (hv := v_counts_ahead_counts)) pa_nil) (hg := gl_counts_ahead_list)) (hx := l_counts_ahead_ahead))
      (pss_cons (ps_for PassesOwn.never rfl (pi_listK K (pv 2 (hv := v_counts_ahead_fewer))) (pg_tupK K (n := 2) (pgs_cons (pg_let 4 sc_counts_ahead.nd (hx := l_counts_ahead_room)) (pgs_cons (pg_let 5 sc_counts_ahead.nd (hx := l_counts_ahead_count)) pgs_nil))) (pss_one (ps_asg (pv 5 (hv := v_counts_ahead_count)) (pg_sub (pv 3 (hv := v_counts_ahead_ahead)) (pv 4 (hv := v_counts_ahead_room)) set_A))))
      (pss_one (ps_ret (pv 3 (hv := v_counts_ahead_ahead)))))))), ?_⟩
  walk_at "rd1"
  refine ⟨⟨_, SqL.of hm⟩, fun L hL => ?_⟩
  refine compT_list (xs := ts.map V.ref) (fun i ys H' => Same H H' ∧ H' L = some (.lst ys) ∧ PairsL H' ys ((ps.take i).filterMap (few1 cs)) ∧ ys.length ≤ i) ⟨same_new hL _, upd_same, PairsL.nil, Nat.le_refl _⟩ (fun i ys H' _ h => SqL.of (h.1 _ _ hm)) ?_ ?_
  · rintro i ys H' x hx hi ⟨sm, hl, hP, hys⟩
    rw [List.length_map] at hi
    rw [List.getElem?_map, List.getElem?_eq_getElem hi] at hx
    cases hx
    have hi' : i < ps.length := by omega
    have htt := sm _ _ (hts i ts[i] ps[i] (List.getElem?_eq_getElem hi) (List.getElem?_eq_getElem hi'))
    obtain ⟨b1, b2⟩ := hb ps[i] (List.getElem_mem hi')
    have hstep : (ps.take (i + 1)).filterMap (few1 cs) = (ps.take i).filterMap (few1 cs) ++ (few1 cs ps[i]).toList := by
      rw [List.take_add_one, List.getElem?_eq_getElem hi', List.filterMap_append]
      show _ ++ [ps[i]].filterMap (few1 cs) = _
      rw [List.filterMap_cons]
      cases few1 cs ps[i] <;> rfl
    have g1 : (cs.map nV)[(ps[i]).1]? = some (nV (cs.getD (ps[i]).1 0)) := by rw [List.getElem?_map, List.getD_eq_getElem?_getD, List.getElem?_eq_getElem b1]; rfl
    have g2 : (cs.map nV)[(ps[i]).2]? = some (nV (cs.getD (ps[i]).2 0)) := by rw [List.getElem?_map, List.getD_eq_getElem?_getD, List.getElem?_eq_getElem b2]; rfl
    have hcc := sm _ _ hc
    walk_at "rd1"
    refine ⟨ts[i], _, rfl, SqT.of htt, rfl, ?_⟩
    walk_at "rd1"
    refine ⟨_, _, .inl (SqL.of hcc), atI_nat g2, ?_⟩
    walk_at "rd1"
    refine ⟨_, _, .inl (SqL.of hcc), atI_nat g1, ?_⟩
    walk_at "rd1"
    refine ite2 (fun c => ?_) (fun c => ?_)
    · have ef : few1 cs ps[i] = some ((ps[i]).1, cs.getD (ps[i]).2 0 + 1) := by unfold few1; rw [if_pos (by omega)]
      rw [ef] at hstep
      refine ⟨_, _, .inl (SqL.of hcc), atI_nat g2, ?_⟩
      walk_at "rd1"
      refine ⟨by decide, fun t3 ht3 => ?_⟩
      have st3 := same_new ht3 (.tup [nV (ps[i]).1, nV (cs.getD (ps[i]).2 0 + 1)])
      have hl3 := st3 _ _ hl
      refine cstepT (by rw [List.length_map]; exact hi) hys (by rw [List.length_map]; exact smallL (by omega)) hl3 ⟨(sm.trans st3).upd hL _, upd_same, ?_, by simp; omega⟩
      rw [hstep]
      exact ((hP.mono (fun t x y z => st3 _ _ z)).push upd_same).mono (keep_tup hl3)
    · have ef : few1 cs ps[i] = none := by unfold few1; rw [if_neg (by omega)]
      rw [ef] at hstep
      exact cskip (by rw [List.length_map]; exact hi) ⟨sm, hl, by rw [hstep]; simpa using hP, by omega⟩
  rintro ys H1 ⟨sm1, hl1, hP1, hys1⟩
  rw [List.length_map, htl, List.take_length] at hP1
  have hahd : ahd cs ps = setAll cs (ps.filterMap (few1 cs)) := rfl
  have hfb : ∀ p ∈ ps.filterMap (few1 cs), p.1 < cs.length := fun p hp => by
    obtain ⟨z, hz, e⟩ := List.mem_filterMap.mp hp
    unfold few1 at e
    split at e
    · cases e; exact (hb z hz).1
    · cases e
  obtain ⟨us, rfl, hul, hus⟩ := hP1
  generalize ps.filterMap (few1 cs) = fs at hul hus hahd hfb
  walk_at "rd1"
  walk_at "nx"
  refine ⟨_, .inl (SqL.of hl1), ?_⟩
  rw [List.length_map]
  walk_at "rd1"
  refine ite2 (fun c => ?_) (fun c => ?_)
  · have e : fs = [] := List.eq_nil_of_length_eq_zero (by omega)
    subst e
    exact q cp H1 sm1 (by rw [hahd]; exact sm1 _ _ hc)
  · walk_at "nx"
    refine ⟨_, .inl (SqL.of (sm1 _ _ hc)), fun ap hap => ?_⟩
    generalize hH2 : upd H1 ap _ = H2
    have sm2 := al_same hH2 hap
    have e2 := al_at hH2
    have hapH : H ap = none := sm1.free hap
    walk_at "nx"
    refine ⟨⟨_, SqL.of (sm2 _ _ hl1)⟩, ?_⟩
    have nLa : L ≠ ap := by rintro rfl; rw [hl1] at hap; cases hap
    refine forW_list (xs := us.map V.ref) (fun i σ H' => ∃ (o4 o5 : Option V), σ = [some (.ref cp), some (.ref mp), some (.ref L), some (.ref ap), o4, o5] ∧ (∀ b, b ≠ ap → H' b = H2 b) ∧ H' ap = some (.lst ((setAll cs (fs.take i)).map nV)))
      ⟨_, _, rfl, fun _ _ => rfl, e2⟩ (fun i σ H' _ h => by obtain ⟨_, _, _, z, _⟩ := h; exact SqL.of (by rw [z L nLa]; exact sm2 _ _ hl1)) ?_ ?_
    · rintro i x σ H' hx ⟨o4, o5, rfl, hsame, hA⟩
      have hi : i < us.length := by have := (List.getElem?_eq_some_iff.mp hx).1; simpa using this
      rw [List.getElem?_map, List.getElem?_eq_getElem hi] at hx
      cases hx
      have hi' : i < fs.length := by omega
      have hut := hus i us[i] fs[i] (List.getElem?_eq_getElem hi) (List.getElem?_eq_getElem hi')
      have nua : us[i] ≠ ap := by intro e; rw [e, hap] at hut; cases hut
      have hut' : H' us[i] = some (.tup [nV (fs[i]).1, nV (fs[i]).2]) := by rw [hsame _ nua]; exact sm2 _ _ hut
      have hb1 := hfb fs[i] (List.getElem_mem hi')
      have hlen : ((setAll cs (fs.take i)).map nV).length = cs.length := by rw [List.length_map, setAll_len]
      walk_at "rd1"
      refine ⟨us[i], _, rfl, SqT.of hut', rfl, ?_⟩
      walk_at "rd1"
      refine ⟨_, (fs[i]).1, hA, by rw [hlen]; unfold ixN; rw [if_pos (by omega), if_pos (by omega), Int.toNat_natCast], ?_⟩
      refine ⟨_, _, rfl, fun b hb' => by rw [upd_ne hb']; exact hsame b hb', ?_⟩
      have et : fs.take (i + 1) = fs.take i ++ [fs[i]] := by rw [List.take_add_one, List.getElem?_eq_getElem hi']; rfl
      have es : setAll cs (fs.take (i + 1)) = (setAll cs (fs.take i)).set (fs[i]).1 (fs[i]).2 := by rw [et]; unfold setAll; rw [List.foldl_append]; rfl
      rw [upd_same, es, List.map_set]
    · rintro σ H' ⟨o4, o5, rfl, hsame, hA⟩
      rw [List.length_map, hul, List.take_length] at hA
      walk_at "nx"
      refine q ap H' (fun b o e => ?_) (by rw [hahd]; exact hA)
      rw [hsame b (fun z => by rw [z, hapH] at e; cases e)]
      exact sm2 _ _ (sm1 _ _ e)
def CountsAt (H : Hp) (c : Addr) (r : Rl) (nv : Nat) (z : Str) (zs : List Str) : Prop := ∃ as : List Addr, H c = some (.lst (as.map V.ref)) ∧ as.length = zs.length + 1 ∧ ∀ (i : Nat) a, as[i]? = some a → H a = some (.lst ((cts r nv z (zs.drop i)).map nV))
theorem CountsAt.mono {H H' : Hp} {c : Addr} {r : Rl} {nv : Nat} {z : Str} {zs : List Str} (sm : Same H H') (h : CountsAt H c r nv z zs) : CountsAt H' c r nv z zs := by
  obtain ⟨as, e, hl, h⟩ := h
  exact ⟨as, sm _ _ e, hl, fun i a e1 => sm _ _ (h i a e1)⟩
theorem mov_in {r : Rl} {y : Str} (ok : RlOk r) : ∀ p ∈ mov r y, p.1 < r.rs.length ∧ p.2 < r.rs.length := by
  intro ⟨k, w'⟩ hp
  by_cases hy : y ∈ r.ws
  · unfold mov at hp
    rw [if_pos hy] at hp
    obtain ⟨h1, h2⟩ := mvs_mem.mp hp
    exact ⟨h1, step_lt ok h1 (show step r k y = some w' by unfold step; rw [if_pos hy]; exact h2)⟩
  · unfold mov at hp
    rw [if_neg hy] at hp; cases hp
theorem mvs_len (rs : List (List (Option Nat))) (j n : Nat) : (mvsTo rs j n).length ≤ n := by
  unfold mvsTo
  have := List.length_filterMap_le (fun k => ((rs.getD k []).getD j none).map fun w => (k, w)) (List.range n)
  rwa [List.length_range] at this
theorem mov_len {r : Rl} {y : Str} (ok : RlOk r) : (mov r y).length ≤ 60 := by
  unfold mov
  split
  · have := mvs_len r.rs (r.ws.idxOf y) r.rs.length
    have := ok.n1; omega
  · simp
theorem MovesAt.get {H : Hp} {d : Addr} {r : Rl} (h : MovesAt H d r r.ws) (y : Str) : ∃ kvs : List (Key × V), H d = some (.dK kvs) ∧ ((∃ b, valV kvs (.inr y) = some (.ref b) ∧ PairsAt H b (mov r y)) ∨ (valV kvs (.inr y) = none ∧ mov r y = [])) := by
  obtain ⟨kvs, e, hl, h⟩ := h
  refine ⟨kvs, e, ?_⟩
  unfold mov
  by_cases hy : y ∈ r.ws
  · rw [if_pos hy]; exact .inl ((h y).1 hy)
  · rw [if_neg hy]; exact .inr ⟨(h y).2 hy, rfl⟩
def spCounts : Sp := fun vs H Q _ => ∃ (p b : Addr) (r : Rl) (zs : List Str) (z : Str), vs = [.ref p, .ref b] ∧ RuleAt H p r ∧ RlOk r ∧ r.ws.Nodup ∧ H b = some (.lst ((zs ++ [z]).map V.str)) ∧ zs.length ≤ 1000 ∧
  ∀ (c : Addr) (H' : Hp), Same H H' → H c = none → CountsAt H' c r (zs.length + 2) z zs → Q (.ref c) H'
theorem ok_counts (D : DefAt K mg "counts_by_place" s_counts_by_place) (z_len : mg "len" = none) (z_range : mg "range" = none) (z_list : mg "list" = none) (z_reversed : mg "reversed" = none) (c_next_room : Cal P w K mg base 1 "next_room" ["rule", "room", "text"] spNext)
    (c_moves_of : Cal P w K mg base 1 "moves_of" ["rule"] spMoves) (c_counts_ahead : Cal P w K mg base 1 "counts_ahead" ["counts", "moves"] spAhead) : Cal P w K mg base 2 "counts_by_place" ["rule", "row"] spCounts := by
  refine D.cal sc_counts_by_place (fun _ _ _ _ _ _ us hl => match us, hl with | [_, _], _ => rfl) (fun vs H Q E h => by obtain ⟨p, b, r, zs, z, rfl, _⟩ := h; rfl) (fun f cdv A outer s H vs Q E hr h => ?_)
  obtain ⟨p, b, r, zs, z, rfl, hR, ok, nd, hb, hz, q⟩ := h
  refine ⟨_, (pss_cons (ps_let 2 sc_counts_by_place.nd (pe_op op_addA (pe_blt (call_lenK K) z_len bt_len (pa_cons (pv 1 (hv := v_counts_by_place_row)) pa_nil) (hg := gl_counts_by_place_len)) pe_int) (hx := l_counts_by_place_never))
      (pss_cons (ps_let 3 sc_counts_by_place.nd (pe_cal c_moves_of hr (pa_cons (pv 0 (hv := v_counts_by_place_rule)) pa_nil) (hg := gl_counts_by_place_moves_of)) (hx := l_counts_by_place_moves))
      (pss_cons (ps_setcomp (CompSc.to (fsc := (defScope s_counts_by_place)) (N := ["rule", "row", "never", "moves", "last", "counts", "text"]) (N0 := ["rule", "row", "never", "moves", "last", "counts", "text"]) (T := ["room"]) ⟨by decide +kernel, by decide +kernel, by decide +kernel, by decide +kernel, by decide +kernel, by decide +kernel, by decide +kernel⟩ rfl rfl) rfl sc_counts_by_place.nd (i := 4) rfl k_counts_by_place_last (pi_range1 gl_counts_by_place_range z_range (pa_cons (pe_blt (call_lenK K) z_len bt_len (pa_cons (pe_ix (ix_K K) (pv 0 (hv := v_counts_by_place_rule)) pe_int (fun _ _ => rfl)) pa_nil) (hg := gl_counts_by_place_len)) pa_nil)) (fun _ _ _ _ => (pg_let 7 (show (["rule", "row", "never", "moves", "last", "counts", "text", "room"] : List Str).Nodup from by decide +kernel) (hx := (locC (defScope s_counts_by_place) (by decide +kernel))) (hf := fnC (defScope s_counts_by_place) (by decide +kernel)))) (gfr_name (show (["rule", "row", "never", "moves", "last", "counts", "text"] : List Str).length ≤ 7 from by decide)) (fun _ _ _ _ => pifs_nil) (fun _ _ _ _ => (pe_ifExp (pt_cmpR op_isNA (pe_cal c_next_room hr (pa_cons (pv 0 (hv := (visC (defScope s_counts_by_place) (by decide +kernel)))) (pa_cons (pv 7 (hv := (visC (defScope s_counts_by_place) (by decide +kernel)))) (pa_cons (pe_ix (ix_K K) (pv 1 (hv := (visC (defScope s_counts_by_place) (by decide +kernel)))) (pe_un un_neg pe_int) (fun _ _ => rfl)) pa_nil))) (hg := (glC (defScope s_counts_by_place) (by decide +kernel)))) pe_non (nomark _)) pe_int (pv 2 (hv := (visC (defScope s_counts_by_place) (by decide +kernel)))))))
      (pss_cons (ps_let 5 sc_counts_by_place.nd (pe_lst (pa_cons (pv 4 (hv := v_counts_by_place_last)) pa_nil)) (hx := l_counts_by_place_counts))
      (pss_cons (ps_for PassesOwn.never rfl (pi_rev K gl_counts_by_place_reversed z_reversed (pa_cons (pe_slice (sl_listK K) (pv 1 (hv := v_counts_by_place_row)) po_none (po_some (pe_un un_neg pe_int))) pa_nil)) (pg_let 6 sc_counts_by_place.nd (hx := l_counts_by_place_text)) (pss_one (ps_expr (pe_bmK K PySem.F.plainAttrs_list PySem.F.slot_list_append PySem.F.type_list_append mt_appendA (pv 5 (hv := v_counts_by_place_counts)) (pa_cons (pe_cal c_counts_ahead hr (pa_cons (pe_ix (ix_K K) (pv 5 (hv := v_counts_by_place_counts)) (pe_un un_neg pe_int) (fun _ _ => rfl)) (pa_cons (pe_dget2 (hu_of hr) (pv 3 (hv := v_counts_by_place_moves)) (pv 6 (hv := v_counts_by_place_text)) (pe_lst pa_nil) ⟨rfl, rfl, rfl, rfl⟩) pa_nil)) (hg := gl_counts_by_place_counts_ahead)) pa_nil)))))
      (pss_one (ps_ret (pe_listRev K hr gl_counts_by_place_list z_list gl_counts_by_place_reversed z_reversed (pa_cons (pv 5 (hv := v_counts_by_place_counts)) pa_nil))))))))), ?_⟩
  walk_at "rd1"
  refine ⟨_, .inl (SqL.of hb), ?_⟩
  rw [List.length_map]
  have hnv : (((zs ++ [z]).length : Nat) : Int) + 1 = ((zs.length + 2 : Nat) : Int) := by simp; omega
  rw [hnv]
  generalize hnvv : zs.length + 2 = nv at q ⊢
  walk_at "nx"
  refine ⟨p, r, rfl, hR, ok, nd, fun d H1 sm1 hd hM => ?_⟩
  have hR1 := hR.mono sm1
  obtain ⟨pw, pr, as, h1, h2, h3, h4, h5⟩ := id hR1
  walk_at "nx"
  refine ⟨_, _, .inr (SqT.of h1), rfl, ?_⟩
  walk_at "rd1"
  refine ⟨_, .inl (SqL.of h3), ?_⟩
  rw [List.length_map, h4]
  walk_at "rd1"
  have hn1 := ok.n1
  refine ⟨by omega, by omega, fun L hL => ?_⟩
  refine compW_range (fun i ys H' => Same H1 H' ∧ H' L = some (.lst ys) ∧ ys = ((List.range i).map fun k => if step r k z = none then 1 else nv).map nV) ⟨same_new hL _, upd_same, rfl⟩ ?_ ?_
  · rintro i ys H' hi ⟨sm, hl, rfl⟩
    have hi' : i < r.rs.length := by omega
    have st : ((List.range (i + 1)).map fun k => if step r k z = none then 1 else nv).map nV = ((List.range i).map fun k => if step r k z = none then 1 else nv).map nV ++ [nV (if step r i z = none then 1 else nv)] := by
      rw [List.range_succ, List.map_append, List.map_append]; rfl
    walk_at "rd1"
    refine ⟨_, _, .inl (SqL.of ((sm1.trans sm) _ _ hb)), at_lastS, ?_⟩
    refine ⟨p, r, i, z, by rw [Int.zero_add], hR1.mono sm, ok, hi', ?_⟩
    cases hs : step r i z with
    | none =>
      rw [hs] at st
      walk_at "rd1"
      refine ite2 (fun c => ?_) (fun c => absurd (by decide) c)
      exact cstep hi (by simp) (smallL (by omega)) hl ⟨sm.upd hL _, upd_same, st.symm⟩
    | some j =>
      rw [hs] at st
      walk_at "rd1"
      refine ite2 (fun c => absurd c (by simp [wayV])) (fun c => ?_)
      exact cstep hi (by simp) (smallL (by omega)) hl ⟨sm.upd hL _, upd_same, st.symm⟩
  rintro ys H2 ⟨sm2, hl2, rfl⟩
  have hlast : ((List.range ((r.rs.length : Int)).toNat).map fun k => if step r k z = none then 1 else nv) = cts r nv z [] := by
    rw [Int.toNat_natCast]; rfl
  rw [hlast] at hl2
  have sm12 := sm1.trans sm2
  walk_at "rd1"
  walk_at "nx"
  refine ⟨by decide, fun C hC => ?_⟩
  generalize hH3 : upd H2 C _ = H3
  have sm3 := al_same hH3 hC
  have e3 := al_at hH3
  have hCH : H C = none := sm12.free hC
  walk_at "nx"
  have hb3 := (sm12.trans sm3) _ _ hb
  refine ⟨_, SqL.of hb3, fun S hS => ?_⟩
  rw [cut_initS]
  generalize hH4 : upd H3 S _ = H4
  have sm4 := al_same hH4 hS
  have e4 := al_at hH4
  walk_at "rd1"
  refine ⟨_, SqL.of e4, ?_⟩
  have sm04 : Same H H4 := (sm12.trans sm3).trans sm4
  have nLC : L ≠ C := by rintro rfl; rw [hl2] at hC; cases hC
  refine forW_rev (xs := zs.map V.str) (fun i σ H' => ∃ (o6 : Option V) (bs : List Addr), σ = [some (.ref p), some (.ref b), some (nV nv), some (.ref d), some (.ref L), some (.ref C), o6] ∧ Same H2 H' ∧ H' S = some (.lst (zs.map V.str)) ∧ H' C = some (.lst (bs.map V.ref)) ∧ bs.length = i + 1 ∧
      ∀ (j : Nat) a, bs[j]? = some a → a ≠ C ∧ H' a = some (.lst ((cts r nv z (zs.drop (zs.length - j))).map nV)))
    ⟨none, [L], rfl, sm3.trans sm4, e4, sm4 _ _ e3, rfl, fun j a e => ?_⟩ (fun i σ H' _ h => by obtain ⟨_, _, _, _, z, _⟩ := h; exact SqL.of z) ?_ ?_
  · match j, e with
    | 0, e =>
      cases e
      refine ⟨nLC, ?_⟩
      rw [Nat.sub_zero, List.drop_length]
      exact sm4 _ _ (sm3 _ _ hl2)
    | j + 1, e => simp at e
  · rintro i x σ H' hi hx ⟨o6, bs, rfl, sm, hSs, hCc, hbl, hbs⟩
    rw [List.length_map] at hi hx
    have hi2 : zs.length - 1 - i < zs.length := by omega
    rw [List.getElem?_map, List.getElem?_eq_getElem hi2] at hx
    cases hx
    have hdrop : zs.drop (zs.length - (i + 1)) = zs[zs.length - 1 - i] :: zs.drop (zs.length - i) := by
      rw [show zs.length - (i + 1) = zs.length - 1 - i by omega, List.drop_eq_getElem_cons hi2, show zs.length - 1 - i + 1 = zs.length - i by omega]
    generalize zs[zs.length - 1 - i] = y at hdrop ⊢
    have hbi : i < bs.length := by omega
    obtain ⟨nbC, hba⟩ := hbs i bs[i] (List.getElem?_eq_getElem hbi)
    obtain ⟨kvs, hk, hkv⟩ := (hM.mono (sm2.trans sm)).get y
    have hcl := cts_len r nv z (zs.drop (zs.length - i))
    walk_at "rd1"
    refine ⟨⟨_, SqL.of hCc⟩, _, _, .inl (SqL.of hCc), atI_end (v := .ref bs[i]) (by rw [List.length_map, List.getElem?_map, hbl, Nat.add_sub_cancel, List.getElem?_eq_getElem hbi]; rfl), ?_⟩
    refine ⟨isD_of hk, by decide, fun dp hdp => ?_⟩
    have fin : ∀ (H5 : Hp) (mb : Addr), Same H' H5 → PairsAt H5 mb (mov r y) → ∀ Q' : VK, (∀ (a : Addr) (H6 : Hp), Same H5 H6 → H6 a = some (.lst ((cts r nv z (zs.drop (zs.length - (i + 1)))).map nV)) → Q' (.ref a) H6) → spAhead [.ref bs[i], .ref mb] H5 Q' E0 := fun H5 mb s5 hp Q' hq =>
      ⟨bs[i], mb, cts r nv z (zs.drop (zs.length - i)), mov r y, rfl, s5 _ _ hba, hp, by rw [hcl]; exact ok.n1, mov_len ok, fun z hz => by rw [hcl]; exact mov_in ok z hz, fun a H6 s6 ha => hq a H6 s6 (by rw [hdrop]; exact ha)⟩
    have s5 := same_new hdp (.lst [])
    have nSC : S ≠ C := by rintro rfl; rw [e3] at hS; cases hS
    have put : ∀ (a : Addr) (H6 : Hp), Same H' H6 → H6 a = some (.lst ((cts r nv z (zs.drop (zs.length - (i + 1)))).map nV)) → ∃ (o6 : Option V) (bs' : List Addr), [some (V.ref p), some (.ref b), some (nV nv), some (.ref d), some (.ref L), some (.ref C), some (.str y)] = [some (.ref p), some (.ref b), some (nV nv), some (.ref d), some (.ref L), some (.ref C), o6] ∧ Same H2 (upd H6 C (.lst (bs.map V.ref ++ [.ref a]))) ∧ (upd H6 C (.lst (bs.map V.ref ++ [.ref a]))) S = some (.lst (zs.map V.str)) ∧ (upd H6 C (.lst (bs.map V.ref ++ [.ref a]))) C = some (.lst (bs'.map V.ref)) ∧ bs'.length = i + 1 + 1 ∧
        ∀ (j : Nat) a', bs'[j]? = some a' → a' ≠ C ∧ (upd H6 C (.lst (bs.map V.ref ++ [.ref a]))) a' = some (.lst ((cts r nv z (zs.drop (zs.length - j))).map nV)) := fun a H6 s6 ha => by
      have naC : a ≠ C := by
        rintro rfl
        rw [s6 _ _ hCc] at ha
        have e : bs.map V.ref = (cts r nv z (zs.drop (zs.length - (i + 1)))).map nV := by simpa using ha
        cases bs with
        | nil => simp at hbl
        | cons x bs =>
          cases hcx : cts r nv z (zs.drop (zs.length - (i + 1))) with
          | nil => rw [hcx] at e; simp at e
          | cons c cs => rw [hcx] at e; simp at e
      refine ⟨_, bs ++ [a], rfl, (sm.trans s6).upd hC _, by rw [upd_ne nSC]; exact s6 _ _ hSs, by rw [upd_same, List.map_append]; rfl, by simp [hbl], fun j a' e => ?_⟩
      rcases Nat.lt_or_ge j bs.length with g | g
      · rw [List.getElem?_append_left g] at e
        obtain ⟨n1, h'⟩ := hbs j a' e
        exact ⟨n1, by rw [upd_ne n1]; exact s6 _ _ h'⟩
      · rw [List.getElem?_append_right g] at e
        have hj : j - bs.length = 0 := by
          have := (List.getElem?_eq_some_iff.mp e).1
          simp at this; omega
        rw [hj] at e
        have e' : a = a' := by simpa using e
        subst e'
        rw [show j = i + 1 by omega]
        exact ⟨naC, by rw [upd_ne naC]; exact ha⟩
    rcases hkv with ⟨mb, hv, hp⟩ | ⟨hv, hme⟩
    · refine ⟨_, DGet.k (k := .inr y) (s5 _ _ hk), ?_⟩
      rw [hv]
      refine fin _ mb s5 (hp.mono s5) _ fun a H6 s6 ha => ?_
      have s06 := s5.trans s6
      exact ⟨_, s06 _ _ hCc, by rw [List.length_map]; exact small' (by omega), put a H6 s06 ha⟩
    · refine ⟨_, DGet.k (k := .inr y) (s5 _ _ hk), ?_⟩
      rw [hv]
      refine fin _ dp s5 ⟨[], upd_same, by rw [hme]; exact PairsL.nil⟩ _ fun a H6 s6 ha => ?_
      have s06 := s5.trans s6
      exact ⟨_, s06 _ _ hCc, by rw [List.length_map]; exact small' (by omega), put a H6 s06 ha⟩
  · rintro σ H' ⟨o6, bs, rfl, sm, hSs, hCc, hbl, hbs⟩
    rw [List.length_map] at hbl
    walk_at "nx"
    rw [tLRev_at]
    walk_at "rd1"
    refine ⟨_, SqL.of hCc, by rw [List.length_map]; omega, fun c hc => ?_⟩
    have sc := same_new hc (.lst (bs.map V.ref).reverse)
    have smH := sm12.trans sm
    refine q c _ (smH.trans sc) (smH.free hc) ⟨bs.reverse, by rw [upd_same, List.map_reverse], by rw [List.length_reverse, hbl], fun i a e => ?_⟩
    have hi : i < bs.length := by
      have := (List.getElem?_eq_some_iff.mp e).1; simpa using this
    rw [List.getElem?_reverse hi] at e
    have := (hbs _ a e).2
    rw [show zs.length - (bs.length - 1 - i) = i by omega] at this
    exact sc _ _ this
def spShort : Sp := fun vs H Q _ => ∃ (p b : Addr) (r : Rl) (ys : List Str), vs = [.ref p, .ref b] ∧ RuleAt H p r ∧ RlOk r ∧ r.ws.Nodup ∧ H b = some (.lst (ys.map V.str)) ∧ ys.length ≤ 1000 ∧
  (brkL r ys = false → ∀ H', Same H H' → Q .non H') ∧ (∀ zs z, ys = zs ++ [z] → brkL r ys = true → ∀ (c : Addr) (H' : Hp), Same H H' → H c = none → H' c = some (.lst ((shortL r zs z).map nV)) → Q (.ref c) H')
theorem gre_drop {r : Rl} {nv : Nat} {z : Str} {zs : List Str} {i k : Nat} {y : Str} (h : zs[i]? = some y) : gre r nv z (zs.drop i) i k = match step r k y with
    | none => gre r nv z (zs.drop (i + 1)) (i + 1) k
    | some w => if cnt r nv z (zs.drop (i + 1)) w < cnt r nv z (zs.drop i) k then i :: gre r nv z (zs.drop (i + 1)) (i + 1) w else gre r nv z (zs.drop (i + 1)) (i + 1) k := by
  obtain ⟨hi, e⟩ := List.getElem?_eq_some_iff.mp h
  rw [List.drop_eq_getElem_cons hi, e]
  rfl
theorem ok_short (D : DefAt K mg "shortest_breach" s_shortest_breach) (z_len : mg "len" = none) (z_range : mg "range" = none) (c_next_room : Cal P w K mg base 1 "next_room" ["rule", "room", "text"] spNext)
    (c_breaks_with_last : Cal P w K mg base 4 "breaks_with_last" ["rule", "row"] (spBreaks K)) (c_counts_by_place : Cal P w K mg base 2 "counts_by_place" ["rule", "row"] spCounts) : Cal P w K mg base 5 "shortest_breach" ["rule", "row"] spShort := by
  refine D.cal sc_shortest_breach (fun _ _ _ _ _ _ us hl => match us, hl with | [_, _], _ => rfl) (fun vs H Q E h => by obtain ⟨p, b, r, ys, rfl, _⟩ := h; rfl) (fun f cdv A outer s H vs Q E hr h => ?_)
  obtain ⟨p, b, r, ys, rfl, hR, ok, nd, hb, hy, q1, q2⟩ := h
  refine ⟨_, (pss_cons (ps_if (pt_not (pt_val (pe_cal c_breaks_with_last hr (pa_cons (pv 0 (hv := v_shortest_breach_rule)) (pa_cons (pv 1 (hv := v_shortest_breach_row)) pa_nil)) (hg := gl_shortest_breach_breaks_with_last)))) (pss_one (ps_ret pe_non)) pss_nil)
      (pss_cons (ps_let 2 sc_shortest_breach.nd (pe_cal c_counts_by_place hr (pa_cons (pv 0 (hv := v_shortest_breach_rule)) (pa_cons (pv 1 (hv := v_shortest_breach_row)) pa_nil)) (hg := gl_shortest_breach_counts_by_place)) (hx := l_shortest_breach_counts))
      (pss_cons (ps_let 3 sc_shortest_breach.nd (pe_lst pa_nil) (hx := l_shortest_breach_places))
      (pss_cons (ps_let 4 sc_shortest_breach.nd pe_int (hx := l_shortest_breach_room))
      (pss_cons (ps_for PassesOwn.never rfl (pi_range1 gl_shortest_breach_range z_range (pa_cons (pe_op op_sub (pe_blt (call_lenK K) z_len bt_len (pa_cons (pv 1 (hv := v_shortest_breach_row)) pa_nil) (hg := gl_shortest_breach_len)) pe_int) pa_nil)) (pg_let 5 sc_shortest_breach.nd (hx := l_shortest_breach_at)) (pss_cons (ps_let 6 sc_shortest_breach.nd (pe_cal c_next_room hr (pa_cons (pv 0 (hv := v_shortest_breach_rule)) (pa_cons (pv 4 (hv := v_shortest_breach_room)) (pa_cons (pe_ix (ix_K K) (pv 1 (hv := v_shortest_breach_row)) (pv 5 (hv := v_shortest_breach_at)) (fun _ _ => rfl)) pa_nil))) (hg := gl_shortest_breach_next_room)) (hx := l_shortest_breach_way))
      (pss_one (ps_if (PW.pt' (pw_and (pt_cmpR op_notNA (pv 6 (hv := v_shortest_breach_way)) pe_non (nomark _)) (pw_and1 (pt_cmpR op_ltA (pe_ix (ix_K K) (pe_ix (ix_K K) (pv 2 (hv := v_shortest_breach_counts)) (pe_op op_addA (pv 5 (hv := v_shortest_breach_at)) pe_int) (fun _ _ => rfl)) (pv 6 (hv := v_shortest_breach_way)) (fun _ _ => rfl)) (pe_ix (ix_K K) (pe_ix (ix_K K) (pv 2 (hv := v_shortest_breach_counts)) (pv 5 (hv := v_shortest_breach_at)) (fun _ _ => rfl)) (pv 4 (hv := v_shortest_breach_room)) (fun _ _ => rfl)) (nomark _))))) (pss_cons (ps_expr (pe_bmK K PySem.F.plainAttrs_list PySem.F.slot_list_append PySem.F.type_list_append mt_appendA (pv 3 (hv := v_shortest_breach_places)) (pa_cons (pv 5 (hv := v_shortest_breach_at)) pa_nil)))
      (pss_one (ps_let 4 sc_shortest_breach.nd (pv 6 (hv := v_shortest_breach_way)) (hx := l_shortest_breach_room)))) pss_nil))))
      (pss_one (ps_ret (pe_op op_addA (pv 3 (hv := v_shortest_breach_places)) (pe_lst (pa_cons (pe_op op_sub (pe_blt (call_lenK K) z_len bt_len (pa_cons (pv 1 (hv := v_shortest_breach_row)) pa_nil) (hg := gl_shortest_breach_len)) pe_int) pa_nil)))))))))), ?_⟩
  walk_at "rd1"
  refine ⟨p, b, r, ys, rfl, hR, ok, SqL.of hb, fun H1 sm1 => ?_⟩
  walk_at "rd1"
  cases hbr : brkL r ys with
  | false =>
    walk_at "rd1"
    exact q1 hbr H1 sm1
  | true =>
    walk_at "rd1"
    obtain ⟨zs, z, rfl⟩ := snoc_of (ys := ys) (fun e => by rw [e] at hbr; cases hbr)
    have q := q2 zs z rfl hbr
    unfold shortL at q
    have hzl : zs.length ≤ 1000 := by rw [List.length_append] at hy; omega
    walk_at "nx"
    refine ⟨p, b, r, zs, z, rfl, hR.mono sm1, ok, nd, sm1 _ _ hb, hzl, fun c H2 sm2 hc hC => ?_⟩
    generalize hnvv : zs.length + 2 = nv at q hC ⊢
    have sm02 := sm1.trans sm2
    walk_at "nx"
    refine ⟨by decide, fun pp hpp => ?_⟩
    generalize hH3 : upd H2 pp _ = H3
    have sm3 := al_same hH3 hpp
    have e3 := al_at hH3
    walk_at "nx"
    walk_at "nx"
    have hb3 := (sm02.trans sm3) _ _ hb
    refine ⟨_, .inl (SqL.of hb3), ?_⟩
    rw [List.length_map]
    have hl1 : ((zs ++ [z]).length : Int) - 1 = (zs.length : Int) := by simp
    rw [hl1]
    walk_at "rd1"
    refine ⟨by omega, by omega, ?_⟩
    obtain ⟨as, hca, hal, has⟩ := hC
    refine forW_range (fun i σ H' => ∃ (k : Nat) (gs : List Nat) (o5 o6 : Option V), σ = [some (.ref p), some (.ref b), some (.ref c), some (.ref pp), some (nV k), o5, o6] ∧ Same H2 H' ∧ H' pp = some (.lst (gs.map nV)) ∧ k < r.rs.length ∧ gs.length ≤ i ∧ gs ++ gre r nv z (zs.drop i) i k = gre r nv z zs 0 0)
      ⟨0, [], none, none, rfl, sm3, e3, ok.n0, Nat.le_refl _, rfl⟩ ?_ ?_
    · rintro i σ H' hi ⟨k, gs, o5, o6, rfl, sm, hp, hk, hg, e⟩
      rw [Int.toNat_natCast] at hi
      have hyi : zs[i]? = some zs[i] := List.getElem?_eq_getElem hi
      have hb' := (sm02.trans sm) _ _ hb
      rw [gre_drop hyi] at e
      have hyb : ((zs ++ [z]).map V.str)[i]? = some (.str zs[i]) := by rw [List.getElem?_map, List.getElem?_append_left hi, hyi]; rfl
      walk_at "rd1"
      refine ⟨_, _, .inl (SqL.of hb'), by rw [Int.zero_add]; exact atI_nat hyb, ?_⟩
      refine ⟨p, r, k, zs[i], rfl, hR.mono (sm02.trans sm), ok, hk, ?_⟩
      walk_at "rd1"
      cases hst : step r k zs[i] with
      | none =>
        rw [hst] at e
        walk_at "nx"
        refine ite2 (fun c => absurd c (by decide)) (fun c => ?_)
        exact ⟨k, gs, _, _, rfl, sm, hp, hk, by omega, e⟩
      | some j =>
        rw [hst] at e
        have hj := step_lt ok hk hst
        have g1 : (((cts r nv z (zs.drop (i + 1))).map nV))[j]? = some (nV (cnt r nv z (zs.drop (i + 1)) j)) := by
          rw [← cts_at ok _ _ hj, List.getElem?_map, List.getD_eq_getElem?_getD, List.getElem?_eq_getElem (by rw [cts_len]; exact hj)]; rfl
        have g2 : (((cts r nv z (zs.drop i)).map nV))[k]? = some (nV (cnt r nv z (zs.drop i) k)) := by
          rw [← cts_at ok _ _ hk, List.getElem?_map, List.getD_eq_getElem?_getD, List.getElem?_eq_getElem (by rw [cts_len]; exact hk)]; rfl
        have a1 : (as.map V.ref)[i + 1]? = some (.ref (as[i + 1]'(by omega))) := by rw [List.getElem?_map, List.getElem?_eq_getElem (by omega)]; rfl
        have a2 : (as.map V.ref)[i]? = some (.ref (as[i]'(by omega))) := by rw [List.getElem?_map, List.getElem?_eq_getElem (by omega)]; rfl
        have c1 := sm _ _ (has (i + 1) _ (List.getElem?_eq_getElem (by omega)))
        have c2 := sm _ _ (has i _ (List.getElem?_eq_getElem (by omega)))
        walk_at "nx"
        refine ite2 (fun c' => ?_) (fun c' => absurd (by simp [wayV]) c')
        refine ⟨_, _, .inl (SqL.of (sm _ _ hca)), by rw [Int.zero_add]; exact atI_nat a1, ?_⟩
        refine ⟨_, _, .inl (SqL.of c1), atI_nat g1, ?_⟩
        refine ⟨_, _, .inl (SqL.of (sm _ _ hca)), by rw [Int.zero_add]; exact atI_nat a2, ?_⟩
        refine ⟨_, _, .inl (SqL.of c2), atI_nat g2, ?_⟩
        walk_at "rd1"
        refine ite2 (fun cc => ?_) (fun cc => ?_)
        · have e' : gs ++ i :: gre r nv z (zs.drop (i + 1)) (i + 1) j = gre r nv z zs 0 0 := by
            have e0 := e
            simp only [] at e0
            rwa [if_pos (by omega)] at e0
          refine ⟨⟨_, SqL.of hp⟩, _, hp, by rw [List.length_map]; exact small' (by omega), ?_⟩
          walk_at "nx"
          refine ⟨j, gs ++ [i], _, _, rfl, sm.upd hpp _, by rw [upd_same, List.map_append]; simp, hj, by simp; omega, by rw [List.append_assoc]; exact e'⟩
        · have e' : gs ++ gre r nv z (zs.drop (i + 1)) (i + 1) k = gre r nv z zs 0 0 := by
            have e0 := e
            simp only [] at e0
            rwa [if_neg (by omega)] at e0
          exact ⟨k, gs, _, _, rfl, sm, hp, hk, by omega, e'⟩
    · rintro σ H' ⟨k, gs, o5, o6, rfl, sm, hp, hk, hg, e⟩
      rw [Int.toNat_natCast] at hg e
      rw [List.drop_length] at e
      have e' : gs = gre r nv z zs 0 0 := by rw [← e]; show gs = gs ++ []; rw [List.append_nil]
      subst e'
      walk_at "nx"
      refine ⟨_, .inl (SqL.of ((sm02.trans sm) _ _ hb)), by decide, fun lp hlp => ?_⟩
      rw [List.length_map, hl1]
      generalize hH5 : upd H' lp _ = H5
      have sm5 := al_same hH5 hlp
      have e5 := al_at hH5
      refine ⟨_, _, sm5 _ _ hp, e5, by rw [List.length_map]; exact smallL (by simp; omega), fun c' hc' => ?_⟩
      have smA := (sm02.trans sm).trans sm5
      exact q c' _ (smA.trans (same_new hc' _)) (smA.free hc') (by rw [upd_same, List.map_append]; rfl)
def spRuleN (K : PySem.W.Frag) (n : Nat) : Sp := fun vs H Q _ => ∃ (c : Int) (wp : Addr) (ss : List Str), vs = [.int c, .ref wp] ∧ SqL K H wp (ss.map V.str) ∧ ss.length = n ∧ (∀ x ∈ ss, x.length ≤ 8) ∧ ss.Nodup ∧ ∀ (p : Addr) (H' : Hp) (r : Rl), Same H H' → RuleAt H' p r → RlOk r → r.ws.Nodup → Q (.ref p) H'
/-- the rooms drawn so far -/
def RoomsTo (H : Hp) (rp : Addr) (n z i : Nat) (as : List Addr) (rows : List (List (Option Nat))) : Prop := H rp = some (.lst (as.map V.ref)) ∧ as.length = i ∧ rows.length = i ∧ (∀ (j : Nat) b x, as[j]? = some b → rows[j]? = some x → H b = some (.lst (x.map wayV)) ∧ b ≠ rp) ∧ ∀ x ∈ rows, x.length = n ∧ ∀ k, some k ∈ x → k < z
theorem RoomsTo.push {H H' : Hp} {rp L : Addr} {n z i : Nat} {as : List Addr} {rows : List (List (Option Nat))} {x : List (Option Nat)} (h : RoomsTo H rp n z i as rows) (sm : Same H H') (hL : H L = none) (hx : H' L = some (.lst (x.map wayV))) (hn : x.length = n) (hk : ∀ k, some k ∈ x → k < z) :
    RoomsTo (upd H' rp (.lst (as.map V.ref ++ [.ref L]))) rp n z (i + 1) (as ++ [L]) (rows ++ [x]) := by
  obtain ⟨hl, h1, h2, h3, h4⟩ := h
  have nL : L ≠ rp := Ne.symm (ne_of_none hl hL)
  refine ⟨by rw [upd_same, List.map_append]; rfl, by simp [h1], by simp [h2], fun j b y e1 e2 => ?_, all_push h4 ⟨hn, hk⟩⟩
  rcases Nat.lt_or_ge j i with z' | z'
  · rw [List.getElem?_append_left (by omega)] at e1 e2
    obtain ⟨q1, q2⟩ := h3 j b y e1 e2
    exact ⟨by rw [upd_ne q2]; exact sm _ _ q1, q2⟩
  · rw [List.getElem?_append_right (by omega)] at e1 e2
    have hj0 : j - as.length = 0 := by
      have := (List.getElem?_eq_some_iff.mp e1).1
      simp at this; omega
    have hj1 : j - rows.length = 0 := by omega
    rw [hj0] at e1
    rw [hj1] at e2
    have e1' : L = b := by simpa using e1
    have e2' : x = y := by simpa using e2
    subst e1' e2'
    exact ⟨by rw [upd_ne nL]; exact hx, nL⟩
theorem RoomsTo.rule {H H' : Hp} {rp wp tp : Addr} {n z : Nat} {as : List Addr} {rows : List (List (Option Nat))} {ws : List Str} {sd : Int} (h : RoomsTo H rp n z z as rows) (sm : Same H H') (hw : H wp = some (.lst (ws.map V.str))) (ht : H' tp = some (.tup [.int sd, .ref wp, .ref rp])) (hsd : sd = 1 ∨ sd = 2) (hn : ws.length = n) (n16 : n ≤ 16) (z0 : 1 ≤ z) (z1 : z ≤ 60) (hlw : ∀ x ∈ ws, x.length ≤ 10) :
    RuleAt H' tp ⟨sd, ws, rows⟩ ∧ RlOk ⟨sd, ws, rows⟩ := by
  obtain ⟨hl, h1, h2, h3, h4⟩ := h
  refine ⟨⟨wp, rp, as, ht, sm _ _ hw, sm _ _ hl, by show as.length = rows.length; omega, fun j b x e1 e2 => sm _ _ (h3 j b x e1 e2).1⟩, hsd, by show ws.length ≤ 16; omega, by show 1 ≤ rows.length; omega, by show rows.length ≤ 60; omega, fun x hx => ?_, hlw⟩
  obtain ⟨x1, x2⟩ := h4 x hx
  exact ⟨by show x.length = ws.length; omega, fun k hk => by have := x2 k hk; show k < rows.length; omega⟩
theorem share_at (l : List Int) (c : Int) (n : Nat) (h : l.length = n) (hn : 0 < n) (hb : ∀ x ∈ l, 0 < x) : ∃ v, atI (l.map V.int) (c % (n : Int)) = some (.int v) ∧ 0 < v := by
  have a1 := Int.emod_nonneg c (show (n : Int) ≠ 0 by omega)
  have a2 := Int.emod_lt_of_pos c (show (0 : Int) < n by omega)
  obtain ⟨v, hv, _⟩ := at_lst (xs := l) (i := c % (n : Int)) a1 (by omega)
  exact ⟨v, at_map a1 hv, hb v (List.mem_of_getElem? hv)⟩
theorem mod_way (mx : Int) {z : Nat} (hz : 1 ≤ z) : ∃ k : Nat, mx % (z : Int) = (k : Int) ∧ k < z := by
  have a1 := Int.emod_nonneg mx (show (z : Int) ≠ 0 by omega)
  have a2 := Int.emod_lt_of_pos mx (show (0 : Int) < z by omega)
  exact ⟨(mx % (z : Int)).toNat, by omega, by omega⟩
theorem way_push {x : List (Option Nat)} {z : Nat} {o : Option Nat} (h : ∀ k, some k ∈ x → k < z) (ho : ∀ k, o = some k → k < z) : ∀ k, some k ∈ x ++ [o] → k < z := fun k hk => by
  rcases List.mem_append.mp hk with g | g
  · exact h k g
  · exact ho k (List.mem_singleton.mp g).symm
theorem app_inj2 {a b x y : Str} (ha : a.length = 2) (hb : b.length = 2) (h : a ++ x = b ++ y) : x = y := by
  have e := congrArg (fun s : Str => s.cps.toList) h
  simp only [cps_app] at e
  have ha' : a.cps.toList.length = 2 := by rw [Array.length_toList]; exact ha
  have hb' : b.cps.toList.length = 2 := by rw [Array.length_toList]; exact hb
  exact str_ext (List.append_inj e (by omega)).2
theorem side_at (c : Int) : ∃ sd : Str, atI ([V.str "1.", V.str "2."]) (c % 2) = some (.str sd) ∧ sd.length = 2 := by
  obtain ⟨v, hv, hm⟩ := at_lst (xs := (["1.", "2."] : List Str)) (i := c % 2) (by omega) (by show c % 2 < 2; omega)
  refine ⟨v, at_map (f := V.str) (by omega) hv, ?_⟩
  have hm := List.mem_of_getElem? hv
  have key : ∀ x ∈ (["1.", "2."] : List Str), x.length = 2 := by decide +kernel
  exact key v hm
/-- texts, each with a side ahead -/
def Sided (ss ts : List Str) (i : Nat) : Prop := ts.length = i ∧ ∀ (k : Nat) t s, ts[k]? = some t → ss[k]? = some s → ∃ sd : Str, sd.length = 2 ∧ t = sd ++ s
theorem Sided.push {ss ts : List Str} {i : Nat} {sd s : Str} (h : Sided ss ts i) (hs : ss[i]? = some s) (hd : sd.length = 2) : Sided ss (ts ++ [sd ++ s]) (i + 1) := by
  obtain ⟨h1, h2⟩ := h
  refine ⟨by simp [h1], fun k t s' e1 e2 => ?_⟩
  rcases Nat.lt_or_ge k ts.length with g | g
  · rw [List.getElem?_append_left g] at e1; exact h2 k t s' e1 e2
  · rw [List.getElem?_append_right g] at e1
    have hk : k - ts.length = 0 := by
      have := (List.getElem?_eq_some_iff.mp e1).1
      simp at this; omega
    rw [hk] at e1
    have e1' : sd ++ s = t := by simpa using e1
    rw [show k = i by omega, hs] at e2
    cases e2
    exact ⟨sd, hd, e1'.symm⟩
theorem Sided.nodup {ss ts : List Str} {i : Nat} (h : Sided ss ts i) (hi : i = ss.length) (nd : ss.Nodup) : ts.Nodup := by
  obtain ⟨h1, h2⟩ := h
  rw [List.nodup_iff_pairwise_ne, List.pairwise_iff_getElem]
  intro a b ha hb hab e
  obtain ⟨s1, l1, e1⟩ := h2 a _ _ (List.getElem?_eq_getElem ha) (List.getElem?_eq_getElem (by omega))
  obtain ⟨s2, l2, e2⟩ := h2 b _ _ (List.getElem?_eq_getElem hb) (List.getElem?_eq_getElem (by omega))
  rw [e1, e2] at e
  have := app_inj2 l1 l2 e
  rw [List.nodup_iff_pairwise_ne, List.pairwise_iff_getElem] at nd
  exact nd a b _ _ hab this
theorem Sided.len {ss ts : List Str} {i : Nat} (h : Sided ss ts i) (hi : i ≤ ss.length) (hb : ∀ x ∈ ss, x.length ≤ 8) : ∀ x ∈ ts, x.length ≤ 10 := fun x hx => by
  obtain ⟨k, hk, e⟩ := List.mem_iff_getElem.mp hx
  obtain ⟨s1, l1, e1⟩ := h.2 k x _ (by rw [List.getElem?_eq_getElem hk, e]) (List.getElem?_eq_getElem (by have := h.1; omega))
  rw [e1, Str.length_append, l1]
  have := hb _ (List.getElem_mem (show k < ss.length by have := h.1; omega))
  omega
def spBrk (K : PySem.W.Frag) : Sp := fun vs H Q _ => ∃ (p b : Addr) (r : Rl) (ys : List Str), vs = [.ref p, .ref b] ∧ RuleAt H p r ∧ RlOk r ∧ H b = some (.lst (ys.map V.str)) ∧ ∀ H', Same H H' → Q (nV (brk r 0 ys)) H'
theorem brk_drop {r : Rl} {k i : Nat} {ys : List Str} {y : Str} (h : ys[i]? = some y) : brk r k (ys.drop i) = match step r k y with
    | none => 0
    | some k' => brk r k' (ys.drop (i + 1)) + 1 := by
  obtain ⟨hi, e⟩ := List.getElem?_eq_some_iff.mp h
  rw [List.drop_eq_getElem_cons hi, e]
  rfl
theorem ok_brk (D : DefAt K mg "_law_breaking" s_law_breaking) (z_len : mg "len" = none) (z_enumerate : mg "enumerate" = none) : Cal P w K mg base 1 "_law_breaking" ["_law_rule_here", "_law_row"] (spBrk K) := by
  refine D.cal sc_law_breaking (fun _ _ _ _ _ _ us hl => match us, hl with | [_, _], _ => rfl) (fun vs H Q E h => by obtain ⟨p, b, r, ys, rfl, _⟩ := h; rfl) (fun f cdv A outer s H vs Q E hr h => ?_)
  obtain ⟨p, b, r, ys, rfl, hR, ok, hb, q⟩ := h
  obtain ⟨pw, pr, as, h1, h2, h3, h4, h5⟩ := hR
  refine ⟨_, (pss_cons (ps_let 2 sc_law_breaking.nd pe_int (hx := l_law_breaking__law_room))
      (pss_cons (ps_for PassesOwn.never rfl (pi_enumK K gl_law_breaking_enumerate z_enumerate (pa_cons (pv 1 (hv := v_law_breaking__law_row)) pa_nil)) (pg_tupK K (n := 2) (pgs_cons (pg_let 3 sc_law_breaking.nd (hx := l_law_breaking__law_at)) (pgs_cons (pg_let 4 sc_law_breaking.nd (hx := l_law_breaking__law_text)) pgs_nil))) (pss_one (ps_if (pt_cmpR (op_inK K) (pv 4 (hv := v_law_breaking__law_text)) (pe_ix (ix_K K) (pv 0 (hv := v_law_breaking__law_rule_here)) pe_int (fun _ _ => rfl)) (by with_unfolding_all rfl)) (pss_cons (ps_let 2 sc_law_breaking.nd (pe_ix (ix_K K) (pe_ix (ix_K K) (pe_ix (ix_K K) (pv 0 (hv := v_law_breaking__law_rule_here)) pe_int (fun _ _ => rfl)) (pv 2 (hv := v_law_breaking__law_room)) (fun _ _ => rfl)) (pe_bmK K PySem.F.plainAttrs_list PySem.F.slot_list_index PySem.F.type_list_index (mt_indexS K) (pe_ix (ix_K K) (pv 0 (hv := v_law_breaking__law_rule_here)) pe_int (fun _ _ => rfl)) (pa_cons (pv 4 (hv := v_law_breaking__law_text)) pa_nil)) (fun _ _ => rfl)) (hx := l_law_breaking__law_room))
      (pss_one (ps_if (pt_cmpR op_isNA (pv 2 (hv := v_law_breaking__law_room)) pe_non (nomark _)) (pss_one (ps_ret (pv 3 (hv := v_law_breaking__law_at)))) pss_nil))) pss_nil)))
      (pss_one (ps_ret (pe_blt (call_lenK K) z_len bt_len (pa_cons (pv 1 (hv := v_law_breaking__law_row)) pa_nil) (hg := gl_law_breaking_len)))))), ?_⟩
  walk_at "rd1"
  walk_at "nx"
  refine ⟨⟨_, hb⟩, ?_⟩
  refine forW_enum (xs := ys.map V.str) (fun i σ H' => ∃ (k : Nat) (o3 o4 : Option V), σ = [some (.ref p), some (.ref b), some (nV k), o3, o4] ∧ Same H H' ∧ k < r.rs.length ∧ brk r 0 ys = i + brk r k (ys.drop i))
    ⟨0, none, none, rfl, Same.refl H, ok.n0, by simp⟩ (fun i σ H' _ h => by obtain ⟨_, _, _, _, sm, _⟩ := h; exact SqL.of (sm _ _ hb)) ?_ ?_
  · rintro i v t σ H' hv ⟨k, o3, o4, rfl, sm, hk, e⟩ ht
    have hi : i < ys.length := by have := (List.getElem?_eq_some_iff.mp hv).1; simpa using this
    have hyi : ys[i]? = some ys[i] := List.getElem?_eq_getElem hi
    rw [List.getElem?_map, hyi] at hv
    cases hv
    rw [brk_drop hyi] at e
    have st := same_new ht (.tup [nV i, .str ys[i]])
    have ett : upd H' t (.tup [nV i, .str ys[i]]) t = some (.tup [nV i, .str ys[i]]) := upd_same
    have smt := sm.trans st
    generalize upd H' t (.tup [nV i, .str ys[i]]) = Ht at st ett smt ⊢
    generalize ys[i] = y at e ett ⊢
    obtain ⟨b', hb'⟩ : ∃ b, as[k]? = some b := ⟨as[k], List.getElem?_eq_getElem (by omega)⟩
    obtain ⟨x, hx⟩ : ∃ x, r.rs[k]? = some x := ⟨_, List.getElem?_eq_getElem hk⟩
    walk_at "rd1"
    refine ⟨t, _, rfl, SqT.of ett, rfl, ?_⟩
    walk_at "rd1"
    refine ⟨_, _, .inr (SqT.of (smt _ _ h1)), rfl, ?_⟩
    walk_at "rd1"
    refine ⟨_, .inl (SqL.of (smt _ _ h2)), rfl, flat_strs _, ?_⟩
    rw [inV_str]
    refine ite2 (fun c => ?_) (fun c => ?_)
    · have hy : y ∈ r.ws := by simpa using c
      refine ⟨_, _, .inr (SqT.of (smt _ _ h1)), rfl, ?_⟩
      walk_at "rd1"
      refine ⟨_, _, .inl (SqL.of (smt _ _ h3)), at_map (by omega) (by simpa using hb'), ?_⟩
      walk_at "rd1"
      refine ⟨_, _, .inr (SqT.of (smt _ _ h1)), rfl, ?_⟩
      walk_at "rd1"
      refine ⟨⟨_, SqL.of (smt _ _ h2)⟩, _, SqL.of (smt _ _ h2), hy, ?_⟩
      refine ⟨_, _, .inl (SqL.of (smt _ _ (h5 k b' x hb' hx))), atI_nat (way_val ok hx hy), ?_⟩
      cases hst : step r k y with
      | none =>
        rw [hst] at e
        walk_at "nx"
        refine ite2 (fun c => ?_) (fun c => absurd rfl c)
        have e' : brk r 0 ys = i := e
        have q' := q Ht smt
        rw [e'] at q'; exact q'
      | some k' =>
        rw [hst] at e
        walk_at "nx"
        refine ite2 (fun c => by cases c) (fun c => ?_)
        exact ⟨k', _, _, rfl, smt, step_lt ok hk hst, by have e' : brk r 0 ys = i + (brk r k' (ys.drop (i + 1)) + 1) := e; omega⟩
    · have hy : y ∉ r.ws := by simpa using c
      have es : step r k y = some k := by unfold step; rw [if_neg hy]
      rw [es] at e
      exact ⟨k, _, _, rfl, smt, hk, by have e' : brk r 0 ys = i + (brk r k (ys.drop (i + 1)) + 1) := e; omega⟩
  · rintro σ H' ⟨k, o3, o4, rfl, sm, hk, e⟩
    rw [List.length_map, List.drop_length] at e
    walk_at "nx"
    refine ⟨_, .inl (SqL.of (sm _ _ hb)), ?_⟩
    rw [List.length_map]
    have e' : brk r 0 ys = ys.length := e
    have q' := q H' sm
    rw [e'] at q'; exact q'
def spWhole : Sp := fun vs H Q _ => ∃ n : Int, vs = [.int n] ∧ Q (.bl true) H
theorem ok_whole (D : DefAt K mg "_law_whole" s_law_whole) (z_isinstance : mg "isinstance" = none) (z_int : mg "int" = none) (z_bool : mg "bool" = none) : Cal P w K mg base 1 "_law_whole" ["_law_found"] spWhole := by
  refine D.cal sc_law_whole (fun _ _ _ _ _ _ us hl => match us, hl with | [_], _ => rfl) (fun vs H Q E h => by obtain ⟨n, rfl, _⟩ := h; rfl) (fun f cdv A outer s H vs Q E hr h => ?_)
  obtain ⟨n, rfl, q⟩ := h
  refine ⟨_, (pss_one (ps_ret (pe_and (pe_blt call_isT z_isinstance bt_isinstance (pa_cons (pv 0 (hv := v_law_whole__law_found)) (pa_cons (pe_gty z_int bt_int (hg := gl_law_whole_int)) pa_nil)) (hg := gl_law_whole_isinstance)) (pe_one (pe_not (pe_blt call_isT z_isinstance bt_isinstance (pa_cons (pv 0 (hv := v_law_whole__law_found)) (pa_cons (pe_gty z_bool bt_bool (hg := gl_law_whole_bool)) pa_nil)) (hg := gl_law_whole_isinstance))))))), ?_⟩
  walk_at "rd1"
  refine ⟨"int", rfl, by decide, ?_⟩
  refine ite2 (fun _ => ?_) (fun c => absurd (by decide) c)
  refine ⟨"int", rfl, by decide, ?_⟩
  exact q
theorem ok_rule (D : DefAt K mg "_law_rule" s_law_rule) (z_range : mg "range" = none) (z_len : mg "len" = none) (z_sorted : mg "sorted" = none) (c_law_mixed : Cal P w K mg base 1 "_law_mixed" ["_law_cell", "_law_k"] spMix) : Cal P w K mg base 2 "_law_rule" ["_law_cell", "_law_words_here"] (spRuleN K 5) := by
  refine D.cal sc_law_rule (fun _ _ _ _ _ _ us hl => match us, hl with | [_, _], _ => rfl) (fun vs H Q E h => by obtain ⟨c, wp, ss, rfl, _⟩ := h; rfl) (fun f cdv A outer s H vs Q E hr h => ?_)
  obtain ⟨c, wp, ss, rfl, hS, hss, hsl, hnd, q⟩ := h
  refine ⟨_, (pss_cons (ps_let 2 sc_law_rule.nd (pe_op op_addA pe_int (pe_op op_mod (pe_op op_fdiv (pv 0 (hv := v_law_rule__law_cell)) pe_int) pe_int)) (hx := l_law_rule__law_sides))
      (pss_cons (ps_let 3 sc_law_rule.nd (pe_blt (call_sortS K) z_sorted bt_sorted (pa_cons (pe_comp (CompSc.to (fsc := (defScope s_law_rule)) (N := ["_law_cell", "_law_words_here", "_law_sides", "_law_texts", "_law_many", "_law_rooms", "_law_room", "_law_row", "_law_j", "_law_number"]) (N0 := ["_law_cell", "_law_words_here", "_law_sides", "_law_texts", "_law_many", "_law_rooms", "_law_room", "_law_row", "_law_j", "_law_number"]) (T := ["_law_k"]) ⟨by decide +kernel, by decide +kernel, by decide +kernel, by decide +kernel, by decide +kernel, by decide +kernel, by decide +kernel⟩ rfl rfl) rfl (pi_range1 gl_law_rule_range z_range (pa_cons (pe_blt (call_lenK K) z_len bt_len (pa_cons (pv 1 (hv := v_law_rule__law_words_here)) pa_nil) (hg := gl_law_rule_len)) pa_nil)) (fun _ _ _ _ => (pg_let 10 (show (["_law_cell", "_law_words_here", "_law_sides", "_law_texts", "_law_many", "_law_rooms", "_law_room", "_law_row", "_law_j", "_law_number", "_law_k"] : List Str).Nodup from by decide +kernel) (hx := (locC (defScope s_law_rule) (by decide +kernel))) (hf := fnC (defScope s_law_rule) (by decide +kernel)))) (gfr_name (show (["_law_cell", "_law_words_here", "_law_sides", "_law_texts", "_law_many", "_law_rooms", "_law_room", "_law_row", "_law_j", "_law_number"] : List Str).length ≤ 10 from by decide)) (fun _ _ _ _ => (pifs_one (pt_cmpR op_gt (pe_op op_mod (pe_cal c_law_mixed hr (pa_cons (pv 0 (hv := (visC (defScope s_law_rule) (by decide +kernel)))) (pa_cons (pe_op op_addA pe_int (pv 10 (hv := (visC (defScope s_law_rule) (by decide +kernel))))) pa_nil)) (hg := (glC (defScope s_law_rule) (by decide +kernel)))) pe_int) pe_int (nomark _)))) (fun _ _ _ _ => (pe_ix (ix_K K) (pv 1 (hv := (visC (defScope s_law_rule) (by decide +kernel)))) (pv 10 (hv := (visC (defScope s_law_rule) (by decide +kernel)))) (fun _ _ => rfl)))) pa_nil) (hg := gl_law_rule_sorted)) (hx := l_law_rule__law_texts))
      (pss_cons (ps_if (pt_cmpR op_eqA (pv 2 (hv := v_law_rule__law_sides)) pe_int (nomark _)) (pss_one (ps_let 3 sc_law_rule.nd (pe_blt (call_sortS K) z_sorted bt_sorted (pa_cons (pe_comp (CompSc.to (fsc := (defScope s_law_rule)) (N := ["_law_cell", "_law_words_here", "_law_sides", "_law_texts", "_law_many", "_law_rooms", "_law_room", "_law_row", "_law_j", "_law_number"]) (N0 := ["_law_cell", "_law_words_here", "_law_sides", "_law_texts", "_law_many", "_law_rooms", "_law_room", "_law_row", "_law_j", "_law_number"]) (T := ["_law_k"]) ⟨by decide +kernel, by decide +kernel, by decide +kernel, by decide +kernel, by decide +kernel, by decide +kernel, by decide +kernel⟩ rfl rfl) rfl (pi_range1 gl_law_rule_range z_range (pa_cons (pe_blt (call_lenK K) z_len bt_len (pa_cons (pv 3 (hv := v_law_rule__law_texts)) pa_nil) (hg := gl_law_rule_len)) pa_nil)) (fun _ _ _ _ => (pg_let 10 (show (["_law_cell", "_law_words_here", "_law_sides", "_law_texts", "_law_many", "_law_rooms", "_law_room", "_law_row", "_law_j", "_law_number", "_law_k"] : List Str).Nodup from by decide +kernel) (hx := (locC (defScope s_law_rule) (by decide +kernel))) (hf := fnC (defScope s_law_rule) (by decide +kernel)))) (gfr_name (show (["_law_cell", "_law_words_here", "_law_sides", "_law_texts", "_law_many", "_law_rooms", "_law_room", "_law_row", "_law_j", "_law_number"] : List Str).length ≤ 10 from by decide)) (fun _ _ _ _ => pifs_nil) (fun _ _ _ _ => (pe_op op_addA (pe_ix (ix_K K) (pe_lst (pa_cons pe_str (pa_cons pe_str pa_nil))) (pe_op op_mod (pe_cal c_law_mixed hr (pa_cons (pv 0 (hv := (visC (defScope s_law_rule) (by decide +kernel)))) (pa_cons (pe_op op_addA pe_int (pv 10 (hv := (visC (defScope s_law_rule) (by decide +kernel))))) pa_nil)) (hg := (glC (defScope s_law_rule) (by decide +kernel)))) pe_int) (fun _ _ => rfl)) (pe_ix (ix_K K) (pv 3 (hv := (visC (defScope s_law_rule) (by decide +kernel)))) (pv 10 (hv := (visC (defScope s_law_rule) (by decide +kernel)))) (fun _ _ => rfl))))) pa_nil) (hg := gl_law_rule_sorted)) (hx := l_law_rule__law_texts))) pss_nil)
      (pss_cons (ps_let 4 sc_law_rule.nd (pe_op op_addA pe_int (pe_op op_mod (pe_op op_fdiv (pv 0 (hv := v_law_rule__law_cell)) pe_int) pe_int)) (hx := l_law_rule__law_many))
      (pss_cons (ps_if (pt_cmpR op_eqA (pe_op op_mod (pe_op op_fdiv (pv 0 (hv := v_law_rule__law_cell)) pe_int) pe_int) pe_int (nomark _)) (pss_one (ps_let 4 sc_law_rule.nd (pe_op op_addA pe_int (pe_op op_mod (pe_op op_fdiv (pv 0 (hv := v_law_rule__law_cell)) pe_int) pe_int)) (hx := l_law_rule__law_many))) pss_nil)
      (pss_cons (ps_let 5 sc_law_rule.nd (pe_lst pa_nil) (hx := l_law_rule__law_rooms))
      (pss_cons (ps_for PassesOwn.never rfl (pi_range1 gl_law_rule_range z_range (pa_cons (pv 4 (hv := v_law_rule__law_many)) pa_nil)) (pg_let 6 sc_law_rule.nd (hx := l_law_rule__law_room)) (pss_cons (ps_let 7 sc_law_rule.nd (pe_lst pa_nil) (hx := l_law_rule__law_row))
      (pss_cons (ps_for PassesOwn.never rfl (pi_range1 gl_law_rule_range z_range (pa_cons (pe_blt (call_lenK K) z_len bt_len (pa_cons (pv 3 (hv := v_law_rule__law_texts)) pa_nil) (hg := gl_law_rule_len)) pa_nil)) (pg_let 8 sc_law_rule.nd (hx := l_law_rule__law_j)) (pss_cons (ps_let 9 sc_law_rule.nd (pe_cal c_law_mixed hr (pa_cons (pv 0 (hv := v_law_rule__law_cell)) (pa_cons (pe_op op_addA (pe_op op_addA pe_int (pe_op op_mulB pe_int (pv 6 (hv := v_law_rule__law_room)))) (pv 8 (hv := v_law_rule__law_j))) pa_nil)) (hg := gl_law_rule__law_mixed)) (hx := l_law_rule__law_number))
      (pss_one (ps_if (pt_cmpR op_eqA (pe_op op_mod (pe_op op_fdiv (pv 9 (hv := v_law_rule__law_number)) pe_int) (pe_ix (ix_K K) (pe_lst (pa_cons pe_int (pa_cons pe_int (pa_cons pe_int pa_nil)))) (pe_op op_mod (pv 0 (hv := v_law_rule__law_cell)) pe_int) (fun _ _ => rfl))) pe_int (nomark _)) (pss_one (ps_expr (pe_bmK K PySem.F.plainAttrs_list PySem.F.slot_list_append PySem.F.type_list_append mt_appendA (pv 7 (hv := v_law_rule__law_row)) (pa_cons pe_non pa_nil)))) (pss_one (ps_expr (pe_bmK K PySem.F.plainAttrs_list PySem.F.slot_list_append PySem.F.type_list_append mt_appendA (pv 7 (hv := v_law_rule__law_row)) (pa_cons (pe_op op_mod (pv 9 (hv := v_law_rule__law_number)) (pv 4 (hv := v_law_rule__law_many))) pa_nil))))))))
      (pss_one (ps_expr (pe_bmK K PySem.F.plainAttrs_list PySem.F.slot_list_append PySem.F.type_list_append mt_appendA (pv 5 (hv := v_law_rule__law_rooms)) (pa_cons (pv 7 (hv := v_law_rule__law_row)) pa_nil)))))))
      (pss_one (ps_ret (pe_tup (pa_cons (pv 2 (hv := v_law_rule__law_sides)) (pa_cons (pv 3 (hv := v_law_rule__law_texts)) (pa_cons (pv 5 (hv := v_law_rule__law_rooms)) pa_nil))))))))))))), ?_⟩
  walk_at "rd1"
  refine ⟨⟨by decide, by decide⟩, by decide, ?_⟩
  have hsd0 : ∃ sd : Int, 1 + c / 12 % 2 = sd ∧ (sd = 1 ∨ sd = 2) := ⟨_, rfl, by omega⟩
  obtain ⟨sd, esd, hsd⟩ := hsd0
  rw [esd]
  walk_at "nx"
  refine ⟨_, .inl hS, ?_⟩
  rw [List.length_map, hss]
  walk_at "rd1"
  refine ⟨by decide, by decide, fun L hL => ?_⟩
  refine compT_range (n := 5) (fun i ys H' => ∃ us : List Str, Same H H' ∧ H' L = some (.lst ys) ∧ ys = us.map V.str ∧ us.length ≤ i ∧ us.Sublist (ss.take i)) ⟨[], same_new hL _, upd_same, rfl, Nat.le_refl _, List.nil_sublist _⟩ ?_ ?_
  · rintro i ys H' hi ⟨us, sm, hl, rfl, hul, hus⟩
    have hi5 : i < ss.length := by omega
    have hst : (ss.take (i + 1)) = ss.take i ++ [ss[i]] := by rw [List.take_add_one, List.getElem?_eq_getElem hi5]; rfl
    walk_at "rd1"
    refine ⟨c, _, rfl, by omega, by omega, ?_⟩
    walk_at "rd1"
    refine ⟨by decide, ite2 (fun _ => ?_) (fun _ => ?_)⟩
    · refine ⟨_, _, .inl (sm.seq hS), by rw [Int.zero_add]; exact atI_nat (v := .str ss[i]) (by rw [List.getElem?_map, List.getElem?_eq_getElem hi5]; rfl), ?_⟩
      exact cstepT hi (by rw [List.length_map]; exact hul) (smallL (by decide)) hl ⟨us ++ [ss[i]], sm.upd hL _, upd_same, map_push _ _, by simp; omega, by rw [hst]; exact hus.append (List.Sublist.refl _)⟩
    · exact cskip hi ⟨us, sm, hl, rfl, by omega, by rw [hst]; exact hus.trans (List.sublist_append_left _ _)⟩
  rintro ys H1 ⟨us, sm1, hl1, rfl, hul, hus⟩
  have hus' : us.Sublist ss := hus.trans (List.take_sublist _ _)
  walk_at "rd1"
  refine ⟨us, SqL.of hl1, by omega, fun xp0 ts0 hxp hperm _ => ?_⟩
  obtain ⟨m, htl0, m1⟩ : ∃ m : Nat, ts0.length = m ∧ m ≤ 5 := ⟨_, rfl, by rw [hperm.length_eq]; exact hul⟩
  have htd0 : ts0.Nodup := hperm.nodup_iff.mpr (hus'.nodup hnd)
  have htb0 : ∀ x ∈ ts0, x.length ≤ 8 := fun x hx => hsl x (hus'.subset (hperm.mem_iff.mp hx))
  generalize hH2 : upd H1 xp0 _ = H2
  have sm2 := al_same hH2 hxp
  have e2 := al_at hH2
  refine seq_by (fun σ' H' => ∃ (xp : Addr) (ts : List Str), σ' = [some (.int c), some (.ref wp), some (.int sd), some (.ref xp), none, none, none, none, none, none] ∧ Same H2 H' ∧ H' xp = some (.lst (ts.map V.str)) ∧ ts.length = m ∧ ts.Nodup ∧ ∀ x ∈ ts, x.length ≤ 10) (fun k hk => ?_) ?_
  · walk_at "rd1"
    refine ite2 (fun _ => ?_) (fun _ => ?_)
    · refine ⟨_, .inl (SqL.of e2), ?_⟩
      rw [List.length_map, htl0]
      walk_at "rd1"
      refine ⟨by omega, by omega, fun L' hL' => ?_⟩
      rw [Int.toNat_natCast]
      refine compW_range (fun i ys H' => ∃ ts : List Str, Same H2 H' ∧ H' L' = some (.lst ys) ∧ ys = ts.map V.str ∧ Sided ts0 ts i) ⟨[], same_new hL' _, upd_same, rfl, rfl, by simp⟩ ?_ ?_
      · rintro i ys H' hi ⟨ts, sm, hl, rfl, hsd'⟩
        have hi0 : ts0[i]? = some (ts0[i]'(by omega)) := List.getElem?_eq_getElem (by omega)
        have hi8 := htb0 _ (List.getElem_mem (show i < ts0.length by omega))
        generalize ts0[i]'(by omega) = y at hi0 hi8
        obtain ⟨sd', hsd1, hsd2⟩ := side_at (mixF c (60 + (0 + (i : Int))))
        walk_at "rd1"
        refine ⟨by decide, fun lp hlp => ⟨c, _, rfl, by omega, by omega, ?_⟩⟩
        walk_at "rd1"
        have s6 := same_new hlp (.lst [V.str "1.", V.str "2."])
        refine ⟨by decide, _, _, .inl (SqL.of upd_same), hsd1, ?_⟩
        refine ⟨_, _, .inl (SqL.of ((sm.trans s6) _ _ e2)), by rw [Int.zero_add]; exact atI_nat (v := .str y) (by rw [List.getElem?_map, hi0]; rfl), ?_⟩
        walk_at "rd1"
        refine ⟨by rw [hsd2]; exact smallL (by omega), ?_⟩
        exact cstep hi (by rw [List.length_map]; exact hsd'.1) (smallL (by omega)) (s6 _ _ hl) ⟨ts ++ [sd' ++ y], (sm.trans s6).upd hL' _, upd_same, map_push _ _, hsd'.push hi0 hsd2⟩
      rintro ys H' ⟨ts, sm, hl, rfl, hsd'⟩
      have htl' := hsd'.1
      have htd' := hsd'.nodup htl0.symm htd0
      have htb' := hsd'.len (by omega) htb0
      walk_at "rd1"
      refine ⟨ts, SqL.of hl, by omega, fun xp ts' hxp' hperm' _ => ?_⟩
      refine hk _ _ ⟨xp, ts', rfl, sm.trans (same_new hxp' _), upd_same, hperm'.length_eq.trans htl', hperm'.nodup_iff.mpr htd', fun x hx => htb' x (hperm'.mem_iff.mp hx)⟩
    · exact hk _ _ ⟨xp0, ts0, rfl, Same.refl H2, e2, htl0, htd0, fun x hx => Nat.le_trans (htb0 x hx) (by decide)⟩
  rintro σ' H3 ⟨xp, ts, rfl, sm3, e3, htl, htd, htb⟩
  walk_at "nx"
  refine ⟨⟨by decide, by decide⟩, by decide, ?_⟩
  refine seq_by (fun σ' H' => ∃ z : Nat, 1 ≤ z ∧ z ≤ 60 ∧ σ' = [some (.int c), some (.ref wp), some (.int sd), some (.ref xp), some (.int (z : Int)), none, none, none, none, none] ∧ H3 = H') (fun k hk => ?_) ?_
  · walk_at "rd1"
    refine ⟨⟨by decide, by decide⟩, by decide, ite2 (fun _ => ?_) (fun _ => ?_)⟩
    · refine ⟨⟨by decide, by decide⟩, by decide, hk _ _ ⟨(1 + c / 192 % 60).toNat, by omega, by omega, ?_, rfl⟩⟩
      rw [show (((1 + c / 192 % 60).toNat : Nat) : Int) = 1 + c / 192 % 60 by omega]
    · refine hk _ _ ⟨(1 + c / 3 % 4).toNat, by omega, by omega, ?_, rfl⟩
      rw [show (((1 + c / 3 % 4).toNat : Nat) : Int) = 1 + c / 3 % 4 by omega]
  rintro σ' H' ⟨z, z0, z1, rfl, rfl⟩
  walk_at "nx"
  refine ⟨by decide, fun rp hrp => ?_⟩
  generalize hH4 : upd H3 rp _ = H4
  have sm4 := al_same hH4 hrp
  have e4 := al_at hH4
  walk_at "nx"
  refine ⟨by omega, by omega, ?_⟩
  rw [Int.toNat_natCast]
  refine forW_range (fun i σ H' => ∃ (as : List Addr) (rows : List (List (Option Nat))) (o5 o6 o7 o8 : Option V), σ = [some (.int c), some (.ref wp), some (.int sd), some (.ref xp), some (.int z), some (.ref rp), o5, o6, o7, o8] ∧ Same H3 H' ∧ RoomsTo H' rp m z i as rows)
    ⟨[], [], none, none, none, none, rfl, sm4, e4, rfl, rfl, by simp, by simp⟩ ?_ ?_
  · rintro i σ H' hi ⟨as, rows, o5, o6, o7, o8, rfl, sm, hRm⟩
    walk_at "rd1"
    refine ⟨by decide, fun L' hL' => ?_⟩
    generalize hH5 : upd H' L' _ = H5
    have sm5 := al_same hH5 hL'
    have e5 := al_at hH5
    walk_at "nx"
    refine ⟨_, .inl (SqL.of ((sm.trans sm5) _ _ e3)), ?_⟩
    rw [List.length_map, htl]
    walk_at "rd1"
    refine ⟨by omega, by omega, ?_⟩
    rw [Int.toNat_natCast]
    refine forW_range (fun j σ H5 => ∃ (x : List (Option Nat)) (o7 o8 : Option V), σ = [some (.int c), some (.ref wp), some (.int sd), some (.ref xp), some (.int z), some (.ref rp), some (.int (0 + (i : Int))), some (.ref L'), o7, o8] ∧ Same H' H5 ∧ H5 L' = some (.lst (x.map wayV)) ∧ x.length = j ∧ ∀ k, some k ∈ x → k < z)
      ⟨[], _, _, rfl, sm5, e5, rfl, by simp⟩ ?_ ?_
    · rintro j σ H5 hj ⟨x, o7, o8, rfl, sm5, hx, hxl, hxk⟩
      walk_at "rd1"
      refine ⟨.inl ⟨by decide, by decide⟩, c, _, rfl, by omega, by omega, ?_⟩
      obtain ⟨m0', m1'⟩ := mixF_bd c (100 + 17 * (0 + (i : Int)) + (0 + (j : Int)))
      generalize mixF c (100 + 17 * (0 + (i : Int)) + (0 + (j : Int))) = mx at m0' m1'
      walk_at "nx"
      obtain ⟨sh, hsh, sh0⟩ := share_at [3, 9, 30] c 3 rfl (by decide) (by decide)
      refine ⟨⟨by decide, by decide⟩, by decide, fun lp hlp => ⟨by decide, _, _, .inl (SqL.of upd_same), hsh, ?_⟩⟩
      have s6 := same_new hlp (.lst [V.int 3, V.int 9, V.int 30])
      have hx6 := s6 _ _ hx
      have sm6 := sm5.trans s6
      generalize upd H5 lp (.lst [V.int 3, V.int 9, V.int 30]) = H6 at s6 hx6 sm6 ⊢
      have fin : ∀ (o : Option Nat), (∀ k, o = some k → k < z) → ∃ (x' : List (Option Nat)) (o7 o8 : Option V), [some (V.int c), some (.ref wp), some (.int sd), some (.ref xp), some (.int z), some (.ref rp), some (.int (0 + (i : Int))), some (.ref L'), some (.int (0 + (j : Int))), some (.int mx)] = [some (.int c), some (.ref wp), some (.int sd), some (.ref xp), some (.int z), some (.ref rp), some (.int (0 + (i : Int))), some (.ref L'), o7, o8] ∧ Same H' (upd H6 L' (.lst (x.map wayV ++ [wayV o]))) ∧ (upd H6 L' (.lst (x.map wayV ++ [wayV o]))) L' = some (.lst (x'.map wayV)) ∧ x'.length = j + 1 ∧ ∀ k, some k ∈ x' → k < z := fun o ho =>
        ⟨x ++ [o], _, _, rfl, sm6.upd hL' _, by rw [upd_same, List.map_append]; rfl, len_push hxl, way_push hxk ho⟩
      have hz0 : (0 : Int) < (z : Int) := by omega
      have put : ∀ n : Int, ∃ k : Nat, n % (z : Int) = (k : Int) ∧ k < z := fun n => mod_way n z0
      walk_at "rd1"
      refine ⟨sh0, ite2 (fun _ => ?_) (fun _ => ?_)⟩
      · exact ⟨⟨_, SqL.of hx6⟩, _, hx6, by rw [List.length_map]; exact small' (by omega), fin none fun k e => by cases e⟩
      · have go : ∀ n : Int, (∃ xs, SqL K H6 L' xs) ∧ 0 < (z : Int) ∧ ∃ xs, H6 L' = some (HO.lst xs) ∧ xs.length < sizeLine ∧ ∃ (x' : List (Option Nat)) (o7 o8 : Option V), [some (V.int c), some (.ref wp), some (.int sd), some (.ref xp), some (.int z), some (.ref rp), some (.int (0 + (i : Int))), some (.ref L'), some (.int (0 + (j : Int))), some (.int mx)] = [some (.int c), some (.ref wp), some (.int sd), some (.ref xp), some (.int z), some (.ref rp), some (.int (0 + (i : Int))), some (.ref L'), o7, o8] ∧ Same H' (upd H6 L' (.lst (xs ++ [.int (n % (z : Int))]))) ∧ (upd H6 L' (.lst (xs ++ [.int (n % (z : Int))]))) L' = some (.lst (x'.map wayV)) ∧ x'.length = j + 1 ∧ ∀ k, some k ∈ x' → k < z := fun n => by
          obtain ⟨k, ek, hk⟩ := put n
          rw [ek]
          exact ⟨⟨_, SqL.of hx6⟩, hz0, _, hx6, by rw [List.length_map]; exact small' (by omega), fin (some k) fun k' e => by cases e; exact hk⟩
        exact go mx
    · rintro σ H5 ⟨x, o7, o8, rfl, sm5, hx, hxl, hxk⟩
      walk_at "nx"
      refine ⟨⟨_, SqL.of (sm5 _ _ hRm.1)⟩, _, sm5 _ _ hRm.1, by rw [List.length_map, hRm.2.1]; exact small' (by omega), ?_⟩
      exact ⟨_, _, _, _, _, _, rfl, (sm.trans sm5).upd hrp _, hRm.push sm5 hL' hx hxl hxk⟩
  · rintro σ H' ⟨as, rows, o5, o6, o7, o8, rfl, sm, hRm⟩
    walk_at "nx"
    refine ⟨by decide, fun tp htp => ?_⟩
    have smt := same_new htp (.tup [.int sd, .ref xp, .ref rp])
    obtain ⟨hR, ok⟩ := hRm.rule smt (sm _ _ e3) upd_same hsd htl (by omega) z0 z1 htb
    exact q tp _ _ ((((sm1.trans sm2).trans sm3).trans sm).trans smt) hR ok htd
theorem brkL_brk (r : Rl) (ys : List Str) : brkL r ys = decide (brk r 0 ys + 1 = ys.length) := by
  by_cases h : ys = []
  · subst h; rfl
  · obtain ⟨zs, z, rfl⟩ := snoc_of h
    rw [brkL_snoc, brk_snoc, List.length_append]
    simp
theorem brk_pre (r : Rl) : ∀ (ys xs : List Str) (k : Nat), brk r k ys < ys.length → brk r k (ys ++ xs) = brk r k ys
  | [], _, _, h => by simp [brk] at h
  | y :: ys, xs, k, h => by
    rw [List.cons_append]
    cases hs : step r k y with
    | none =>
      have e : ∀ l, brk r k (y :: l) = 0 := fun l => by conv => lhs; unfold brk; rw [hs]
      rw [e, e]
    | some j =>
      have e : ∀ l, brk r k (y :: l) = brk r j l + 1 := fun l => by conv => lhs; unfold brk; rw [hs]
      rw [e] at h
      rw [e, e, brk_pre r ys xs j (by rw [List.length_cons] at h; omega)]
theorem brk_cut (r : Rl) : ∀ (ys : List Str) (k : Nat), brk r k (ys.take (brk r k ys)) = brk r k ys
  | [], k => rfl
  | y :: ys, k => by
    cases hs : step r k y with
    | none =>
      have e : ∀ l, brk r k (y :: l) = 0 := fun l => by conv => lhs; unfold brk; rw [hs]
      rw [e]; rfl
    | some j =>
      have e : ∀ l, brk r k (y :: l) = brk r j l + 1 := fun l => by conv => lhs; unfold brk; rw [hs]
      rw [e, List.take_succ_cons, e, brk_cut r ys j]
theorem spShort_no {p b : Addr} {r : Rl} {ys : List Str} {H : Hp} {Q : VK} {E : XK} (hR : RuleAt H p r) (ok : RlOk r) (nd : r.ws.Nodup) (hb : H b = some (.lst (ys.map V.str))) (hl : ys.length ≤ 1000) (hn : brk r 0 ys + 1 ≠ ys.length) (q : ∀ H', Same H H' → Q .non H') : spShort [.ref p, .ref b] H Q E :=
  ⟨p, b, r, ys, rfl, hR, ok, nd, hb, hl, fun _ H' sm => q H' sm, fun zs z ez hbt => by
    rw [brkL_brk, decide_eq_true_eq] at hbt
    exact absurd hbt hn⟩
theorem ok_law {f : Addr} {fd : FuncData} (F : Fun K "law" "law" s_law f fd) (z_len : mg "len" = none) (z_list : mg "list" = none) (z_isinstance : mg "isinstance" = none)
    (c_law_cell_at : Cal P w K mg base 1 "_law_cell_at" ["_law_script", "_law_k"] (spCell K)) (c_law_mixed : Cal P w K mg base 1 "_law_mixed" ["_law_cell", "_law_k"] spMix) (c_law_words : Cal P w K mg base 2 "_law_words" ["_law_cell", "_law_many"] spWordsN)
    (c_law_rule : Cal P w K mg base 2 "_law_rule" ["_law_cell", "_law_words_here"] (spRuleN K 5)) (c_law_breaking : Cal P w K mg base 1 "_law_breaking" ["_law_rule_here", "_law_row"] (spBrk K))
    (c_law_whole : Cal P w K mg base 1 "_law_whole" ["_law_found"] spWhole) (c_shortest_breach : Cal P w K mg base 5 "shortest_breach" ["rule", "row"] spShort) : FnOk P w K mg base CX0 6 f fd ["_law_script"] (spLaw K) := by
  refine F.ok sc_law (fun vs H Q E h => by obtain ⟨a, ns, rfl, _⟩ := h; rfl) (fun cdv A outer s H vs Q E hr h => ?_)
  obtain ⟨a, ns, rfl, hS, h63, q⟩ := h
  refine ⟨_, (pss_cons (ps_let 1 sc_law.nd (pe_cal c_law_words hr (pa_cons (pe_cal c_law_cell_at hr (pa_cons (pv 0 (hv := v_law__law_script)) (pa_cons pe_int pa_nil)) (hg := gl_law__law_cell_at)) (pa_cons pe_int pa_nil)) (hg := gl_law__law_words)) (hx := l_law__law_words_here))
      (pss_cons (ps_let 2 sc_law.nd (pe_cal c_law_rule hr (pa_cons (pe_cal c_law_cell_at hr (pa_cons (pv 0 (hv := v_law__law_script)) (pa_cons pe_int pa_nil)) (hg := gl_law__law_cell_at)) (pa_cons (pv 1 (hv := v_law__law_words_here)) pa_nil)) (hg := gl_law__law_rule)) (hx := l_law__law_rule_here))
      (pss_cons (ps_let 3 sc_law.nd (pe_op op_addA (pe_ix (ix_K K) (pv 2 (hv := v_law__law_rule_here)) pe_int (fun _ _ => rfl)) (pe_lst (pa_cons (pe_op op_mulB pe_str pe_int) (pa_cons pe_str pa_nil)))) (hx := l_law__law_texts))
      (pss_cons (ps_if (pt_cmpR op_eqA (pe_ix (ix_K K) (pv 2 (hv := v_law__law_rule_here)) pe_int (fun _ _ => rfl)) pe_int (nomark _)) (pss_one (ps_let 3 sc_law.nd (pe_op op_addA (pe_ix (ix_K K) (pv 2 (hv := v_law__law_rule_here)) pe_int (fun _ _ => rfl)) (pe_lst (pa_cons pe_str (pa_cons (pe_op op_addA pe_str (pe_ix (ix_K K) (pv 1 (hv := v_law__law_words_here)) pe_int (fun _ _ => rfl))) pa_nil)))) (hx := l_law__law_texts))) pss_nil)
      (pss_cons (ps_setcomp (CompSc.to (fsc := (defScope s_law)) (N := ["_law_script", "_law_words_here", "_law_rule_here", "_law_texts", "_law_row", "_law_at", "_law_handed", "_law_found"]) (N0 := ["_law_script", "_law_words_here", "_law_rule_here", "_law_texts", "_law_row", "_law_at", "_law_handed", "_law_found"]) (T := ["_law_cell"]) ⟨by decide +kernel, by decide +kernel, by decide +kernel, by decide +kernel, by decide +kernel, by decide +kernel, by decide +kernel⟩ rfl rfl) rfl sc_law.nd (i := 4) rfl k_law__law_row (pi_listK K (pe_slice (sl_listK K) (pv 0 (hv := v_law__law_script)) (po_some pe_int) (po_some pe_int))) (fun _ _ _ _ => (pg_let 8 (show (["_law_script", "_law_words_here", "_law_rule_here", "_law_texts", "_law_row", "_law_at", "_law_handed", "_law_found", "_law_cell"] : List Str).Nodup from by decide +kernel) (hx := (locC (defScope s_law) (by decide +kernel))) (hf := fnC (defScope s_law) (by decide +kernel)))) (gfr_name (show (["_law_script", "_law_words_here", "_law_rule_here", "_law_texts", "_law_row", "_law_at", "_law_handed", "_law_found"] : List Str).length ≤ 8 from by decide)) (fun _ _ _ _ => pifs_nil) (fun _ _ _ _ => (pe_ix (ix_K K) (pv 3 (hv := (visC (defScope s_law) (by decide +kernel)))) (pe_op op_mod (pe_cal c_law_mixed hr (pa_cons (pv 8 (hv := (visC (defScope s_law) (by decide +kernel)))) (pa_cons pe_int pa_nil)) (hg := (glC (defScope s_law) (by decide +kernel)))) (pe_blt (call_lenK K) z_len bt_len (pa_cons (pv 3 (hv := (visC (defScope s_law) (by decide +kernel)))) pa_nil) (hg := (glC (defScope s_law) (by decide +kernel))))) (fun _ _ => rfl))))
      (pss_cons (ps_let 5 sc_law.nd (pe_cal c_law_breaking hr (pa_cons (pv 2 (hv := v_law__law_rule_here)) (pa_cons (pv 4 (hv := v_law__law_row)) pa_nil)) (hg := gl_law__law_breaking)) (hx := l_law__law_at))
      (pss_cons (ps_if (PW.pt' (pw_or (pt_cmpR op_notNA (pe_cal c_shortest_breach hr (pa_cons (pv 2 (hv := v_law__law_rule_here)) (pa_cons (pe_lst pa_nil) pa_nil)) (hg := gl_law_shortest_breach)) pe_non (nomark _)) (pw_or1 (pt_cmpR op_notNA (pe_cal c_shortest_breach hr (pa_cons (pv 2 (hv := v_law__law_rule_here)) (pa_cons (pe_slice (sl_listK K) (pv 4 (hv := v_law__law_row)) po_none (po_some (pv 5 (hv := v_law__law_at)))) pa_nil)) (hg := gl_law_shortest_breach)) pe_non (nomark _))))) (pss_one (ps_ret pe_bl)) pss_nil)
      (pss_cons (ps_if (pt_cmpR op_eqA (pv 5 (hv := v_law__law_at)) (pe_blt (call_lenK K) z_len bt_len (pa_cons (pv 4 (hv := v_law__law_row)) pa_nil) (hg := gl_law_len)) (nomark _)) (pss_one (ps_ret pe_bl)) pss_nil)
      (pss_cons (ps_let 6 sc_law.nd (pe_slice (sl_listK K) (pv 4 (hv := v_law__law_row)) po_none (po_some (pe_op op_addA (pv 5 (hv := v_law__law_at)) pe_int))) (hx := l_law__law_handed))
      (pss_cons (ps_let 7 sc_law.nd (pe_cal c_shortest_breach hr (pa_cons (pv 2 (hv := v_law__law_rule_here)) (pa_cons (pv 6 (hv := v_law__law_handed)) pa_nil)) (hg := gl_law_shortest_breach)) (hx := l_law__law_found))
      (pss_cons (ps_if (PW.pt' (pw_or (pt_not (pt_val (pe_blt call_isT z_isinstance bt_isinstance (pa_cons (pv 7 (hv := v_law__law_found)) (pa_cons (pe_gty z_list bt_list (hg := gl_law_list)) pa_nil)) (hg := gl_law_isinstance)))) (pw_or (pt_cmpR (op_eqKD K hr) (pv 7 (hv := v_law__law_found)) (pe_lst pa_nil) (nomark _)) (pw_or (pt_not (pt_val (pe_cal c_law_whole hr (pa_cons (pe_ix (ix_K K) (pv 7 (hv := v_law__law_found)) (pe_un un_neg pe_int) (fun _ _ => rfl)) pa_nil) (hg := gl_law__law_whole)))) (pw_or1 (pt_cmpR op_neA (pe_ix (ix_K K) (pv 7 (hv := v_law__law_found)) (pe_un un_neg pe_int) (fun _ _ => rfl)) (pv 5 (hv := v_law__law_at)) (nomark _))))))) (pss_one (ps_ret pe_bl)) pss_nil)
      (pss_cons (ps_if (PW.pt' (pw_or (pt_cmpR (op_neKD K hr) (pv 6 (hv := v_law__law_handed)) (pe_slice (sl_listK K) (pv 4 (hv := v_law__law_row)) po_none (po_some (pe_op op_addA (pv 5 (hv := v_law__law_at)) pe_int))) (nomark _)) (pw_or1 (pt_cmpR op_notNA (pe_cal c_shortest_breach hr (pa_cons (pv 2 (hv := v_law__law_rule_here)) (pa_cons (pe_op op_addA (pe_slice (sl_listK K) (pv 4 (hv := v_law__law_row)) po_none (po_some (pe_op op_addA (pv 5 (hv := v_law__law_at)) pe_int))) (pe_lst (pa_cons (pe_ix (ix_K K) (pv 3 (hv := v_law__law_texts)) pe_int (fun _ _ => rfl)) pa_nil))) pa_nil)) (hg := gl_law_shortest_breach)) pe_non (nomark _))))) (pss_one (ps_ret pe_bl)) pss_nil)
      (pss_one (ps_ret (pe_cmpR op_isNA (pe_cal c_shortest_breach hr (pa_cons (pv 2 (hv := v_law__law_rule_here)) (pa_cons (pe_op op_addA (pe_slice (sl_listK K) (pv 4 (hv := v_law__law_row)) po_none (po_some (pe_op op_addA (pv 5 (hv := v_law__law_at)) pe_int))) (pe_slice (sl_listK K) (pv 4 (hv := v_law__law_row)) (po_some (pv 5 (hv := v_law__law_at))) po_none)) pa_nil)) (hg := gl_law_shortest_breach)) pe_non (nomark _)))))))))))))))), ?_⟩
  walk_at "rd1"
  refine ⟨a, ns, 0, rfl, hS, by decide, ?_⟩
  refine ⟨_, 5, rfl, by decide, fun wp H1 ss sm1 hwp hwl hwn hwb hwd => ?_⟩
  walk_at "nx"
  refine ⟨a, ns, 1, rfl, sm1.seq hS, by decide, ?_⟩
  refine ⟨_, wp, ss, rfl, SqL.of hwl, hwn, hwb, hwd, fun p H3 r sm3 hR ok nd => ?_⟩
  obtain ⟨pw, pr, as, h1, h2, h3⟩ := id hR
  have hwl3 := sm3 _ _ hwl
  have hnw := ok.nw
  have h0s : ss[0]? = some (ss[0]'(by omega)) := List.getElem?_eq_getElem (by omega)
  have h08 := hwb _ (List.getElem_mem (show 0 < ss.length by omega))
  generalize ss[0]'(by omega) = w0 at h0s h08
  walk_at "nx"
  refine ⟨_, _, .inr (SqT.of h1), rfl, ?_⟩
  walk_at "rd1"
  refine ⟨by decide, by decide, by decide, by decide, fun l1 hl1 => ?_⟩
  have s4 := same_new hl1 (.lst [V.str (Txt.mul (Str.ofString "z") 8), V.str "open"])
  refine ⟨_, _, s4 _ _ h2, upd_same, by rw [List.length_map]; exact smallL (by simp; omega), fun tp0 htp0 => ?_⟩
  have s5 := same_new htp0 (.lst (r.ws.map V.str ++ [V.str (Txt.mul (Str.ofString "z") 8), V.str "open"]))
  have e5 : upd (upd H3 l1 (.lst [V.str (Txt.mul (Str.ofString "z") 8), V.str "open"])) tp0 (.lst (r.ws.map V.str ++ [V.str (Txt.mul (Str.ofString "z") 8), V.str "open"])) tp0 = some (.lst ((r.ws ++ [Txt.mul (Str.ofString "z") 8, "open"]).map V.str)) := by rw [upd_same, List.map_append]; rfl
  have s35 := s4.trans s5
  generalize upd (upd H3 l1 (.lst [V.str (Txt.mul (Str.ofString "z") 8), V.str "open"])) tp0 (.lst (r.ws.map V.str ++ [V.str (Txt.mul (Str.ofString "z") 8), V.str "open"])) = H5 at s5 e5 s35 ⊢
  rw [rest_at]
  refine seq_by (fun σ' H' => ∃ (tp : Addr) (tx : List Str), σ' = [some (.ref a), some (.ref wp), some (.ref p), some (.ref tp), none, none, none, none] ∧ Same H3 H' ∧ H' tp = some (.lst (tx.map V.str)) ∧ 1 ≤ tx.length ∧ tx.length ≤ 18) (fun k hk => ?_) ?_
  · walk_at "rd1"
    refine ⟨_, _, .inr (SqT.of (s35 _ _ h1)), rfl, ?_⟩
    walk_at "rd1"
    refine ite2 (fun _ => ?_) (fun _ => ?_)
    · refine ⟨_, _, .inr (SqT.of (s35 _ _ h1)), rfl, ?_⟩
      refine ⟨_, _, .inl (SqL.of (s35 _ _ hwl3)), atI_nat (j := 0) (v := .str w0) (by rw [List.getElem?_map, h0s]; rfl), ?_⟩
      walk_at "rd1"
      have l2 : (Str.ofString "2.").length = 2 := by decide +kernel
      refine ⟨by rw [l2]; exact smallL (by omega), by decide, fun l2 hl2 => ?_⟩
      have s6 := same_new hl2 (.lst [V.str "1.open", V.str (Str.ofString "2." ++ w0)])
      refine ⟨_, _, (s35.trans s6) _ _ h2, upd_same, by rw [List.length_map]; exact smallL (by simp; omega), fun tp htp => ?_⟩
      refine hk _ _ ⟨tp, r.ws ++ [Str.ofString "1.open", Str.ofString "2." ++ w0], rfl, (s35.trans s6).trans (same_new htp _), by rw [upd_same, List.map_append]; rfl, by simp, by simp; omega⟩
    · exact hk _ _ ⟨tp0, _, rfl, s35, e5, by simp, by simp; omega⟩
  rintro σ' H5' ⟨tp, tx, rfl, sm35, e5', t0, t1⟩
  have sm05 : Same H H5' := (sm1.trans sm3).trans sm35
  walk_at "nx"
  refine ⟨_, sm05.seq hS, fun cp hcp => ?_⟩
  rw [cut_map]
  have hcl := cutS_len ns (some 2) (some 122)
  generalize cutS ns (some 2) (some 122) = cs at hcl ⊢
  generalize hH6 : upd H5' cp _ = H6
  have sm6 := al_same hH6 hcp
  have e6 := al_at hH6
  refine ⟨⟨_, SqL.of e6⟩, fun L hL => ?_⟩
  refine compW_list (xs := cs.map V.int) (fun i ys H' => ∃ ts : List Str, Same H6 H' ∧ H' L = some (.lst ys) ∧ ys = ts.map V.str ∧ ts.length = i) ⟨[], same_new hL _, upd_same, rfl, rfl⟩ (fun i ys H' _ h => by obtain ⟨_, sm, _⟩ := h; exact SqL.of (sm _ _ e6)) ?_ ?_
  · rintro i ys H' x hx hi ⟨ts, sm, hl, rfl, htl⟩
    rw [List.length_map] at hi
    rw [List.getElem?_map, List.getElem?_eq_getElem hi] at hx
    cases hx
    walk_at "rd1"
    refine ⟨_, 3, rfl, by decide, by decide, ?_⟩
    have htp' := (sm6.trans sm) _ _ e5'
    refine ⟨_, .inl (SqL.of htp'), ?_⟩
    rw [List.length_map]
    walk_at "rd1"
    refine ⟨by omega, ?_⟩
    have m0 := Int.emod_nonneg (mixF cs[i] 3) (show ((tx.length : Nat) : Int) ≠ 0 by omega)
    have m1 := Int.emod_lt_of_pos (mixF cs[i] 3) (show (0 : Int) < ((tx.length : Nat) : Int) by omega)
    obtain ⟨v, hv, _⟩ := at_lst (xs := tx) (i := mixF cs[i] 3 % ((tx.length : Nat) : Int)) m0 m1
    refine ⟨_, _, .inl (SqL.of htp'), at_map m0 hv, ?_⟩
    exact cstep (by rw [List.length_map]; exact hi) (by rw [List.length_map]; exact htl) (by rw [List.length_map]; exact smallL (by omega)) hl ⟨ts ++ [v], sm.upd hL _, upd_same, map_push _ _, len_push htl⟩
  rintro ys H7 ⟨row, sm7, hl7, rfl, hr0⟩
  rw [List.length_map] at hr0
  have sm37 : Same H3 H7 := (sm35.trans sm6).trans sm7
  have hR7 := hR.mono sm37
  have e57 := (sm6.trans sm7) _ _ e5'
  have hble := brk_le r row 0
  walk_at "rd1"
  walk_at "nx"
  refine ⟨p, L, r, row, rfl, hR7, ok, hl7, fun H8 sm8 => ?_⟩
  have hR8 := hR7.mono sm8
  have hl8 := sm8 _ _ hl7
  walk_at "nx"
  refine ⟨by decide, fun n1 hn1 => ?_⟩
  generalize hH9 : upd H8 n1 _ = H9
  have sm9 := al_same hH9 hn1
  have e9 := al_at hH9
  refine spShort_no (ys := []) (hR8.mono sm9) ok nd e9 (by decide) (by simp) fun H10 sm10 => ?_
  walk_at "rd1"
  have sm810 := sm9.trans sm10
  refine ⟨_, SqL.of (sm810 _ _ hl8), fun n2 hn2 => ?_⟩
  rw [cutV_to, ← List.map_take]
  generalize hH11 : upd H10 n2 _ = H11
  have sm11 := al_same hH11 hn2
  have e11 := al_at hH11
  refine spShort_no (ys := row.take (brk r 0 row)) (hR8.mono (sm810.trans sm11)) ok nd e11 (by rw [List.length_take]; omega) (by rw [brk_cut, List.length_take]; omega) fun H12 sm12 => ?_
  walk_at "rd1"
  have sm812 := (sm810.trans sm11).trans sm12
  have hl12 := sm812 _ _ hl8
  have hR12 := hR8.mono sm812
  have e512 := (sm8.trans sm812) _ _ e57
  walk_at "nx"
  refine ⟨_, .inl (SqL.of hl12), ?_⟩
  rw [List.length_map]
  walk_at "rd1"
  refine ite2 (fun _ => q _) (fun cne => ?_)
  have hlt : brk r 0 row < row.length := by omega
  have hcut : ∀ {H' : Hp}, cutV (row.map V.str) none (some (((brk r 0 row : Nat) : Int) + 1)) = (row.take (brk r 0 row + 1)).map V.str := by
    intro _
    rw [show (((brk r 0 row : Nat) : Int) + 1) = ((brk r 0 row + 1 : Nat) : Int) by simp, cutV_to, List.map_take]
  have hbt := brk_take r row 0
  have hrl : (row.take (brk r 0 row + 1)).length = brk r 0 row + 1 := by rw [List.length_take]; omega
  walk_at "nx"
  refine ⟨_, SqL.of hl12, fun hd hhd => ?_⟩
  rw [hcut (H' := H12)]
  generalize hH13 : upd H12 hd _ = H13
  have sm13 := al_same hH13 hhd
  have e13 := al_at hH13
  walk_at "nx"
  refine ⟨p, hd, r, _, rfl, hR12.mono sm13, ok, nd, e13, by omega, fun hbf _ _ => ?_, fun zs z ez _ c H14 sm14 hc hcl14 => ?_⟩
  · rw [brkL_brk, hbt, hrl] at hbf; simp at hbf
  have hzs : zs.length = brk r 0 row := by
    have := congrArg List.length ez
    rw [hrl, List.length_append] at this
    simpa using this.symm
  have sm1214 := sm13.trans sm14
  have hls : ((shortL r zs z).map nV)[((shortL r zs z).map nV).length - 1]? = some (nV zs.length) := by
    unfold shortL
    rw [List.length_map, List.getElem?_map]
    simp
  walk_at "nx"
  refine ⟨"list", by simp [tyName, hcl14], by decide, ?_⟩
  refine ite2 (fun c => absurd c (by decide)) (fun _ => ?_)
  refine ⟨by decide, fun ep hep => ?_⟩
  generalize hH15 : upd H14 ep _ = H15
  have sm15 := al_same hH15 hep
  have e15 := al_at hH15
  have hc15 := sm15 _ _ hcl14
  refine ⟨0, false, by decide, .inr ⟨c, ep, _, _, rfl, rfl, .inl ⟨SqL.of hc15, SqL.of e15⟩, .inr ⟨SqL.of hc15, SqL.of e15, by unfold shortL; simp, rfl⟩⟩, ?_⟩
  walk_at "rd1"
  refine ⟨_, _, .inl (SqL.of hc15), atI_end hls, ?_⟩
  refine ⟨_, rfl, ?_⟩
  walk_at "rd1"
  refine ⟨_, _, .inl (SqL.of hc15), atI_end hls, ?_⟩
  walk_at "rd1"
  refine ite2 (fun cc => ?_) (fun _ => ?_)
  · rw [hzs] at cc; simp at cc
  have sm1215 := sm1214.trans sm15
  have hl15 := sm1215 _ _ hl12
  walk_at "nx"
  refine ⟨_, SqL.of hl15, fun n3 hn3 => ?_⟩
  rw [hcut (H' := H12)]
  generalize hH16 : upd H15 n3 _ = H16
  have sm16 := al_same hH16 hn3
  have e16 := al_at hH16
  refine ⟨0, true, by decide, EqN.seqFlat (.inl ⟨SqL.of (((sm14.trans sm15).trans sm16) _ _ e13), SqL.of e16⟩) (strs_flat _), ?_⟩
  walk_at "rd1"
  have sm1216 := sm1215.trans sm16
  refine ⟨_, SqL.of (sm1216 _ _ hl12), fun n4 hn4 => ?_⟩
  rw [hcut (H' := H12)]
  generalize hH17 : upd H16 n4 _ = H17
  have sm17 := al_same hH17 hn4
  have e17 := al_at hH17
  have hx0 : ∃ x0, tx[0]? = some x0 := ⟨_, List.getElem?_eq_getElem (by omega)⟩
  obtain ⟨x0, hx0⟩ := hx0
  refine ⟨_, _, .inl (SqL.of ((sm1216.trans sm17) _ _ e512)), atI_nat (j := 0) (v := .str x0) (by rw [List.getElem?_map, hx0]; rfl), ?_⟩
  walk_at "rd1"
  refine ⟨by decide, fun n5 hn5 => ?_⟩
  generalize hH18 : upd H17 n5 _ = H18
  have sm18 := al_same hH18 hn5
  have e18 := al_at hH18
  refine ⟨_, _, sm18 _ _ e17, e18, by rw [List.length_map, hrl]; exact smallL (by simp; omega), fun n6 hn6 => ?_⟩
  generalize hH19 : upd H18 n6 _ = H19
  have sm19 := al_same hH19 hn6
  have e19 := al_at hH19
  have sm1219 := ((sm1216.trans sm17).trans sm18).trans sm19
  have hpre : ∀ xs : List Str, brk r 0 (row.take (brk r 0 row + 1) ++ xs) = brk r 0 row := fun xs => by rw [brk_pre r _ xs 0 (by rw [hbt, hrl]; omega), hbt]
  refine spShort_no (ys := row.take (brk r 0 row + 1) ++ [x0]) (hR12.mono sm1219) ok nd (by rw [e19, List.map_append]; rfl) (by rw [List.length_append, hrl]; simp; omega) (by rw [hpre, List.length_append, hrl]; simp) fun H20 sm20 => ?_
  walk_at "rd1"
  have sm1220 := sm1219.trans sm20
  walk_at "nx"
  refine ⟨_, SqL.of (sm1220 _ _ hl12), fun n7 hn7 => ?_⟩
  rw [hcut (H' := H12)]
  generalize hH21 : upd H20 n7 _ = H21
  have sm21 := al_same hH21 hn7
  have e21 := al_at hH21
  refine ⟨_, SqL.of ((sm1220.trans sm21) _ _ hl12), fun n8 hn8 => ?_⟩
  rw [cutV_from, ← List.map_drop]
  generalize hH22 : upd H21 n8 _ = H22
  have sm22 := al_same hH22 hn8
  have e22 := al_at hH22
  refine ⟨_, _, sm22 _ _ e21, e22, by rw [List.length_map, List.length_map, hrl, List.length_drop]; exact smallL (by omega), fun n9 hn9 => ?_⟩
  generalize hH23 : upd H22 n9 _ = H23
  have sm23 := al_same hH23 hn9
  have e23 := al_at hH23
  refine spShort_no (ys := row.take (brk r 0 row + 1) ++ row.drop (brk r 0 row)) (hR12.mono (((sm1220.trans sm21).trans sm22).trans sm23)) ok nd (by rw [e23, List.map_append]) (by rw [List.length_append, hrl, List.length_drop]; omega) (by rw [hpre, List.length_append, hrl, List.length_drop]; omega) fun H24 sm24 => ?_
  exact q _
end
theorem all_mk {l : PySem.W.OpenLaw} {w : World} {K : PySem.W.Frag} {h : Heap} {mg : Str → Option Value} {fa : Addr} (X : K.In h) (G : h.Ns mainGlobals mg) (hfa : mg "law" = some (.ref fa))
    {f0 : Addr} {od0 an0 : Option Addr} {sl0 : Array (Option Value)} {oc0 kV0 dc0 pm0 cd0 ct0 : Value} {f1 : Addr} {od1 an1 : Option Addr} {sl1 : Array (Option Value)} {oc1 kV1 dc1 pm1 cd1 ct1 : Value} {f2 : Addr} {od2 an2 : Option Addr} {sl2 : Array (Option Value)} {oc2 kV2 dc2 pm2 cd2 ct2 : Value} {f3 : Addr} {od3 an3 : Option Addr} {sl3 : Array (Option Value)} {oc3 kV3 dc3 pm3 cd3 ct3 : Value} {f4 : Addr} {od4 an4 : Option Addr} {sl4 : Array (Option Value)} {oc4 kV4 dc4 pm4 cd4 ct4 : Value} {f5 : Addr} {od5 an5 : Option Addr} {sl5 : Array (Option Value)} {oc5 kV5 dc5 pm5 cd5 ct5 : Value} {f6 : Addr} {od6 an6 : Option Addr} {sl6 : Array (Option Value)} {oc6 kV6 dc6 pm6 cd6 ct6 : Value} {f7 : Addr} {od7 an7 : Option Addr} {sl7 : Array (Option Value)} {oc7 kV7 dc7 pm7 cd7 ct7 : Value} {f8 : Addr} {od8 an8 : Option Addr} {sl8 : Array (Option Value)} {oc8 kV8 dc8 pm8 cd8 ct8 : Value} {f9 : Addr} {od9 an9 : Option Addr} {sl9 : Array (Option Value)} {oc9 kV9 dc9 pm9 cd9 ct9 : Value} {f10 : Addr} {od10 an10 : Option Addr} {sl10 : Array (Option Value)} {oc10 kV10 dc10 pm10 cd10 ct10 : Value} {f11 : Addr} {od11 an11 : Option Addr} {sl11 : Array (Option Value)} {oc11 kV11 dc11 pm11 cd11 ct11 : Value} {f12 : Addr} {od12 an12 : Option Addr} {sl12 : Array (Option Value)} {oc12 kV12 dc12 pm12 cd12 ct12 : Value} {f13 : Addr} {od13 an13 : Option Addr} {sl13 : Array (Option Value)} {oc13 kV13 dc13 pm13 cd13 ct13 : Value} {f14 : Addr} {od14 an14 : Option Addr} {sl14 : Array (Option Value)} {oc14 kV14 dc14 pm14 cd14 ct14 : Value}
    (a0 : PySem.W.nsIn K mainGlobals "next_room" = some (some (.ref f0))) (l0 : K.lookup f0 = some ⟨oc0, od0, .func (PySem.W.fnOf "next_room" "next_room" (defArgs s_next_room) (defBody s_next_room) (defScope s_next_room) .none kV0 dc0 pm0 an0 cd0 ct0), sl0⟩) (c0 : PySem.W.codeIn K cd0 "next_room" = true) (k0 : PySem.W.keepIn K (.ref f0) = true)
    (a1 : PySem.W.nsIn K mainGlobals "room_from" = some (some (.ref f1))) (l1 : K.lookup f1 = some ⟨oc1, od1, .func (PySem.W.fnOf "room_from" "room_from" (defArgs s_room_from) (defBody s_room_from) (defScope s_room_from) .none kV1 dc1 pm1 an1 cd1 ct1), sl1⟩) (c1 : PySem.W.codeIn K cd1 "room_from" = true) (k1 : PySem.W.keepIn K (.ref f1) = true)
    (a2 : PySem.W.nsIn K mainGlobals "room_after" = some (some (.ref f2))) (l2 : K.lookup f2 = some ⟨oc2, od2, .func (PySem.W.fnOf "room_after" "room_after" (defArgs s_room_after) (defBody s_room_after) (defScope s_room_after) .none kV2 dc2 pm2 an2 cd2 ct2), sl2⟩) (c2 : PySem.W.codeIn K cd2 "room_after" = true) (k2 : PySem.W.keepIn K (.ref f2) = true)
    (a3 : PySem.W.nsIn K mainGlobals "breaks_with_last" = some (some (.ref f3))) (l3 : K.lookup f3 = some ⟨oc3, od3, .func (PySem.W.fnOf "breaks_with_last" "breaks_with_last" (defArgs s_breaks_with_last) (defBody s_breaks_with_last) (defScope s_breaks_with_last) .none kV3 dc3 pm3 an3 cd3 ct3), sl3⟩) (c3 : PySem.W.codeIn K cd3 "breaks_with_last" = true) (k3 : PySem.W.keepIn K (.ref f3) = true)
    (a4 : PySem.W.nsIn K mainGlobals "moves_of" = some (some (.ref f4))) (l4 : K.lookup f4 = some ⟨oc4, od4, .func (PySem.W.fnOf "moves_of" "moves_of" (defArgs s_moves_of) (defBody s_moves_of) (defScope s_moves_of) .none kV4 dc4 pm4 an4 cd4 ct4), sl4⟩) (c4 : PySem.W.codeIn K cd4 "moves_of" = true) (k4 : PySem.W.keepIn K (.ref f4) = true)
    (a5 : PySem.W.nsIn K mainGlobals "counts_ahead" = some (some (.ref f5))) (l5 : K.lookup f5 = some ⟨oc5, od5, .func (PySem.W.fnOf "counts_ahead" "counts_ahead" (defArgs s_counts_ahead) (defBody s_counts_ahead) (defScope s_counts_ahead) .none kV5 dc5 pm5 an5 cd5 ct5), sl5⟩) (c5 : PySem.W.codeIn K cd5 "counts_ahead" = true) (k5 : PySem.W.keepIn K (.ref f5) = true)
    (a6 : PySem.W.nsIn K mainGlobals "counts_by_place" = some (some (.ref f6))) (l6 : K.lookup f6 = some ⟨oc6, od6, .func (PySem.W.fnOf "counts_by_place" "counts_by_place" (defArgs s_counts_by_place) (defBody s_counts_by_place) (defScope s_counts_by_place) .none kV6 dc6 pm6 an6 cd6 ct6), sl6⟩) (c6 : PySem.W.codeIn K cd6 "counts_by_place" = true) (k6 : PySem.W.keepIn K (.ref f6) = true)
    (a7 : PySem.W.nsIn K mainGlobals "shortest_breach" = some (some (.ref f7))) (l7 : K.lookup f7 = some ⟨oc7, od7, .func (PySem.W.fnOf "shortest_breach" "shortest_breach" (defArgs s_shortest_breach) (defBody s_shortest_breach) (defScope s_shortest_breach) .none kV7 dc7 pm7 an7 cd7 ct7), sl7⟩) (c7 : PySem.W.codeIn K cd7 "shortest_breach" = true) (k7 : PySem.W.keepIn K (.ref f7) = true)
    (a8 : PySem.W.nsIn K mainGlobals "_law_cell_at" = some (some (.ref f8))) (l8 : K.lookup f8 = some ⟨oc8, od8, .func (PySem.W.fnOf "_law_cell_at" "_law_cell_at" (defArgs s_law_cell_at) (defBody s_law_cell_at) (defScope s_law_cell_at) .none kV8 dc8 pm8 an8 cd8 ct8), sl8⟩) (c8 : PySem.W.codeIn K cd8 "_law_cell_at" = true) (k8 : PySem.W.keepIn K (.ref f8) = true)
    (a9 : PySem.W.nsIn K mainGlobals "_law_mixed" = some (some (.ref f9))) (l9 : K.lookup f9 = some ⟨oc9, od9, .func (PySem.W.fnOf "_law_mixed" "_law_mixed" (defArgs s_law_mixed) (defBody s_law_mixed) (defScope s_law_mixed) .none kV9 dc9 pm9 an9 cd9 ct9), sl9⟩) (c9 : PySem.W.codeIn K cd9 "_law_mixed" = true) (k9 : PySem.W.keepIn K (.ref f9) = true)
    (a10 : PySem.W.nsIn K mainGlobals "_law_words" = some (some (.ref f10))) (l10 : K.lookup f10 = some ⟨oc10, od10, .func (PySem.W.fnOf "_law_words" "_law_words" (defArgs s_law_words) (defBody s_law_words) (defScope s_law_words) .none kV10 dc10 pm10 an10 cd10 ct10), sl10⟩) (c10 : PySem.W.codeIn K cd10 "_law_words" = true) (k10 : PySem.W.keepIn K (.ref f10) = true)
    (a11 : PySem.W.nsIn K mainGlobals "_law_whole" = some (some (.ref f11))) (l11 : K.lookup f11 = some ⟨oc11, od11, .func (PySem.W.fnOf "_law_whole" "_law_whole" (defArgs s_law_whole) (defBody s_law_whole) (defScope s_law_whole) .none kV11 dc11 pm11 an11 cd11 ct11), sl11⟩) (c11 : PySem.W.codeIn K cd11 "_law_whole" = true) (k11 : PySem.W.keepIn K (.ref f11) = true)
    (a12 : PySem.W.nsIn K mainGlobals "_law_rule" = some (some (.ref f12))) (l12 : K.lookup f12 = some ⟨oc12, od12, .func (PySem.W.fnOf "_law_rule" "_law_rule" (defArgs s_law_rule) (defBody s_law_rule) (defScope s_law_rule) .none kV12 dc12 pm12 an12 cd12 ct12), sl12⟩) (c12 : PySem.W.codeIn K cd12 "_law_rule" = true) (k12 : PySem.W.keepIn K (.ref f12) = true)
    (a13 : PySem.W.nsIn K mainGlobals "_law_breaking" = some (some (.ref f13))) (l13 : K.lookup f13 = some ⟨oc13, od13, .func (PySem.W.fnOf "_law_breaking" "_law_breaking" (defArgs s_law_breaking) (defBody s_law_breaking) (defScope s_law_breaking) .none kV13 dc13 pm13 an13 cd13 ct13), sl13⟩) (c13 : PySem.W.codeIn K cd13 "_law_breaking" = true) (k13 : PySem.W.keepIn K (.ref f13) = true)
    (a14 : PySem.W.nsIn K mainGlobals "law" = some (some (.ref f14))) (l14 : K.lookup f14 = some ⟨oc14, od14, .func (PySem.W.fnOf "law" "law" (defArgs s_law) (defBody s_law) (defScope s_law) .none kV14 dc14 pm14 an14 cd14 ct14), sl14⟩) (c14 : PySem.W.codeIn K cd14 "law" = true) (k14 : PySem.W.keepIn K (.ref f14) = true)
    (y_isinstance : PySem.W.nsIn K mainGlobals "isinstance" = some none)
    (y_int : PySem.W.nsIn K mainGlobals "int" = some none)
    (y_bool : PySem.W.nsIn K mainGlobals "bool" = some none)
    (y_len : PySem.W.nsIn K mainGlobals "len" = some none)
    (y_range : PySem.W.nsIn K mainGlobals "range" = some none)
    (y_list : PySem.W.nsIn K mainGlobals "list" = some none)
    (y_sorted : PySem.W.nsIn K mainGlobals "sorted" = some none)
    (y_enumerate : PySem.W.nsIn K mainGlobals "enumerate" = some none)
    (y_reversed : PySem.W.nsIn K mainGlobals "reversed" = some none) :
    ∃ fd : FuncData, (∀ (s : Shared) (v : Value), BindsTo s fd ⟨[v], []⟩ [("_law_script", v)]) ∧ ∀ base : Heap, K.In base → base.Ns mainGlobals mg → FnOk l.prog w K mg base CX0 6 fa fd ["_law_script"] (spLaw K) := by
  have e := hfa.symm.trans (PySem.W.mg_of X G a14)
  cases e
  have D_next_room : DefAt K mg "next_room" s_next_room := ⟨f0, _, fun_mk (st := s_next_room) l0 c0 k0, PySem.W.mg_of X G a0⟩
  have D_room_from : DefAt K mg "room_from" s_room_from := ⟨f1, _, fun_mk (st := s_room_from) l1 c1 k1, PySem.W.mg_of X G a1⟩
  have D_room_after : DefAt K mg "room_after" s_room_after := ⟨f2, _, fun_mk (st := s_room_after) l2 c2 k2, PySem.W.mg_of X G a2⟩
  have D_breaks_with_last : DefAt K mg "breaks_with_last" s_breaks_with_last := ⟨f3, _, fun_mk (st := s_breaks_with_last) l3 c3 k3, PySem.W.mg_of X G a3⟩
  have D_moves_of : DefAt K mg "moves_of" s_moves_of := ⟨f4, _, fun_mk (st := s_moves_of) l4 c4 k4, PySem.W.mg_of X G a4⟩
  have D_counts_ahead : DefAt K mg "counts_ahead" s_counts_ahead := ⟨f5, _, fun_mk (st := s_counts_ahead) l5 c5 k5, PySem.W.mg_of X G a5⟩
  have D_counts_by_place : DefAt K mg "counts_by_place" s_counts_by_place := ⟨f6, _, fun_mk (st := s_counts_by_place) l6 c6 k6, PySem.W.mg_of X G a6⟩
  have D_shortest_breach : DefAt K mg "shortest_breach" s_shortest_breach := ⟨f7, _, fun_mk (st := s_shortest_breach) l7 c7 k7, PySem.W.mg_of X G a7⟩
  have D_law_cell_at : DefAt K mg "_law_cell_at" s_law_cell_at := ⟨f8, _, fun_mk (st := s_law_cell_at) l8 c8 k8, PySem.W.mg_of X G a8⟩
  have D_law_mixed : DefAt K mg "_law_mixed" s_law_mixed := ⟨f9, _, fun_mk (st := s_law_mixed) l9 c9 k9, PySem.W.mg_of X G a9⟩
  have D_law_words : DefAt K mg "_law_words" s_law_words := ⟨f10, _, fun_mk (st := s_law_words) l10 c10 k10, PySem.W.mg_of X G a10⟩
  have D_law_whole : DefAt K mg "_law_whole" s_law_whole := ⟨f11, _, fun_mk (st := s_law_whole) l11 c11 k11, PySem.W.mg_of X G a11⟩
  have D_law_rule : DefAt K mg "_law_rule" s_law_rule := ⟨f12, _, fun_mk (st := s_law_rule) l12 c12 k12, PySem.W.mg_of X G a12⟩
  have D_law_breaking : DefAt K mg "_law_breaking" s_law_breaking := ⟨f13, _, fun_mk (st := s_law_breaking) l13 c13 k13, PySem.W.mg_of X G a13⟩
  have z_isinstance : mg "isinstance" = none := PySem.W.mg_none_of X G y_isinstance
  have z_int : mg "int" = none := PySem.W.mg_none_of X G y_int
  have z_bool : mg "bool" = none := PySem.W.mg_none_of X G y_bool
  have z_len : mg "len" = none := PySem.W.mg_none_of X G y_len
  have z_range : mg "range" = none := PySem.W.mg_none_of X G y_range
  have z_list : mg "list" = none := PySem.W.mg_none_of X G y_list
  have z_sorted : mg "sorted" = none := PySem.W.mg_none_of X G y_sorted
  have z_enumerate : mg "enumerate" = none := PySem.W.mg_none_of X G y_enumerate
  have z_reversed : mg "reversed" = none := PySem.W.mg_none_of X G y_reversed
  have F := fun_mk (st := s_law) l14 c14 k14
  refine ⟨PySem.W.fnOf "law" "law" (defArgs s_law) (defBody s_law) (defScope s_law) .none kV14 dc14 pm14 an14 cd14 ct14, fun s v => .of_eq rfl, fun base _ _ => ?_⟩
  have c1 := ok_cell (P := l.prog) (w := w) (base := base) D_law_cell_at z_len
  have c2 := ok_mix (P := l.prog) (w := w) (base := base) D_law_mixed
  have c3 := ok_words D_law_words z_range z_int c2
  have c4 := ok_rule D_law_rule z_range z_len z_sorted c2
  have c5 := ok_brk (P := l.prog) (w := w) (base := base) D_law_breaking z_len z_enumerate
  have n1 := ok_next (P := l.prog) (w := w) (base := base) D_next_room
  have n2 := ok_room_after D_room_after (ok_room_from D_room_from n1)
  have b1 := ok_breaks D_breaks_with_last z_len n1 n2
  have b2 := ok_counts D_counts_by_place z_len z_range z_list z_reversed n1 (ok_moves D_moves_of z_enumerate) (ok_ahead D_counts_ahead z_len z_list)
  exact ok_law F z_len z_list z_isinstance c1 c2 c3 c4 c5 (ok_whole D_law_whole z_isinstance z_int z_bool) (ok_short D_shortest_breach z_len z_range n1 b1 b2)
theorem walk {l : PySem.W.OpenLaw} {q : Program} {loose : List Str} {XP : (Str → Option Value) → Heap → Prop} {YP : World → Heap → Prop} {d : DefRec} {K : Params → PySem.W.Frag} (hn : l.most = some 63) (hdf : d.params.defaults = [])
    (hY : ∀ (w : World) (h : Heap), YP w h → (K w.params).In h)
    (F : ∀ (w : World) (mg : Str → Option Value) (fa : Addr) (h : Heap), (K w.params).In h → h.Ns mainGlobals mg → mg d.name = some (.ref fa) →
      ∃ fd : FuncData, (∀ (s : Shared) (u : Value), BindsTo s fd ⟨[u], []⟩ [("_law_script", u)]) ∧ ∀ base : Heap, (K w.params).In base → base.Ns mainGlobals mg → FnOk l.prog w (K w.params) mg base CX0 6 fa fd ["_law_script"] (spLaw (K w.params))) :
    PySem.W.WalkO q loose XP YP l.row.toRowW d [] (fun f vs => PySem.call f vs) :=
  L2.walk_of (n := 63) (k := 6) (x := "_law_script") (CX := fun _ => CX0) (sp := fun w => spLaw (K w.params)) hn (by decide) hdf ⟨rfl, by decide, by decide⟩ hY F (fun _ _ a ns hl _ hS => ⟨a, ns, rfl, hS, hl, fun _ => rfl⟩) fun _ _ _ _ _ z => z
end K80
end
open PySem PySem.W PyProof.Rows
set_option maxRecDepth 100000 in
set_option maxHeartbeats 0 in
theorem PySem.Challenge.cw_usewarden_k80_no_breach_to_tell_holds : PySem.Challenge.rw_usewarden_k80_no_breach_to_tell.Holds := by
  w_on; o_law; k_head; (case hw => w_witness2)
  k_fill
  refine K80.walk (l := PySem.Challenge.rw_usewarden_k80_no_breach_to_tell) rfl rfl (fun w h Y => PySem.W.kIn_of Y) ?F
  case F =>
    intro w mg fa h KX G hmg
    refine' K80.all_mk KX G hmg ?a0 ?l0 ?c0 ?k0 ?a1 ?l1 ?c1 ?k1 ?a2 ?l2 ?c2 ?k2 ?a3 ?l3 ?c3 ?k3 ?a4 ?l4 ?c4 ?k4 ?a5 ?l5 ?c5 ?k5 ?a6 ?l6 ?c6 ?k6 ?a7 ?l7 ?c7 ?k7 ?a8 ?l8 ?c8 ?k8 ?a9 ?l9 ?c9 ?k9 ?a10 ?l10 ?c10 ?k10 ?a11 ?l11 ?c11 ?k11 ?a12 ?l12 ?c12 ?k12 ?a13 ?l13 ?c13 ?k13 ?a14 ?l14 ?c14 ?k14 ?y_isinstance ?y_int ?y_bool ?y_len ?y_range ?y_list ?y_sorted ?y_enumerate ?y_reversed
    (case a0 => k_is)
    (case l0 => k_is)
    (case c0 => k_is)
    (case k0 => k_is)
    (case a1 => k_is)
    (case l1 => k_is)
    (case c1 => k_is)
    (case k1 => k_is)
    (case a2 => k_is)
    (case l2 => k_is)
    (case c2 => k_is)
    (case k2 => k_is)
    (case a3 => k_is)
    (case l3 => k_is)
    (case c3 => k_is)
    (case k3 => k_is)
    (case a4 => k_is)
    (case l4 => k_is)
    (case c4 => k_is)
    (case k4 => k_is)
    (case a5 => k_is)
    (case l5 => k_is)
    (case c5 => k_is)
    (case k5 => k_is)
    (case a6 => k_is)
    (case l6 => k_is)
    (case c6 => k_is)
    (case k6 => k_is)
    (case a7 => k_is)
    (case l7 => k_is)
    (case c7 => k_is)
    (case k7 => k_is)
    (case a8 => k_is)
    (case l8 => k_is)
    (case c8 => k_is)
    (case k8 => k_is)
    (case a9 => k_is)
    (case l9 => k_is)
    (case c9 => k_is)
    (case k9 => k_is)
    (case a10 => k_is)
    (case l10 => k_is)
    (case c10 => k_is)
    (case k10 => k_is)
    (case a11 => k_is)
    (case l11 => k_is)
    (case c11 => k_is)
    (case k11 => k_is)
    (case a12 => k_is)
    (case l12 => k_is)
    (case c12 => k_is)
    (case k12 => k_is)
    (case a13 => k_is)
    (case l13 => k_is)
    (case c13 => k_is)
    (case k13 => k_is)
    (case a14 => k_is)
    (case l14 => k_is)
    (case c14 => k_is)
    (case k14 => k_is)
    (case y_isinstance => k_is)
    (case y_int => k_is)
    (case y_bool => k_is)
    (case y_len => k_is)
    (case y_range => k_is)
    (case y_list => k_is)
    (case y_sorted => k_is)
    (case y_enumerate => k_is)
    (case y_reversed => k_is)
#print axioms PySem.Challenge.cw_usewarden_k80_no_breach_to_tell_holds
