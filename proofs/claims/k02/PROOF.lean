import PyProof.Rows.All
import Wide.All
import OpenK.AllK
import Wide.FinOn
import Lean
import PyProof.EqAt
import PyProof.EqKinds
import PyProof.TupleCall
import PyProof.SetScanFacts
import PyProof.SetKind
import PyProof.SetRoads
import PyProof.Rows.SetFrom
import PyProof.FactsBase
import PyProof.TableTree
import PyProof.FactsTree
import PyProof.PlainAttrs
import PyProof.FactsAll.set_1
import PyProof.CollectIter
import PyProof.FactsAll.set
import PyProof.ZipIter
import PyProof.EnumIter
import PyProof.TupleIter
import KE.KRevIter
import KE.KDictList
import PyProof.Rows.SumAny
import KE.KIntText
import PyProof.StrLawsTight
import PyProof.StrLawsChain
import PyProof.Rows.SortStr
import PyProof.Rows.StrNews2
import PyProof.StrLawsFirst
import PyProof.AutoSeq1
import OpenK.KOwn
import PyProof.Rows.CatchOwn
import PySem.Challenge.RW_usewarden_k02_what_is_a_rule
-- CHANGE: your row's module here, as the last of these rows
set_option Elab.async false
set_option linter.all false
set_option maxRecDepth 100000
/-! THE HAND LAYER, for ints, bools, texts, own classes, LISTS and tuples (index, slices, in, append, pop ..), calls, loops. Paste it whole ahead of your own text; what your proof does not reach may be deleted. -/
namespace L2
open PySem PySem.Spec PyProof.Rows

/-- a key: an int or a str -/
abbrev Key := Sum Int Str
def keyIs : Key → Value → Bool
  | .inl k, v => Value.isInt k v
  | .inr x, v => Value.isStrOf x v
def keyH (w : World) : Key → Int
  | .inl k => hashInt k
  | .inr x => hashStr w x
theorem keyIs_shape : ∀ {k : Key} {v : Value}, keyIs k v = true → (∃ i t, k = Sum.inl i ∧ v = Value.int i t) ∨ (∃ x t, k = Sum.inr x ∧ v = Value.str x t)
  | .inl i, v, h => by
    obtain ⟨t, e⟩ := Value.isInt_shape (k := i) (v := v) h
    exact .inl ⟨i, t, rfl, e⟩
  | .inr x, v, h => by
    obtain ⟨t, e⟩ := Value.isStrOf_shape (x := x) (v := v) h
    exact .inr ⟨x, t, rfl, e⟩
theorem key_ll (a b : Int) : decide ((Sum.inl a : Key) = Sum.inl b) = (a == b) := by
  by_cases e : a = b
  · subst e; simp
  · have h : ¬ (Sum.inl a : Key) = Sum.inl b := fun q => e (Sum.inl.inj q)
    rw [decide_eq_false h]
    exact (beq_eq_false_iff_ne.mpr e).symm
theorem key_rr (a b : Str) : decide ((Sum.inr a : Key) = Sum.inr b) = decide (a = b) := by
  by_cases e : a = b
  · subst e; simp
  · have h : ¬ (Sum.inr a : Key) = Sum.inr b := fun q => e (Sum.inr.inj q)
    rw [decide_eq_false h, decide_eq_false e]
theorem key_lr (a : Int) (b : Str) : decide ((Sum.inl a : Key) = Sum.inr b) = false := decide_eq_false (fun q => nomatch q)
theorem key_rl (a : Str) (b : Int) : decide ((Sum.inr a : Key) = Sum.inl b) = false := decide_eq_false (fun q => nomatch q)

def mixKind (prog : Program) (w : World) : PySem.KeyKind prog w Key where
  is := keyIs
  hash := keyH w
  inj := fun v a b ha hb => by
    rcases keyIs_shape ha with ⟨i, t, rfl, rfl⟩ | ⟨x, t, rfl, rfl⟩
    · rcases keyIs_shape hb with ⟨j, u, rfl, e⟩ | ⟨y, u, rfl, e⟩
      · injection e with e1 _; rw [e1]
      · exact nomatch e
    · rcases keyIs_shape hb with ⟨j, u, rfl, e⟩ | ⟨y, u, rfl, e⟩
      · exact nomatch e
      · injection e with e1 _; rw [e1]
  byValue := fun k v h => by
    rcases keyIs_shape h with ⟨i, t, rfl, rfl⟩ | ⟨x, t, rfl, rfl⟩ <;> rfl
  pyHash := fun hv h => by
    rcases keyIs_shape hv with ⟨i, t, rfl, rfl⟩ | ⟨x, t, rfl, rfl⟩
    · exact wpAny_pyHash_int h
    · exact wpAny_pyHash_str h
  eqBool := fun hu hv h => by
    rcases keyIs_shape hu with ⟨i, t, rfl, rfl⟩ | ⟨x, t, rfl, rfl⟩
    · rcases keyIs_shape hv with ⟨j, u, rfl, rfl⟩ | ⟨y, u, rfl, rfl⟩
      · rw [key_ll] at h; exact wpAny_eqBool_int h
      · rw [key_lr] at h; exact SeqAt.EqAt.int_str i t y u _ _ _ _ h
    · rcases keyIs_shape hv with ⟨j, u, rfl, rfl⟩ | ⟨y, u, rfl, rfl⟩
      · rw [key_rl] at h; exact SeqAt.EqAt.str_int x t j u _ _ _ _ h
      · rw [key_rr] at h; exact wpAny_eqBool_str h
  «strs» := fun k x t v h => by
    rcases keyIs_shape h with ⟨i, u, rfl, e⟩ | ⟨y, u, rfl, e⟩
    · exact nomatch e
    · injection e with e1 _
      subst e1
      cases v <;> rfl

end L2

namespace L2
open PySem PySem.Spec PyProof.Rows

/-- a value, without the heap -/
inductive V where
  | non | bl (b : Bool) | int (i : Int) | str (x : Str) | byt (b : Array UInt8) | flt (b : UInt64) | ref (a : Addr) | ty (n : String)
  deriving DecidableEq

def RelV : V → Value → Prop
  | .non, u => u = Value.none
  | .bl b, u => u = Value.bool b
  | .int i, u => ∃ t, u = Value.int i t
  | .str x, u => ∃ t, u = Value.str x t
  | .byt b, u => ∃ t, u = Value.bytes b t
  | .flt b, u => ∃ t, u = Value.float b t
  | .ref a, u => u = Value.ref a
  | .ty n, u => u = Value.type n

abbrev Vals : List V → List Value → Prop := Paired RelV
theorem Vals.length {xs : List V} {us : List Value} (r : Vals xs us) : xs.length = us.length := Paired.length r
theorem Vals.get : ∀ {xs : List V} {us : List Value} {i : Nat} {x : V}, Vals xs us → xs[i]? = some x → ∃ u, us[i]? = some u ∧ RelV x u
  | _, _, _, _, .nil, e => by simp at e
  | _, _, 0, _, .cons r _, e => by simp at e; subst e; exact ⟨_, rfl, r⟩
  | _, _, i + 1, x, .cons _ t, e => by
    obtain ⟨u, h1, h2⟩ := Vals.get (i := i) (x := x) t (by simpa using e)
    exact ⟨u, by simpa using h1, h2⟩
theorem Vals.set {x : V} {u : Value} (r : RelV x u) : ∀ {xs : List V} {us : List Value} (i : Nat), Vals xs us → Vals (xs.set i x) (us.set i u)
  | _, _, _, .nil => .nil
  | _, _, 0, .cons _ t => .cons r t
  | _, _, i + 1, .cons q t => .cons q (Vals.set r i t)
theorem Vals.append : ∀ {xs ys : List V} {us ws : List Value}, Vals xs us → Vals ys ws → Vals (xs ++ ys) (us ++ ws)
  | _, _, _, _, .nil, s => s
  | _, _, _, _, .cons r t, s => .cons r (Vals.append t s)
theorem Vals.take : ∀ {xs : List V} {us : List Value} (n : Nat), Vals xs us → Vals (xs.take n) (us.take n)
  | _, _, 0, _ => .nil
  | _, _, _ + 1, .nil => .nil
  | _, _, n + 1, .cons r t => .cons r (Vals.take n t)
theorem Vals.drop : ∀ {xs : List V} {us : List Value} (n : Nat), Vals xs us → Vals (xs.drop n) (us.drop n)
  | _, _, 0, r => r
  | _, _, _ + 1, .nil => .nil
  | _, _, n + 1, .cons _ t => Vals.drop n t
def RelO : Option V → Option Value → Prop
  | some v, some u => RelV v u
  | none, none => True
  | _, _ => False
def KV {κ : Type} : List (κ × V) → List (κ × Value) → Prop := Paired fun (p : κ × V) (q : κ × Value) => p.1 = q.1 ∧ RelV p.2 q.2

/-- a key of a dict (00_mix): an int or a text -/
def kV : Key → V
  | .inl i => .int i
  | .inr x => .str x

/-- what stands at a tracked address -/
inductive HO where
  /-- a list -/
  | lst (xs : List V)
  /-- a tuple (never changes) -/
  | tup (xs : List V)
  /-- a dict whose keys are ints and texts; one whose keys are tuples of ints and texts (the empty one is both) -/
  | dK (kvs : List (Key × V)) | dT (kvs : List (List Key × V))
  /-- a set of ints: its members, its size -/
  | set (S : Int → Bool) (n : Nat)
  /-- an instance of the class at C, its dict at dx, its attributes -/
  | ins (C dx : Addr) (fs : List (Str × V))
  /-- the dict of the instance at x -/
  | own (x : Addr)
  /-- the dict of an exception -/
  | xd (fs : List (Str × V))
  /-- a bound method, f of x -/
  | met (f x : Addr)
  /-- a range object lo, lo + 1, .. below hi -/
  | rng (lo hi : Int)
  /-- a thing that is known to the object (the script; a dict while a loop walks it): read, never written while it is so -/
  | frz (o : Obj) (u : HO)
  /-- a code object's table -/
  | tbl (ps : Array Value)
  /-- any other thing, by what is true of its one object (a def of one's own: SetO a S n := HO.ext fun h => ..) -/
  | ext (φ : Heap → Prop)

abbrev Hp := Addr → Option HO
def upd (H : Hp) (a : Addr) (o : HO) : Hp := fun b => if b = a then some o else H b
theorem upd_same {H : Hp} {a : Addr} {o : HO} : upd H a o a = some o := by unfold upd; rw [if_pos rfl]
theorem upd_ne {H : Hp} {a b : Addr} {o : HO} (h : b ≠ a) : upd H a o b = H b := by unfold upd; rw [if_neg h]
theorem ne_of_none {H : Hp} {a b : Addr} {o : HO} (h : H a = some o) (h' : H b = none) : a ≠ b := by
  intro e; subst e; rw [h] at h'; cases h'

/-- a tuple, and no dict of its own -/
def IsTupN (h : Heap) (a : Addr) (items : Array Value) : Prop := ∃ o, h.get? a = some o ∧ o.cls = .type "tuple" ∧ o.dict = none ∧ ∃ n, o.data = .seq items n
theorem IsTupN.tup {h : Heap} {a : Addr} {items : Array Value} (x : IsTupN h a items) : IsTup h a items := let ⟨o, e, c, _, d⟩ := x; ⟨o, e, c, d⟩
theorem IsTupN.lt {h : Heap} {a : Addr} {items : Array Value} (x : IsTupN h a items) : a < h.objs.size := let ⟨_, e, _⟩ := x; Heap.lt_size e
theorem IsTupN.new (h : Heap) (items : Array Value) : IsTupN (h.push { cls := .type "tuple", data := .seq items }) h.objs.size items := ⟨_, Heap.get?_push_size _ rfl, rfl, rfl, _, rfl⟩
section
variable (P : Program) (w : World)
def ObjOk (H : Hp) (h : Heap) (a : Addr) : HO → Prop
  | .lst xs => xs.length ≤ sizeLine ∧ ∃ (its : List Value) (n : Nat), Vals xs its ∧ h.get? a = some { cls := .type "list", data := .seq its.toArray n }
  | .tup xs => xs.length ≤ sizeLine ∧ ∃ its : List Value, Vals xs its ∧ IsTupN h a its.toArray
  | .dK kvs => kvs.length ≤ sizeLine ∧ (a == sysModules) = false ∧ ∃ vs, KV kvs vs ∧ h.DictOf (mixKind P w) a vs
  | .dT kvs => kvs.length ≤ sizeLine ∧ (a == sysModules) = false ∧ ∃ xs : List (List Key × Addr × Value),
      Paired (fun (p : List Key × V) (q : List Key × Addr × Value) => p.1 = q.1 ∧ H q.2.1 = some (.tup (p.1.map kV)) ∧ RelV p.2 q.2.2) kvs xs ∧
      ∃ o es ep, h.get? a = some o ∧ o.ExactDict ∧ o.data = .dict es ep ∧ es.toList = xs.map (entryOfKey (tupleKind (mixKind P w))) ∧ (xs.map (·.1)).Nodup
  | .set S n => h.SetOf (intKind P w) a S n
  | .ins C dx fs => H dx = some (.own a) ∧ fs.length ≤ 1000 ∧ dx ≠ a ∧ h.get? a = some (PySem.W.instObj C dx) ∧
      ∃ mA, h.Ns1 dx mA ∧ (∀ f, RelO (fs.lookup f) (mA f)) ∧ PySem.Within mA (fs.map (·.1))
  | .own _ => ∃ o, h.get? a = some o
  | .xd fs => ∃ mA, h.Ns1 a mA ∧ ∀ f, RelO (fs.lookup f) (mA f)
  | .rng lo hi => ∃ t u v, h.get? a = some { cls := .type "range", data := .fields #[.int lo t, .int hi u, .int 1 v] }
  | .frz o u => h.get? a = some o ∧ ObjOk H h a u
  | .tbl ps => h.get? a = some { cls := .none, data := .fields ps }
  | .met f x => h.get? a = some (PySem.W.methodObj (.ref f) (.ref x))
  | .ext φ => φ h ∧ (∃ o, h.get? a = some o) ∧ ∀ h1 h2 : Heap, φ h1 → (∀ o, h1.get? a = some o → h2.get? a = some o) → φ h2
/-- the abstract heap is held -/
def HOk (H : Hp) (h : Heap) : Prop := ∀ a o, H a = some o → ObjOk P w H h a o
end

section
variable {P : Program} {w : World} {H H' : Hp} {h h' : Heap} {a : Addr} {o : HO}
theorem ObjOk.lt (x : ObjOk P w H h a o) : a < h.objs.size := by
  cases o with
  | lst xs => obtain ⟨_, _, _, _, e⟩ := x; exact Heap.lt_size e
  | tup xs => obtain ⟨_, _, _, p⟩ := x; exact p.lt
  | dK kvs => obtain ⟨_, _, _, _, o, _, _, e, _⟩ := x; exact Heap.lt_size e
  | dT kvs => obtain ⟨_, _, _, _, o, _, _, e, _⟩ := x; exact Heap.lt_size e
  | set S n => obtain ⟨o, _, _, _, e, _⟩ := x; exact Heap.lt_size e
  | ins C dx fs => obtain ⟨_, _, _, e, _⟩ := x; exact Heap.lt_size e
  | own y => obtain ⟨_, e⟩ := x; exact Heap.lt_size e
  | xd fs => obtain ⟨_, ⟨_, _, _, e, _⟩, _⟩ := x; exact Heap.lt_size e
  | rng lo hi => obtain ⟨_, _, _, e⟩ := x; exact Heap.lt_size e
  | frz ob u => obtain ⟨e, _⟩ := x; exact Heap.lt_size e
  | tbl ps => exact Heap.lt_size (show h.get? a = some _ from x)
  | met f y => exact Heap.lt_size (show h.get? a = some _ from x)
  | ext φ => obtain ⟨_, ⟨_, e⟩, _⟩ := x; exact Heap.lt_size e
theorem Paired.mapP {α β : Type} {F G : α → β → Prop} : ∀ {l₁ : List α} {l₂ : List β}, Paired F l₁ l₂ → (∀ a b, F a b → G a b) → Paired G l₁ l₂
  | _, _, .nil, _ => .nil
  | _, _, .cons r t, f => .cons (f _ _ r) (Paired.mapP t f)
theorem Paired.imp' {α β : Type} {F G : α → β → Prop} (f : ∀ a b, F a b → G a b) {l₁ : List α} {l₂ : List β} (r : Paired F l₁ l₂) : Paired G l₁ l₂ := Paired.mapP r f
/-- what an object's description leans on: its own object, its own dict, the tuples -/
theorem ObjOk.stay (x : ObjOk P w H h a o) (k : ∀ b u, (b = a ∨ H b = some (.own a)) → h.get? b = some u → h'.get? b = some u)
    (ho : ∀ b, H b = some (.own a) → H' b = some (.own a)) (ht : ∀ b xs, H b = some (.tup xs) → H' b = some (.tup xs)) : ObjOk P w H' h' a o := by
  induction o with
  | lst xs => obtain ⟨z, its, n, r, e⟩ := x; exact ⟨z, its, n, r, k _ _ (.inl rfl) e⟩
  | tup xs => obtain ⟨z, its, r, ob, e, c⟩ := x; exact ⟨z, its, r, ob, k _ _ (.inl rfl) e, c⟩
  | dK kvs => obtain ⟨z, y, vs, r, ob, es, ep, e, c⟩ := x; exact ⟨z, y, vs, r, ob, es, ep, k _ _ (.inl rfl) e, c⟩
  | dT kvs =>
    obtain ⟨z, y, xs, r, ob, es, ep, e, c⟩ := x
    exact ⟨z, y, xs, Paired.mapP r fun p q z => ⟨z.1, ht _ _ z.2.1, z.2.2⟩, ob, es, ep, k _ _ (.inl rfl) e, c⟩
  | set S n => obtain ⟨ob, es, ep, t, e, c⟩ := x; exact ⟨ob, es, ep, t, k _ _ (.inl rfl) e, c⟩
  | ins C dx fs =>
    obtain ⟨d, z, ne, e, mA, ⟨od, es, ep, e2, c⟩, r⟩ := x
    exact ⟨ho _ d, z, ne, k _ _ (.inl rfl) e, mA, ⟨od, es, ep, k _ _ (.inr d) e2, c⟩, r⟩
  | own y => obtain ⟨ob, e⟩ := x; exact ⟨ob, k _ _ (.inl rfl) e⟩
  | xd fs => obtain ⟨mA, ⟨od, es, ep, e, c⟩, r⟩ := x; exact ⟨mA, ⟨od, es, ep, k _ _ (.inl rfl) e, c⟩, r⟩
  | rng lo hi => obtain ⟨t, u, v, e⟩ := x; exact ⟨t, u, v, k _ _ (.inl rfl) e⟩
  | frz ob u ih => obtain ⟨e, q⟩ := x; exact ⟨k _ _ (.inl rfl) e, ih q⟩
  | tbl ps =>
    have e : h.get? a = some { cls := .none, data := .fields ps } := x
    show h'.get? a = some { cls := .none, data := .fields ps }
    exact k a _ (.inl rfl) e
  | met f y =>
    have e : h.get? a = some (PySem.W.methodObj (.ref f) (.ref y)) := x
    show h'.get? a = some (PySem.W.methodObj (.ref f) (.ref y))
    exact k a _ (.inl rfl) e
  | ext φ => obtain ⟨p, ⟨o, e⟩, st⟩ := x; exact ⟨st _ _ p fun o q => k _ _ (.inl rfl) q, ⟨o, k _ _ (.inl rfl) e⟩, st⟩
theorem HOk.lt (x : HOk P w H h) (e : H a = some o) : a < h.objs.size := (x a o e).lt
theorem HOk.fresh (x : HOk P w H h) (e : h.objs.size ≤ a) : H a = none := by
  cases q : H a with
  | none => rfl
  | some u => exact absurd (Nat.lt_of_lt_of_le (x.lt q) e) (Nat.lt_irrefl _)
/-- every object of the heap is kept -/
theorem HOk.kept (x : HOk P w H h) (k : ∀ b u, h.get? b = some u → h'.get? b = some u) : HOk P w H h' := fun a o e =>
  (x a o e).stay (fun b u _ q => k b u q) (fun _ q => q) fun _ _ q => q
/-- a new object is laid and tracked -/
theorem HOk.laid (x : HOk P w H h) (k : ∀ b u, h.get? b = some u → h'.get? b = some u) (hp : h.objs.size ≤ a) (new : ObjOk P w (upd H a o) h' a o) : HOk P w (upd H a o) h' := fun b u e => by
  have hn := x.fresh hp
  by_cases hb : b = a
  · subst hb; rw [upd_same] at e; cases e; exact new
  · rw [upd_ne hb] at e
    exact (x b u e).stay (fun c v _ q => k c v q) (fun c q => by rw [upd_ne (ne_of_none q hn)]; exact q) fun c xs q => by rw [upd_ne (ne_of_none q hn)]; exact q
end

/-- what may be read as u: it is u, or a known u -/
def Rd (H : Hp) (a : Addr) (u : HO) : Prop := H a = some u ∨ ∃ o, H a = some (.frz o u)
theorem Rd.of {H : Hp} {a : Addr} {u : HO} (h : H a = some u) : Rd H a u := .inl h
theorem Rd.ok {P : Program} {w : World} {H : Hp} {h : Heap} {a : Addr} {u : HO} (r : Rd H a u) (x : HOk P w H h) : ObjOk P w H h a u := by
  rcases r with r | ⟨o, r⟩
  · exact x a u r
  · obtain ⟨_, q⟩ := x a _ r
    exact q
/-- what may be written -/
def Mut : Option HO → Prop
  | some (.lst _) => True
  | some (.dK _) => True
  | some (.dT _) => True
  | some (.set _ _) => True
  | some (.ins _ _ _) => True
  | some (.ext _) => True
  | _ => False
section
variable {P : Program} {w : World} {H : Hp} {h h' : Heap} {x e : Addr} {o' : HO}
/-- the object at e is changed: x itself, or the dict of the instance x -/
theorem HOk.write (ok : HOk P w H h) (mu : Mut (H x)) (he : e = x ∨ H e = some (.own x)) (k : ∀ b u, b ≠ e → h.get? b = some u → h'.get? b = some u) (heo : ∃ u, h'.get? e = some u)
    (new : ObjOk P w (upd H x o') h' x o') : HOk P w (upd H x o') h' := fun b u q => by
  have nown : ∀ c y, H c = some (.own y) → c ≠ x := fun c y r z => by subst z; rw [r] at mu; exact mu
  have ntup : ∀ c xs, H c = some (.tup xs) → c ≠ x := fun c xs r z => by subst z; rw [r] at mu; exact mu
  by_cases hb : b = x
  · subst hb; rw [upd_same] at q; cases q; exact new
  · rw [upd_ne hb] at q
    by_cases hbe : b = e
    · have q' : H b = some (.own x) := by
        rcases he with z | z
        · exact absurd (hbe.trans z) hb
        · rw [hbe]; exact z
      rw [q] at q'; cases q'
      obtain ⟨v, hv⟩ := heo
      exact ⟨v, by rw [hbe]; exact hv⟩
    · refine (ok b u q).stay (fun c v hc r => k c v ?_ r) (fun c r => by rw [upd_ne (nown c b r)]; exact r) fun c xs r => by rw [upd_ne (ntup c xs r)]; exact r
      rcases hc with rfl | hc
      · exact hbe
      · rintro rfl
        rcases he with z | z
        · exact nown c b hc z
        · rw [hc] at z; cases z; exact hb rfl
end

/-! ### kept unless tracked; of the frames at fs (the callers') the slots may change (an exception that passes writes there); of the records at ex (iterators) nothing is said -/
structure Un (fs ex : List Addr) (H H' : Hp) (h h' : Heap) : Prop where
  keep : ∀ b o, h.get? b = some o → H b = none → b ∉ fs → b ∉ ex → h'.get? b = some o
  slot : ∀ b o, h.get? b = some o → H b = none → b ∈ fs → b ∉ ex → ∃ sl, h'.get? b = some { o with slots := sl }
  free : ∀ b o, h.get? b = some o → H b = none → b ∉ ex → H' b = none
  there : ∀ b o, h.get? b = some o → b ∉ ex → ∃ o', h'.get? b = some o'
  tups : ∀ b xs, H b = some (.tup xs) → H' b = some (.tup xs)
  frzs : ∀ b o u, H b = some (.frz o u) → H' b = some (.frz o u)
  tbls : ∀ b ps, H b = some (.tbl ps) → ∃ more, H' b = some (.tbl (ps ++ more))
section
variable {fs fs' ex ex' : List Addr} {H H1 H2 : Hp} {h h1 h2 h' : Heap} {a x e : Addr} {o : HO}
theorem Un.any (u : Un fs ex H H1 h h1) {b : Addr} {ob : Obj} (q : h.get? b = some ob) (n : H b = none) (hx : b ∉ ex) : ∃ sl, h1.get? b = some { ob with slots := sl } := by
  by_cases hb : b ∈ fs
  · exact u.slot b ob q n hb hx
  · exact ⟨ob.slots, u.keep b ob q n hb hx⟩
theorem Un.trans (a : Un fs ex H H1 h h1) (b : Un fs ex H1 H2 h1 h2) : Un fs ex H H2 h h2 where
  keep := fun c ob q n hc hx => b.keep c ob (a.keep c ob q n hc hx) (a.free c ob q n hx) hc hx
  slot := fun c ob q n hc hx => by
    obtain ⟨sl, e1⟩ := a.slot c ob q n hc hx
    obtain ⟨sl', e2⟩ := b.slot c _ e1 (a.free c ob q n hx) hc hx
    exact ⟨sl', e2⟩
  free := fun c ob q n hx => by
    obtain ⟨o', e1⟩ := a.there c ob q hx
    exact b.free c o' e1 (a.free c ob q n hx) hx
  there := fun c ob q hx => by
    obtain ⟨o', e1⟩ := a.there c ob q hx
    exact b.there c o' e1 hx
  tups := fun c xs q => b.tups c xs (a.tups c xs q)
  frzs := fun c ob xs q => b.frzs c ob xs (a.frzs c ob xs q)
  tbls := fun c ps q => by
    obtain ⟨m1, e1⟩ := a.tbls c ps q
    obtain ⟨m2, e2⟩ := b.tbls c _ e1
    exact ⟨m1 ++ m2, by rw [e2, Array.append_assoc]⟩
theorem Un.kept (k : ∀ b u, h.get? b = some u → h'.get? b = some u) : Un fs ex H H h h' :=
  ⟨fun b ob q _ _ _ => k b ob q, fun b ob q _ _ _ => ⟨ob.slots, k b ob q⟩, fun _ _ _ n _ => n, fun b ob q _ => ⟨ob, k b ob q⟩, fun _ _ q => q, fun _ _ _ q => q, fun _ ps q => ⟨#[], by rw [q]; simp⟩⟩
theorem Un.refl : Un fs ex H H h h := Un.kept fun _ _ q => q
theorem Un.laid (k : ∀ b u, h.get? b = some u → h'.get? b = some u) (hp : h.objs.size ≤ a) (hn : H a = none) : Un fs ex H (upd H a o) h h' where
  keep := fun b u q _ _ _ => k b u q
  slot := fun b u q _ _ _ => ⟨u.slots, k b u q⟩
  free := fun b u q n _ => by rw [upd_ne (Nat.ne_of_lt (Nat.lt_of_lt_of_le (Heap.lt_size q) hp))]; exact n
  there := fun b u q _ => ⟨u, k b u q⟩
  tups := fun b xs q => by rw [upd_ne (ne_of_none q hn)]; exact q
  frzs := fun b u xs q => by rw [upd_ne (ne_of_none q hn)]; exact q
  tbls := fun b ps q => ⟨#[], by rw [upd_ne (ne_of_none q hn), q]; simp⟩
theorem Un.write (mu : Mut (H x)) (he : e = x ∨ H e = some (.own x)) (k : ∀ b u, b ≠ e → h.get? b = some u → h'.get? b = some u) (heo : ∃ u, h'.get? e = some u) : Un fs ex H (upd H x o) h h' := by
  have hx : ∀ b, H b = none → b ≠ x := fun b n z => by subst z; rw [n] at mu; exact mu
  have hb : ∀ b, H b = none → b ≠ e := fun b n z => by
    subst z
    rcases he with r | r
    · exact hx b n r
    · rw [n] at r; cases r
  have hm : ∀ b u, H b = some u → ¬ Mut (some u) → b ≠ x := fun b u q nm z => by subst z; rw [q] at mu; exact nm mu
  refine ⟨fun b u q n _ _ => k b u (hb b n) q, fun b u q n _ _ => ⟨u.slots, k b u (hb b n) q⟩, fun b u q n _ => by rw [upd_ne (hx b n)]; exact n, fun b u q _ => ?_,
    fun b xs q => by rw [upd_ne (hm b _ q fun z => z)]; exact q, fun b u xs q => by rw [upd_ne (hm b _ q fun z => z)]; exact q, fun b ps q => ⟨#[], by rw [upd_ne (hm b _ q fun z => z), q]; simp⟩⟩
  by_cases hbe : b = e
  · subst hbe; exact heo
  · exact ⟨u, k b u hbe q⟩
theorem Un.mono (u : Un fs ex H H1 h h1) (hs : ∀ b ∈ fs, b ∈ fs') (hx : ∀ b ∈ ex, b ∈ ex') : Un fs' ex' H H1 h h1 :=
  ⟨fun b ob q n hb he => u.keep b ob q n (fun z => hb (hs b z)) fun z => he (hx b z), fun _ _ q n _ he => u.any q n fun z => he (hx _ z), fun b ob q n he => u.free b ob q n fun z => he (hx b z), fun b ob q he => u.there b ob q fun z => he (hx b z), u.tups, u.frzs, u.tbls⟩
end

/-! ### the heap without what is tracked -/
def trk (h : Heap) (H : Hp) : List Addr := (List.range h.objs.size).filter fun a => (H a).isSome
def hidT (h : Heap) (H : Hp) : Heap := PySem.W.hideAll h (trk h H)
theorem hidT_size (h : Heap) (H : Hp) : (hidT h H).objs.size = h.objs.size := PySem.W.hideAll_size _ _
theorem hidT_get {h : Heap} {H : Hp} {b : Addr} {o : Obj} (e : h.get? b = some o) (n : H b = none) : (hidT h H).get? b = some o :=
  PySem.W.hideAll_get _ e fun hm => by
    have q : (H b).isSome = true := (List.mem_filter.mp hm).2
    rw [n] at q; simp at q
theorem of_hidT {h : Heap} {H : Hp} {b : Addr} {o : Obj} (e : (hidT h H).get? b = some o) : h.get? b = some o ∧ H b = none := by
  have e' : h.get? b = some o := PySem.W.of_hideAll (trk h H) e
  refine ⟨e', ?_⟩
  cases q : H b with
  | none => rfl
  | some x =>
    have hm : b ∈ trk h H := List.mem_filter.mpr ⟨List.mem_range.mpr (Heap.lt_size e'), by simp [q]⟩
    have z : (hidT h H).get? b = none := PySem.W.hideAll_none (trk h H) hm
    rw [z] at e; cases e

/-! ### OpenK's ledger, filled with every new object but one -/
def allNews (g h : Heap) (L : Addr) : List (Addr × Obj) := (List.range h.objs.size).filterMap fun a => if a = L ∨ (g.get? a).isSome = true then none else (h.get? a).map fun o => (a, o)
def rest (g h : Heap) (L d : Addr) : List (Addr × Obj) := (allNews g h L).filter fun p => decide (p.1 ≠ d)
end L2

namespace L2
open PySem PySem.Spec PyProof.Rows

/-- the module's facts, over the base: the heap at the law's entry without what is tracked there -/
structure Mod (K : PySem.W.Frag) (mg : Str → Option Value) (base : Heap) : Prop where
  kin : K.In base
  glob : base.Ns mainGlobals mg
  blt : ∃ mb, base.Ns builtinsNs mb ∧ ∀ x : Str, x ≠ "__name__" → mb x = bootBuiltins x
  nolimit : base.NoLimit

/-- the context: a def's body (or a comprehension's block) running. base: fixed through the whole law; s₀, H₀: the entry; outer: the frames whose slots others may change (a def's callers); stack: all frames that run;
   ex: iterators that were made ahead of the entry and are walked here (a comprehension's); fn: the names whose cells were made at the entry (a def: all; a comprehension's block: its own); calm: not within an except suite; pn: pins that every state bears; xe: what is wanted of an exception that leaves the code -/
structure Cx where
  prog : Program
  w : World
  K : PySem.W.Frag
  mg : Str → Option Value
  base : Heap
  A : Around
  N : List Str
  s₀ : Shared
  H₀ : Hp
  env : Env
  outer : List Env
  stack : List Env
  ex : List Addr
  fn : Str → Bool
  calm : Bool
  pn : List (Addr × Obj)
  xe : Value → Shared → Prop
/-- the callers' frames -/
def frs (l : List Env) : List Addr := l.filterMap (·.frame)
abbrev Cx.fs (X : Cx) : List Addr := frs X.outer

def Vis (sc : Scope) (x : Str) : Prop := sc.names.lookup x = some .local ∨ sc.names.lookup x = some .cell ∨ sc.names.lookup x = some .free
def Loc (sc : Scope) (x : Str) : Prop := sc.names.lookup x = some .local ∨ sc.names.lookup x = some .cell
def Look (env : Env) (h : Heap) (m : Str → Option Value) (x : Str) (u : Value) : Prop :=
  (env.kindOf x = some .local ∧ m x = some u) ∨ ((env.kindOf x = some .cell ∨ env.kindOf x = some .free) ∧ ∃ c, env.cells.lookup x = some c ∧ h.IsCell c (some u))

structure Cx.Ok (X : Cx) : Prop where
  mod : Mod X.K X.mg X.base
  kind : X.env.scope.kind = .function
  glob : X.env.globals = mainGlobals
  blt : X.env.builtins = builtinsNs
  above : X.s₀.heap.objs.size ≤ X.env.locals
  inj : ∀ x y c, X.env.cells.lookup x = some c → X.env.cells.lookup y = some c → x = y
  has : ∀ x, (X.env.kindOf x = some .cell ∨ X.env.kindOf x = some .free) → ∃ c, X.env.cells.lookup x = some c
  cab : ∀ x c, X.fn x = true → X.env.cells.lookup x = some c → X.s₀.heap.objs.size ≤ c
  hd : X.calm = true → X.A.handled = none
  frames : X.A.frames = some X.stack
  stk : X.stack = X.outer ∨ (X.stack = X.env :: X.outer ∧ X.env.frame = some X.env.locals)
  exf : ∀ b ∈ X.ex, b ≠ X.env.locals ∧ ∀ x c, X.env.cells.lookup x = some c → c ≠ b
  bs : ∀ b o, X.base.get? b = some o → X.s₀.heap.get? b = some o ∧ X.H₀ b = none
  bsz : X.base.objs.size ≤ X.s₀.heap.objs.size
  noex : ∀ b o, X.base.get? b = some o → b ∉ X.ex
  exfs : ∀ b ∈ X.ex, b ∉ X.fs
  funs : X.s₀.heap.FunFrames X.base X.outer
  frf : ∀ b ∈ X.fs, X.H₀ b = none

structure Inv (X : Cx) (pins : List (Addr × Obj)) (σ : List (Option V)) (H : Hp) (s : Shared) : Prop where
  ok : X.Ok
  os : s.os = X.s₀.os
  bare : AllBare s.gens
  base : Un X.fs X.ex X.H₀ H X.s₀.heap s.heap
  loc : ∃ m, s.heap.Ns X.env.locals m ∧ ∀ (i : Nat) (x : Str) (v : V), X.N[i]? = some x → σ[i]? = some (some v) → Vis X.env.scope x → ∃ u, RelV v u ∧ Look X.env s.heap m x u
  cell : ∀ x c, X.env.cells.lookup x = some c → ∃ v, s.heap.IsCell c v
  free : H X.env.locals = none
  freeC : ∀ x c, X.env.cells.lookup x = some c → H c = none
  pin : ∀ p ∈ X.pn ++ pins, s.heap.get? p.1 = some p.2 ∧ H p.1 = none ∧ p.1 ≠ X.env.locals ∧ p.1 ∉ X.fs ∧ ∀ v, p.2.data ≠ .cell v
  hok : HOk X.prog X.w H s.heap
  len : σ.length = X.N.length

section
variable {X : Cx} {pins : List (Addr × Obj)} {σ : List (Option V)} {H H' : Hp} {s : Shared} {h' : Heap}

theorem Cx.Ok.nofr (ok : X.Ok) {b : Addr} {o : Obj} (e : X.base.get? b = some o) : b ∉ X.fs := fun hb => by
  have := (ok.funs.mem hb).1
  rw [e] at this; cases this
theorem Inv.bs (I : Inv X pins σ H s) : ∀ b o, X.base.get? b = some o → s.heap.get? b = some o ∧ H b = none := fun b o e =>
  ⟨I.base.keep b o (I.ok.bs b o e).1 (I.ok.bs b o e).2 (I.ok.nofr e) (I.ok.noex b o e), I.base.free b o (I.ok.bs b o e).1 (I.ok.bs b o e).2 (I.ok.noex b o e)⟩
theorem Inv.bk (I : Inv X pins σ H s) : ∀ b o, X.base.get? b = some o → s.heap.get? b = some o := fun b o e => (I.bs b o e).1
theorem Inv.mod (I : Inv X pins σ H s) : Mod X.K X.mg X.base := I.ok.mod
theorem Inv.kIn (I : Inv X pins σ H s) : X.K.In s.heap := I.ok.mod.kin.keeps I.bk
theorem Inv.nolimit (I : Inv X pins σ H s) : s.heap.NoLimit := I.ok.mod.nolimit.keeps I.bk
/-- the frame over the base: for OpenK's rules (K.In X.base is I.mod.kin) -/
theorem Inv.fr (I : Inv X pins σ H s) : ∃ m, Fr X.base X.env.locals s.heap m :=
  let ⟨m, hn, _⟩ := I.loc
  ⟨m, hn, I.bk, Nat.le_trans I.ok.bsz I.ok.above⟩
theorem Inv.lt (I : Inv X pins σ H s) : X.env.locals < s.heap.objs.size := let ⟨_, hn, _⟩ := I.loc; hn.lt
theorem Inv.sz (I : Inv X pins σ H s) : X.s₀.heap.objs.size ≤ s.heap.objs.size := Nat.le_trans I.ok.above (Nat.le_of_lt I.lt)
theorem Inv.nofs (I : Inv X pins σ H s) {a : Addr} (h : s.heap.objs.size ≤ a) : a ∉ X.fs := fun hb => by
  obtain ⟨_, o, ho, _⟩ := I.ok.funs.mem hb
  exact absurd (Nat.lt_of_lt_of_le (Heap.lt_size ho) (Nat.le_trans I.sz h)) (Nat.lt_irrefl _)
theorem Inv.cne (I : Inv X pins σ H s) : ∀ x c, X.env.cells.lookup x = some c → c ≠ X.env.locals := fun x c e z => by
  obtain ⟨v, o, ho, hd⟩ := I.cell x c e
  obtain ⟨m, ⟨o', es, ep, ho', hd', _⟩, _⟩ := I.loc
  rw [z, ho'] at ho; cases ho; rw [hd'] at hd; cases hd
theorem Inv.funs (I : Inv X pins σ H s) : s.heap.FunFrames X.base X.outer := by
  have all : ∀ (l : List Env), (∀ b ∈ frs l, b ∈ X.fs) → X.s₀.heap.FunFrames X.base l → s.heap.FunFrames X.base l := by
    intro l
    induction l with
    | nil => intro _ _; trivial
    | cons env r ih =>
      intro hs hl
      obtain ⟨hk, ⟨L, o, hf, hn, ho, hd⟩, hr⟩ := hl
      have hL : L ∈ X.fs := hs L (by unfold frs; rw [List.filterMap_cons, hf]; exact List.mem_cons_self)
      obtain ⟨sl, e⟩ := I.base.slot L o ho (I.ok.frf L hL) hL fun z => I.ok.exfs L z hL
      exact ⟨hk, ⟨L, _, hf, hn, e, hd⟩, ih (fun b hb => hs b (by unfold frs; rw [List.filterMap_cons, hf]; exact List.mem_cons_of_mem _ hb)) hr⟩
  exact all X.outer (fun _ hb => hb) I.ok.funs

/-- the frames that run, for a call -/
theorem Inv.stack (I : Inv X pins σ H s) : s.heap.FunFrames X.base X.stack := by
  rcases I.ok.stk with e | ⟨e, hf⟩
  · rw [e]; exact I.funs
  · rw [e]
    obtain ⟨m, hn, _⟩ := I.loc
    refine .cons (by rw [I.ok.kind]; decide) hf hn ?_ I.funs
    exact Heap.get?_none_of_le (Nat.le_trans I.ok.bsz I.ok.above)
theorem Inv.stkSub (I : Inv X pins σ H s) : ∀ b ∈ frs X.stack, b ∈ X.env.locals :: X.fs := fun b hb => by
  rcases I.ok.stk with e | ⟨e, hf⟩
  · rw [e] at hb; exact List.mem_cons_of_mem _ hb
  · rw [e] at hb
    unfold frs at hb
    rw [List.filterMap_cons, hf] at hb
    exact hb
theorem Inv.stkFree (I : Inv X pins σ H s) : ∀ b ∈ frs X.stack, H b = none := fun b hb => by
  rcases List.mem_cons.mp (I.stkSub b hb) with e | hb
  · rw [e]; exact I.free
  · obtain ⟨_, o, ho, _⟩ := I.ok.funs.mem hb
    exact I.base.free b o ho (I.ok.frf b hb) fun z => I.ok.exfs b z hb

/-- THE STEP: the untracked objects but the frame and the records at ch are kept (the callers' frames up to slots), the frame's map is kept, the new abstract heap is held -/
theorem Inv.step {g' : Array GenState} {t' : Nat} {d' : Drawn} {ch : List Addr} (I : Inv X pins σ H s)
    (hch : ∀ b ∈ ch, (b ∈ X.ex ∨ X.s₀.heap.objs.size ≤ b) ∧ b ≠ X.env.locals ∧ (∀ x c, X.env.cells.lookup x = some c → c ≠ b) ∧ ∀ p ∈ X.pn ++ pins, p.1 ≠ b)
    (keep : ∀ b o, b ≠ X.env.locals → b ∉ X.fs → b ∉ ch → s.heap.get? b = some o → H b = none → h'.get? b = some o)
    (slot : ∀ b o, b ≠ X.env.locals → b ∈ X.fs → b ∉ ch → s.heap.get? b = some o → H b = none → ∃ sl, h'.get? b = some { o with slots := sl }) (free : ∀ b o, b ∉ ch → s.heap.get? b = some o → H b = none → H' b = none)
    (there : ∀ b o, b ∉ ch → s.heap.get? b = some o → ∃ o', h'.get? b = some o')
    (tups : ∀ b xs, H b = some (.tup xs) → H' b = some (.tup xs)) (frzs : ∀ b o u, H b = some (.frz o u) → H' b = some (.frz o u)) (tbls : ∀ b ps, H b = some (.tbl ps) → ∃ more, H' b = some (.tbl (ps ++ more)))
    (ns : ∀ m, s.heap.Ns X.env.locals m → h'.Ns X.env.locals m) (hok : HOk X.prog X.w H' h') (hg : AllBare g') :
    Inv X pins σ H' { s with heap := h', gens := g', drawn := d', toks := t' } := by
  have neL : ∀ b o, X.s₀.heap.get? b = some o → b ≠ X.env.locals := fun b o e => Nat.ne_of_lt (Nat.lt_of_lt_of_le (Heap.lt_size e) I.ok.above)
  have neC : ∀ b o, X.s₀.heap.get? b = some o → b ∉ X.ex → b ∉ ch := fun b o e hx hb => by
    rcases (hch b hb).1 with z | z
    · exact hx z
    · exact absurd (Nat.lt_of_lt_of_le (Heap.lt_size e) z) (Nat.lt_irrefl _)
  have cellK : ∀ x c, X.env.cells.lookup x = some c → ∀ v, s.heap.IsCell c v → h'.IsCell c v := fun x c e v ⟨o, ho, hd⟩ => by
    have nch : c ∉ ch := fun z => (hch c z).2.2.1 x c e rfl
    by_cases hc : c ∈ X.fs
    · obtain ⟨sl, q⟩ := slot c o (I.cne x c e) hc nch ho (I.freeC x c e)
      exact ⟨_, q, hd⟩
    · exact ⟨o, keep c o (I.cne x c e) hc nch ho (I.freeC x c e), hd⟩
  refine ⟨I.ok, I.os, hg, ⟨fun b o e n hb hx => ?_, fun b o e n hb hx => ?_, fun b o e n hx => ?_, fun b o e hx => ?_, fun b xs e => tups b xs (I.base.tups b xs e), fun b o xs e => frzs b o xs (I.base.frzs b o xs e), fun b ps e => ?_⟩, ?_, fun x c e => ?_, ?_, fun x c e => ?_, fun p hp => ?_, hok, I.len⟩
  · exact keep b o (neL b o e) hb (neC b o e hx) (I.base.keep b o e n hb hx) (I.base.free b o e n hx)
  · obtain ⟨sl, e1⟩ := I.base.slot b o e n hb hx
    obtain ⟨sl', e2⟩ := slot b _ (neL b o e) hb (neC b o e hx) e1 (I.base.free b o e n hx)
    exact ⟨sl', e2⟩
  · obtain ⟨o', e1⟩ := I.base.there b o e hx
    exact free b o' (neC b o e hx) e1 (I.base.free b o e n hx)
  · obtain ⟨o', e1⟩ := I.base.there b o e hx
    exact there b o' (neC b o e hx) e1
  · obtain ⟨m1, e1⟩ := I.base.tbls b ps e
    obtain ⟨m2, e2⟩ := tbls b _ e1
    exact ⟨m1 ++ m2, by rw [e2, Array.append_assoc]⟩
  · obtain ⟨m, hn, hl⟩ := I.loc
    refine ⟨m, ns m hn, fun i x v e1 e2 e3 => ?_⟩
    obtain ⟨u, r, l⟩ := hl i x v e1 e2 e3
    refine ⟨u, r, ?_⟩
    rcases l with l | ⟨k, c, e, z⟩
    · exact .inl l
    · exact .inr ⟨k, c, e, cellK x c e _ z⟩
  · obtain ⟨v, z⟩ := I.cell x c e
    exact ⟨v, cellK x c e v z⟩
  · obtain ⟨m, ⟨o, _, _, ho, _⟩, _⟩ := I.loc
    exact free _ o (fun z => (hch _ z).2.1 rfl) ho I.free
  · obtain ⟨v, o, ho, hd⟩ := I.cell x c e
    exact free c o (fun z => (hch c z).2.2.1 x c e rfl) ho (I.freeC x c e)
  · obtain ⟨e, n, ne, nf, d⟩ := I.pin p hp
    have nch : p.1 ∉ ch := fun z => (hch p.1 z).2.2.2 p hp rfl
    exact ⟨keep p.1 p.2 ne nf nch e n, free p.1 p.2 nch e n, ne, nf, d⟩
/-- .. where the frame's own object is kept too -/
theorem Inv.un {t' : Nat} (I : Inv X pins σ H s) (u : Un X.fs [] H H' s.heap h') (hok : HOk X.prog X.w H' h') : Inv X pins σ H' { s with heap := h', toks := t' } := by
  obtain ⟨m, ⟨o, es, ep, ho, r⟩, _⟩ := id I.loc
  obtain ⟨sl, hL⟩ := u.any ho I.free (by simp)
  exact I.step (g' := s.gens) (d' := s.drawn) (ch := []) (fun _ z => nomatch z) (fun b o _ hb _ e n => u.keep b o e n hb (by simp)) (fun b o _ hb _ e n => u.slot b o e n hb (by simp)) (fun b o _ e n => u.free b o e n (by simp)) (fun b o _ e => u.there b o e (by simp)) u.tups u.frzs u.tbls (fun m' hm => by
    obtain ⟨o', es', ep', ho', r'⟩ := hm
    rw [ho] at ho'; cases ho'
    exact ⟨_, es', ep', hL, r'⟩) hok I.bare
/-- behind a call (or a comprehension's block): the slots of this frame may have changed too, the records at ch may have turned -/
theorem Inv.call {g' : Array GenState} {t' : Nat} {d' : Drawn} {ch : List Addr} (I : Inv X pins σ H s) (u : Un (frs X.stack) ch H H' s.heap h') (hok : HOk X.prog X.w H' h') (hg : AllBare g')
    (hch : ∀ b ∈ ch, (b ∈ X.ex ∨ X.s₀.heap.objs.size ≤ b) ∧ b ≠ X.env.locals ∧ (∀ x c, X.env.cells.lookup x = some c → c ≠ b) ∧ ∀ p ∈ X.pn ++ pins, p.1 ≠ b) :
    Inv X pins σ H' { s with heap := h', gens := g', drawn := d', toks := t' } := by
  obtain ⟨m, ⟨o, es, ep, ho, r⟩, _⟩ := id I.loc
  obtain ⟨sl, hL⟩ := u.any ho I.free fun z => (hch _ z).2.1 rfl
  exact I.step (ch := ch) hch (fun b o hL hb hc e n => u.keep b o e n (fun z => (List.mem_cons.mp (I.stkSub b z)).elim hL hb) hc) (fun b o _ _ hc e n => u.any e n hc) (fun b o hc e n => u.free b o e n hc) (fun b o hc e => u.there b o e hc) u.tups u.frzs u.tbls (fun m' hm => by
    obtain ⟨o', es', ep', ho', r'⟩ := hm
    rw [ho] at ho'; cases ho'
    exact ⟨_, es', ep', hL, r'⟩) hok hg
/-- an untracked record of ours (an iterator) has turned -/
theorem Inv.turned {t' : Nat} {it : Addr} (I : Inv X pins σ H s) (k : ∀ b o, b ≠ it → s.heap.get? b = some o → h'.get? b = some o) (hn : H it = none) (hL : it ≠ X.env.locals)
    (h1 : it ∈ X.ex ∨ X.s₀.heap.objs.size ≤ it) (h2 : ∀ x c, X.env.cells.lookup x = some c → c ≠ it) (h3 : ∀ p ∈ X.pn ++ pins, p.1 ≠ it) : Inv X pins σ H { s with heap := h', toks := t' } := by
  have nit : ∀ b u, H b = some u → b ≠ it := fun b u e z => by rw [z, hn] at e; cases e
  refine I.step (g' := s.gens) (d' := s.drawn) (ch := [it]) (fun b hb => ?_) (fun b o _ _ hc e _ => k b o (fun z => hc (by simp [z])) e) (fun b o _ _ hc e _ => ⟨o.slots, k b o (fun z => hc (by simp [z])) e⟩) (fun _ _ _ _ n => n)
    (fun b o hc e => ⟨o, k b o (fun z => hc (by simp [z])) e⟩) (fun _ _ e => e) (fun _ _ _ e => e) (fun b ps e => ⟨#[], by rw [e]; simp⟩) (fun m hm => ?_) (fun b u e => ?_) I.bare
  · have e : b = it := by simpa using hb
    subst e
    exact ⟨h1, hL, h2, h3⟩
  · obtain ⟨o, es, ep, ho, r⟩ := hm
    exact ⟨o, es, ep, k _ o (Ne.symm hL) ho, r⟩
  · refine (I.hok b u e).stay (fun c v hc q => k c v ?_ q) (fun _ q => q) fun _ _ q => q
    rcases hc with z | z
    · rw [z]; exact nit b u e
    · exact nit c _ z
theorem Inv.tok (I : Inv X pins σ H s) (t : Nat) : Inv X pins σ H { s with toks := t } := I.un (h' := s.heap) (t' := t) Un.refl I.hok
/-- all objects kept -/
theorem Inv.kept {t' : Nat} (I : Inv X pins σ H s) (k : ∀ b u, s.heap.get? b = some u → h'.get? b = some u) : Inv X pins σ H { s with heap := h', toks := t' } := I.un (Un.kept k) (I.hok.kept k)
/-- a new object laid and tracked -/
theorem Inv.laid {a : Addr} {o : HO} {t' : Nat} (I : Inv X pins σ H s) (k : ∀ b u, s.heap.get? b = some u → h'.get? b = some u) (hp : s.heap.objs.size ≤ a) (new : ObjOk X.prog X.w (upd H a o) h' a o) :
    Inv X pins σ (upd H a o) { s with heap := h', toks := t' } := I.un (Un.laid k hp (I.hok.fresh hp)) (I.hok.laid k hp new)
/-- an object written -/
theorem Inv.write {x e : Addr} {o : HO} {t' : Nat} (I : Inv X pins σ H s) (mu : Mut (H x)) (he : e = x ∨ H e = some (.own x)) (k : ∀ b u, b ≠ e → s.heap.get? b = some u → h'.get? b = some u) (heo : ∃ u, h'.get? e = some u)
    (new : ObjOk X.prog X.w (upd H x o) h' x o) : Inv X pins σ (upd H x o) { s with heap := h', toks := t' } := I.un (Un.write mu he k heo) (I.hok.write mu he k heo new)
/-- forgetting slots, pins -/
theorem Inv.weak {σ' : List (Option V)} (I : Inv X pins σ H s) (hl : σ'.length = σ.length) (w : ∀ (i : Nat) v, σ'[i]? = some (some v) → σ[i]? = some (some v)) : Inv X pins σ' H s :=
  ⟨I.ok, I.os, I.bare, I.base, let ⟨m, hn, hl'⟩ := I.loc; ⟨m, hn, fun i x v e1 e2 e3 => hl' i x v e1 (w i v e2) e3⟩, I.cell, I.free, I.freeC, I.pin, I.hok, hl.trans I.len⟩
theorem Inv.pins_of {pins' : List (Addr × Obj)} (I : Inv X pins σ H s) (h : ∀ p ∈ pins', s.heap.get? p.1 = some p.2 ∧ H p.1 = none ∧ p.1 ≠ X.env.locals ∧ p.1 ∉ X.fs ∧ ∀ v, p.2.data ≠ .cell v) : Inv X pins' σ H s :=
  ⟨I.ok, I.os, I.bare, I.base, I.loc, I.cell, I.free, I.freeC, fun p hp => (List.mem_append.mp hp).elim (fun z => I.pin p (List.mem_append_left _ z)) (h p), I.hok, I.len⟩

theorem nodup_ix {N : List Str} (hN : N.Nodup) {i j : Nat} {x : Str} (a : N[i]? = some x) (b : N[j]? = some x) : i = j := by
  obtain ⟨h1, e1⟩ := List.getElem?_eq_some_iff.mp a
  obtain ⟨h2, e2⟩ := List.getElem?_eq_some_iff.mp b
  exact (List.getElem_inj hN).mp (e1.trans e2.symm)

/-- a name is stored; what changed -/
theorem store_ok2 {M : Model} {A : Around} {E : Value → Shared → Prop} {i : Nat} {x : Str} {v : V} {u : Value} {Q : Unit → Shared → Prop} (I : Inv X pins σ H s) (hN : X.N.Nodup) (hi : X.N[i]? = some x) (hx : Loc X.env.scope x) (r : RelV v u)
    (h : ∀ s', Inv X pins (σ.set i (some v)) H s' → (∃ a, Heap.SameBut a s.heap s'.heap ∧ (a = X.env.locals ∨ X.env.cells.lookup x = some a)) → Q () s') (hf : X.fn x = true ∨ X.env.scope.names.lookup x = some .local := by first | exact .inl rfl | exact .inr rfl | assumption) : wpAny M A (storeName X.env x u) Q E s := by
  obtain ⟨m, hn, hl⟩ := id I.loc
  have hcls : (X.env.scope.kind == .class || (X.env.scope.kind == .module && X.env.locals != X.env.globals)) = false := by rw [I.ok.kind]; rfl
  have hiσ : i < σ.length := by rw [I.len]; exact (List.getElem?_eq_some_iff.mp hi).1
  have cne := I.cne
  have tracked : ∀ {a : Addr} {h' : Heap}, (∃ o, s.heap.get? a = some o ∧ H a = none) → Heap.SameBut a s.heap h' → HOk X.prog X.w H h' := fun {a h'} ha hs b ob e => by
    obtain ⟨_, _, hfree⟩ := ha
    refine (I.hok b ob e).stay (fun c w' hc q => (hs.2 c ?_).trans q) (fun _ q => q) fun _ _ q => q
    rintro rfl
    rcases hc with rfl | hc
    · rw [hfree] at e; cases e
    · rw [hfree] at hc; cases hc
  rcases hx with hk | hk
  · refine wpAny_storeName_local hk hn (fun h' hn' hs => ?_) hcls
    obtain ⟨oL, _, _, hoL, _⟩ := id hn
    refine h _ ⟨I.ok, I.os, I.bare, ⟨fun b o e n hb hx => ?_, fun b o e n hb hx => ?_, I.base.free, fun b o e hx => ?_, I.base.tups, I.base.frzs, I.base.tbls⟩, ⟨_, hn', fun j y v' e1 e2 e3 => ?_⟩, fun y c e => ?_, I.free, I.freeC, fun p hp => ?_, tracked ⟨oL, hoL, I.free⟩ hs, by simpa using I.len⟩ ⟨_, hs, .inl rfl⟩
    · exact (hs.2 b (Nat.ne_of_lt (Nat.lt_of_lt_of_le (Heap.lt_size e) I.ok.above))).trans (I.base.keep b o e n hb hx)
    · obtain ⟨sl, e1⟩ := I.base.slot b o e n hb hx
      exact ⟨sl, (hs.2 b (Nat.ne_of_lt (Nat.lt_of_lt_of_le (Heap.lt_size e) I.ok.above))).trans e1⟩
    · obtain ⟨o', e1⟩ := I.base.there b o e hx
      exact ⟨o', (hs.2 b (Nat.ne_of_lt (Nat.lt_of_lt_of_le (Heap.lt_size e) I.ok.above))).trans e1⟩
    · by_cases hj : j = i
      · subst hj
        rw [hi] at e1; cases e1
        rw [List.getElem?_set_self hiσ] at e2
        cases e2
        exact ⟨u, r, .inl ⟨hk, by simp⟩⟩
      · rw [List.getElem?_set_ne (Ne.symm hj)] at e2
        obtain ⟨u', r', q⟩ := hl j y v' e1 e2 e3
        refine ⟨u', r', ?_⟩
        rcases q with ⟨k, e⟩ | ⟨k, c, e, z⟩
        · refine .inl ⟨k, ?_⟩
          have : y ≠ x := fun e => hj (nodup_ix hN e1 (e ▸ hi))
          simp [this, e]
        · exact .inr ⟨k, c, e, z.sameBut hs (cne y c e)⟩
    · obtain ⟨w', z⟩ := I.cell y c e
      exact ⟨w', z.sameBut hs (cne y c e)⟩
    · obtain ⟨e, n, ne, nf, d⟩ := I.pin p hp
      exact ⟨(hs.2 p.1 ne).trans e, n, ne, nf, d⟩
  · have hfn : X.fn x = true := by
      rcases hf with z | z
      · exact z
      · rw [z] at hk; cases hk
    obtain ⟨c, hc⟩ := I.ok.has x (.inl hk)
    obtain ⟨w', z⟩ := I.cell x c hc
    refine wpAny_storeName_cell I.ok.kind hk hc z (fun h' hc' hs => ?_)
    obtain ⟨oc, hoc, hocd⟩ := id z
    refine h { s with heap := h' } ⟨I.ok, I.os, I.bare, ⟨fun b o e n hb hx => ?_, fun b o e n hb hx => ?_, I.base.free, fun b o e hx => ?_, I.base.tups, I.base.frzs, I.base.tbls⟩, ⟨m, hn.sameBut hs (Ne.symm (cne x c hc)), fun j y v' e1 e2 e3 => ?_⟩, fun y c' e => ?_, I.free, I.freeC, fun p hp => ?_, tracked ⟨oc, hoc, I.freeC x c hc⟩ hs, by simpa using I.len⟩ ⟨c, hs, .inr hc⟩
    · exact (hs.2 b (Nat.ne_of_lt (Nat.lt_of_lt_of_le (Heap.lt_size e) (I.ok.cab x c hfn hc)))).trans (I.base.keep b o e n hb hx)
    · obtain ⟨sl, e1⟩ := I.base.slot b o e n hb hx
      exact ⟨sl, (hs.2 b (Nat.ne_of_lt (Nat.lt_of_lt_of_le (Heap.lt_size e) (I.ok.cab x c hfn hc)))).trans e1⟩
    · obtain ⟨o', e1⟩ := I.base.there b o e hx
      exact ⟨o', (hs.2 b (Nat.ne_of_lt (Nat.lt_of_lt_of_le (Heap.lt_size e) (I.ok.cab x c hfn hc)))).trans e1⟩
    · by_cases hj : j = i
      · subst hj
        rw [hi] at e1; cases e1
        rw [List.getElem?_set_self hiσ] at e2
        cases e2
        exact ⟨u, r, .inr ⟨.inl hk, c, hc, hc'⟩⟩
      · rw [List.getElem?_set_ne (Ne.symm hj)] at e2
        obtain ⟨u', r', q⟩ := hl j y v' e1 e2 e3
        refine ⟨u', r', ?_⟩
        rcases q with q | ⟨k, c', e, z'⟩
        · exact .inl q
        · refine .inr ⟨k, c', e, z'.sameBut hs ?_⟩
          rintro rfl
          exact hj (nodup_ix hN e1 (I.ok.inj _ _ _ e hc ▸ hi))
    · by_cases hcc : c' = c
      · subst hcc; exact ⟨_, hc'⟩
      · obtain ⟨w2, z2⟩ := I.cell y c' e
        exact ⟨w2, z2.sameBut hs hcc⟩
    · obtain ⟨e, n, ne, nf, d⟩ := I.pin p hp
      refine ⟨(hs.2 p.1 ?_).trans e, n, ne, nf, d⟩
      intro q
      rw [q, hoc] at e
      have q' : oc = p.2 := Option.some.inj e
      exact d w' (by rw [← q']; exact hocd)
theorem store_ok {M : Model} {A : Around} {E : Value → Shared → Prop} {i : Nat} {x : Str} {v : V} {u : Value} {Q : Unit → Shared → Prop} (I : Inv X pins σ H s) (hN : X.N.Nodup) (hi : X.N[i]? = some x) (hx : Loc X.env.scope x) (r : RelV v u)
    (h : ∀ s', Inv X pins (σ.set i (some v)) H s' → Q () s') (hf : X.fn x = true ∨ X.env.scope.names.lookup x = some .local := by first | exact .inl rfl | exact .inr rfl | assumption) : wpAny M A (storeName X.env x u) Q E s :=
  store_ok2 I hN hi hx r (fun s' I' _ => h s' I') hf
/-- behind a call or a block, the state as it is -/
theorem Inv.call' {s' : Shared} {ch : List Addr} (I : Inv X pins σ H s) (ho : s'.os = s.os) (u : Un (frs X.stack) ch H H' s.heap s'.heap) (hok : HOk X.prog X.w H' s'.heap) (hg : AllBare s'.gens)
    (hch : ∀ b ∈ ch, (b ∈ X.ex ∨ X.s₀.heap.objs.size ≤ b) ∧ b ≠ X.env.locals ∧ (∀ x c, X.env.cells.lookup x = some c → c ≠ b) ∧ ∀ p ∈ X.pn ++ pins, p.1 ≠ b) : Inv X pins σ H' s' := by
  obtain ⟨h', g', d', t', o'⟩ := s'
  have e : o' = s.os := ho
  subst e
  exact I.call (g' := g') (t' := t') (d' := d') u hok hg hch
end

/-! ### the judgements -/
/-- an exception: its class, its own dict's address (where it has one), the abstract heap behind it -/
abbrev XK := Value → Option Addr → Hp → Prop
abbrev St := List (Option V)
abbrev VK := V → Hp → Prop
/-- an expression's reading; a test's; an argument list's -/
abbrev TE := St → Hp → VK → Prop
abbrev TT := St → Hp → (Bool → Hp → Prop) → Prop
abbrev TA := St → Hp → (List V → Hp → Prop) → Prop
/-- what is wanted behind a statement -/
structure Ends where
  nx : St → Hp → Prop
  rt : VK
  bk : St → Hp → Prop := fun _ _ => False
  ct : St → Hp → Prop := fun _ _ => False
abbrev TS := Ends → St → Hp → Prop

def EP (X : Cx) (pins : List (Addr × Obj)) (σ : St) (Q : VK) (u : Value) (s' : Shared) : Prop := ∃ v H', Inv X pins σ H' s' ∧ RelV v u ∧ Q v H'
def TP (X : Cx) (pins : List (Addr × Obj)) (σ : St) (Q : Bool → Hp → Prop) (b : Bool) (s' : Shared) : Prop := ∃ H', Inv X pins σ H' s' ∧ Q b H'
def AP (X : Cx) (pins : List (Addr × Obj)) (σ : St) (Q : List V → Hp → Prop) (us : List Value) (s' : Shared) : Prop := ∃ vs H', Inv X pins σ H' s' ∧ Vals vs us ∧ Q vs H'
def SP (X : Cx) (pins : List (Addr × Obj)) (D : Ends) (f : Flow) (s' : Shared) : Prop :=
  match f with
  | .next => ∃ σ' H', Inv X pins σ' H' s' ∧ D.nx σ' H'
  | .brk => ∃ σ' H', Inv X pins σ' H' s' ∧ D.bk σ' H'
  | .cont => ∃ σ' H', Inv X pins σ' H' s' ∧ D.ct σ' H'
  | .ret u => ∃ v σ' H', Inv X pins σ' H' s' ∧ RelV v u ∧ D.rt v H'

def PE (X : Cx) (e : Expr) (t : TE) : Prop :=
  ∀ (pins : List (Addr × Obj)) (s : Shared) (σ : St) (H : Hp) (Q : VK), Inv X pins σ H s → t σ H Q → wpAny (model X.prog X.w) X.A (eval e X.env) (EP X pins σ Q) X.xe s
def PT (X : Cx) (e : Expr) (t : TT) : Prop :=
  ∀ (pins : List (Addr × Obj)) (s : Shared) (σ : St) (H : Hp) (Q : Bool → Hp → Prop), Inv X pins σ H s → t σ H Q → wpAny (model X.prog X.w) X.A (isTrue e X.env (eval e X.env)) (TP X pins σ Q) X.xe s
/-- a test whatever its 'whole' is (and, or) -/
def PW (X : Cx) (e : Expr) (t : TT) : Prop :=
  ∀ (whole : Sem Value) (pins : List (Addr × Obj)) (s : Shared) (σ : St) (H : Hp) (Q : Bool → Hp → Prop), Inv X pins σ H s → t σ H Q → wpAny (model X.prog X.w) X.A (isTrue e X.env whole) (TP X pins σ Q) X.xe s
theorem PW.pt {X : Cx} {e : Expr} {t : TT} (h : PW X e t) : PT X e t := h _
/-- an argument list (no star), from the left -/
def PA (X : Cx) (es : List Expr) (t : TA) : Prop :=
  ∀ (pos : Pos) (pins : List (Addr × Obj)) (s : Shared) (σ : St) (H : Hp) (Q : List V → Hp → Prop), Inv X pins σ H s → t σ H Q → wpAny (model X.prog X.w) X.A (spliced (backTo pos (starEach es X.env))) (AP X pins σ Q) X.xe s
def PS (X : Cx) (st : Stmt) (t : TS) : Prop :=
  ∀ (pins : List (Addr × Obj)) (s : Shared) (σ : St) (H : Hp) (D : Ends), Inv X pins σ H s → t D σ H → wpAny (model X.prog X.w) X.A (exec st X.env) (SP X pins D) X.xe s
def PSs (X : Cx) (st : List Stmt) (t : TS) : Prop :=
  ∀ (pins : List (Addr × Obj)) (s : Shared) (σ : St) (H : Hp) (D : Ends), Inv X pins σ H s → t D σ H → wpAny (model X.prog X.w) X.A (execs st X.env) (SP X pins D) X.xe s
/-- weaken the end -/
theorem thn {α : Type} {t : Sem α} {Q Q' : α → Shared → Prop} {M : Model} {A : Around} {E : Value → Shared → Prop} {s : Shared} (h : wpAny M A t Q E s) (hQ : ∀ a s, Q a s → Q' a s) : wpAny M A t Q' E s := wpAny_mono h hQ fun _ _ x => x
end L2

namespace L2
open PySem PySem.Spec PyProof.Rows
section
variable {X : Cx}

/-! ### names and constants -/
def tVar (i : Nat) : TE := fun σ H Q => ∃ v, σ[i]? = some (some v) ∧ Q v H
def tC (v : V) : TE := fun _ H Q => Q v H
theorem pe_var {i : Nat} {x : Str} {pos : Pos} (hN : X.N[i]? = some x) (hv : Vis X.env.scope x) (hd : (x == ("__debug__" : Str)) = false := by decide) (hcd : (x == ("__classdict__" : Str)) = false := by decide) : PE X (.Name x pos) (tVar i) := by
  intro pins s σ H Q I h
  obtain ⟨v, e, h⟩ := h
  obtain ⟨m, hn, hl⟩ := I.loc
  obtain ⟨u, r, l⟩ := hl i x v hN e hv
  have fin : EP X pins σ Q u s := ⟨v, H, I, r, h⟩
  rcases l with ⟨hk, hm⟩ | ⟨hk, c, hc, hcell⟩
  · exact wpAny_Name (wpAny_loadName_local I.ok.kind hk hn hm fin) hd
  · rcases hk with hk | hk
    · exact wpAny_Name (wpAny_loadName_cell I.ok.kind hk hc hcell fin) hd
    · exact wpAny_Name (wpAny_loadName_free I.ok.kind hk hc hcell fin hcd) hd
theorem pe_int {i j pos} : PE X (.Constant (.int i) j pos) (tC (.int i)) := fun _ _ _ H _ I h => wpAny_Constant_int ⟨.int i, H, I.tok _, ⟨_, rfl⟩, h⟩
theorem pe_bl {b j pos} : PE X (.Constant (.bool b) j pos) (tC (.bl b)) := fun _ _ _ H _ I h => Constant_bool ⟨.bl b, H, I, rfl, h⟩
theorem pe_non {j pos} : PE X (.Constant .none j pos) (tC .non) := fun _ _ _ H _ I h => Constant_none ⟨.non, H, I, rfl, h⟩
theorem pe_str {x j pos} : PE X (.Constant (.str x) j pos) (tC (.str x)) := fun _ _ _ H _ I h => Calls.Constant_str ⟨.str x, H, I.tok _, ⟨_, rfl⟩, h⟩

/-- a global name of the def -/
def Gl (X : Cx) (x : Str) : Prop := X.env.kindOf x = some .globalImplicit
theorem ld_glob {E : Value → Shared → Prop} {pins : List (Addr × Obj)} {s : Shared} {σ : St} {H : Hp} {x : Str} {u : Value} {pos : Pos} {Q : Value → Shared → Prop} (I : Inv X pins σ H s) (hg : Gl X x) (hm : X.mg x = some u) (h : Q u s)
    (hd : (x == ("__debug__" : Str)) = false := by decide) : wpAny (model X.prog X.w) X.A (eval (.Name x pos) X.env) Q E s :=
  Calls.Name_function_global I.ok.kind hg (Calls.loadGlobal_global (by rw [I.ok.glob]; exact I.mod.glob.keeps I.bk) hm h) hd
theorem ld_blt {E : Value → Shared → Prop} {pins : List (Addr × Obj)} {s : Shared} {σ : St} {H : Hp} {x : Str} {u : Value} {pos : Pos} {Q : Value → Shared → Prop} (I : Inv X pins σ H s) (hg : Gl X x) (hm : X.mg x = none) (hv : bootBuiltins x = some u) (h : Q u s)
    (hn : x ≠ "__name__" := by decide) (hd : (x == ("__debug__" : Str)) = false := by decide) : wpAny (model X.prog X.w) X.A (eval (.Name x pos) X.env) Q E s := by
  obtain ⟨mb, h1, h2⟩ := I.mod.blt
  exact Calls.Name_function_global I.ok.kind hg (Calls.loadGlobal_builtin (by rw [I.ok.glob]; exact I.mod.glob.keeps I.bk) hm (by rw [I.ok.blt]; exact h1.keeps I.bk) ((h2 x hn).trans hv) h) hd
/-- a module's constant, a class, a function, as a value -/
theorem pe_glob {x : Str} {v : V} {u : Value} {pos : Pos} (hg : Gl X x) (hm : X.mg x = some u) (r : RelV v u) (hd : (x == ("__debug__" : Str)) = false := by decide) : PE X (.Name x pos) (tC v) :=
  fun _ _ _ H _ I h => ld_glob I hg hm ⟨v, H, I, r, h⟩ hd
theorem pe_bltn {x : Str} {v : V} {u : Value} {pos : Pos} (hg : Gl X x) (hm : X.mg x = none) (hv : bootBuiltins x = some u) (r : RelV v u) (hn : x ≠ "__name__" := by decide) (hd : (x == ("__debug__" : Str)) = false := by decide) : PE X (.Name x pos) (tC v) :=
  fun _ _ _ H _ I h => ld_blt I hg hm hv ⟨v, H, I, r, h⟩ hn hd

/-! ### arithmetic -/
variable {a b : Expr} {ta tb : TE} {pos : Pos}
/-! ### comparisons -/
/-- a comparison as a value, as a test -/
def tB (t : TE) : TT := fun σ H Q => t σ H fun x H1 => ∃ c, x = .bl c ∧ Q c H1
/-- an expression whose value is a bool, as a test -/
theorem pt_val {e : Expr} {t : TE} (h : PE X e t) (he : ∀ whole, isTrue e X.env whole = (do let v ← whole; standAt e.pos; holding [v] (truthy v)) := by intro _; rfl) : PT X e (tB t) := by
  intro pins s σ H Q I hw
  refine isTrue_plain (thn (h pins s σ H _ I hw) fun v s1 ⟨x, H1, I1, r1, q1⟩ => ?_) (he _)
  obtain ⟨d, rfl, q⟩ := q1
  cases r1
  exact wpAny_truthy_bool ⟨H1, I1, q⟩

/-! ### and, or, not -/
variable {tA tB' : TT} {rest : List Expr}
def tAnd (t u : TT) : TT := fun σ H Q => t σ H fun c H1 => if c = true then u σ H1 Q else Q false H1
def tOr (t u : TT) : TT := fun σ H Q => t σ H fun c H1 => if c = true then Q true H1 else u σ H1 Q
def tNot (t : TT) : TT := fun σ H Q => t σ H fun c H1 => Q (!c) H1
theorem pw_and1 (ha : PT X a tA) : PW X (.BoolOp .And [a] pos) tA := by
  intro wh pins s σ H Q I h
  refine isTrue_and (thn (ha pins s σ H Q I h) fun c s1 e => ?_)
  cases c with
  | true => exact isTrue_and_nil e
  | false => exact e
theorem pw_or1 (ha : PT X a tA) : PW X (.BoolOp .Or [a] pos) tA := by
  intro wh pins s σ H Q I h
  refine isTrue_or (thn (ha pins s σ H Q I h) fun c s1 e => ?_)
  cases c with
  | false => exact isTrue_or_nil e
  | true => exact e
theorem pw_and (ha : PT X a tA) (hb : PW X (.BoolOp .And (b :: rest) pos) tB') : PW X (.BoolOp .And (a :: b :: rest) pos) (tAnd tA tB') := by
  intro wh pins s σ H Q I h
  refine isTrue_and (thn (ha pins s σ H _ I h) fun c s1 ⟨H1, I1, q1⟩ => ?_)
  cases c with
  | true => exact hb wh pins s1 σ H1 Q I1 q1
  | false => exact ⟨H1, I1, q1⟩
theorem pw_or (ha : PT X a tA) (hb : PW X (.BoolOp .Or (b :: rest) pos) tB') : PW X (.BoolOp .Or (a :: b :: rest) pos) (tOr tA tB') := by
  intro wh pins s σ H Q I h
  refine isTrue_or (thn (ha pins s σ H _ I h) fun c s1 ⟨H1, I1, q1⟩ => ?_)
  cases c with
  | true => exact ⟨H1, I1, q1⟩
  | false => exact hb wh pins s1 σ H1 Q I1 q1
theorem pt_not (ha : PT X a tA) : PT X (.UnaryOp .Not a pos) (tNot tA) := by
  intro pins s σ H Q I h
  exact isTrue_not (ha pins s σ H (fun c H1 => Q (!c) H1) I h)
/-- .. as values (bools) -/
def tAndV (ta tb : TE) : TE := fun σ H Q => ta σ H fun x H1 => ∃ c, x = .bl c ∧ if c = true then tb σ H1 Q else Q (.bl false) H1
def tOrV (ta tb : TE) : TE := fun σ H Q => ta σ H fun x H1 => ∃ c, x = .bl c ∧ if c = true then Q (.bl true) H1 else tb σ H1 Q
def tNotV (ta : TE) : TE := fun σ H Q => ta σ H fun x H1 => ∃ c, x = .bl c ∧ Q (.bl (!c)) H1
theorem pe_one {op} {t : TE} (h : PE X a t) : PE X (.BoolOp op [a] pos) t := fun pins s σ H Q I hw => BoolOp_one (h pins s σ H Q I hw)
theorem pe_and (ha : PE X a ta) (hb : PE X (.BoolOp .And (b :: rest) pos) tb) : PE X (.BoolOp .And (a :: b :: rest) pos) (tAndV ta tb) := by
  intro pins s σ H Q I h
  refine BoolOp_and (thn (ha pins s σ H _ I h) fun v s1 ⟨x, H1, I1, r1, q1⟩ => ?_)
  obtain ⟨c, rfl, q1⟩ := q1
  cases r1
  refine wpAny_truthy_bool ?_
  cases c with
  | true => exact hb pins s1 σ H1 Q I1 q1
  | false => exact ⟨.bl false, H1, I1, rfl, q1⟩
theorem pe_or (ha : PE X a ta) (hb : PE X (.BoolOp .Or (b :: rest) pos) tb) : PE X (.BoolOp .Or (a :: b :: rest) pos) (tOrV ta tb) := by
  intro pins s σ H Q I h
  refine BoolOp_or (thn (ha pins s σ H _ I h) fun v s1 ⟨x, H1, I1, r1, q1⟩ => ?_)
  obtain ⟨c, rfl, q1⟩ := q1
  cases r1
  refine wpAny_truthy_bool ?_
  cases c with
  | false => exact hb pins s1 σ H1 Q I1 q1
  | true => exact ⟨.bl true, H1, I1, rfl, q1⟩
theorem pe_not (ha : PE X a ta) : PE X (.UnaryOp .Not a pos) (tNotV ta) := by
  intro pins s σ H Q I h
  refine UnaryOp_ (thn (ha pins s σ H _ I h) fun v s1 ⟨x, H1, I1, r1, q1⟩ => ?_)
  obtain ⟨c, rfl, q1⟩ := q1
  cases r1
  exact not_of (wpAny_truthy_bool ⟨.bl (!c), H1, I1, rfl, q1⟩)
end
end L2

namespace L2
open PySem PySem.Spec PyProof.Rows

/-! ### a list, a tuple that is read: tracked, frozen, or an object of the module -/
def SqL (K : PySem.W.Frag) (H : Hp) (a : Addr) (xs : List V) : Prop :=
  Rd H a (.lst xs) ∨
    ∃ (o : Obj) (its : Array Value) (n : Nat), K.lookup a = some o ∧ o.cls = .type "list" ∧ o.dict = none ∧ o.data = .seq its n ∧ its.size ≤ sizeLine ∧ Vals xs its.toList
def SqT (K : PySem.W.Frag) (H : Hp) (a : Addr) (xs : List V) : Prop :=
  Rd H a (.tup xs) ∨
    ∃ (o : Obj) (its : Array Value) (n : Nat), K.lookup a = some o ∧ o.cls = .type "tuple" ∧ o.data = .seq its n ∧ its.size ≤ sizeLine ∧ Vals xs its.toList
def absV : Value → Option V
  | .none => some .non
  | .bool b => some (.bl b)
  | .int i _ => some (.int i)
  | .str x _ => some (.str x)
  | .bytes b _ => some (.byt b)
  | .float b _ => some (.flt b)
  | .ref a => some (.ref a)
  | .type n => some (.ty n)
  | _ => none
theorem RelV.abs {x : V} {u : Value} (r : RelV x u) : absV u = some x := by
  cases x with
  | non => cases r; rfl
  | bl _ => cases r; rfl
  | int _ => obtain ⟨t, rfl⟩ := r; rfl
  | str _ => obtain ⟨t, rfl⟩ := r; rfl
  | byt _ => obtain ⟨t, rfl⟩ := r; rfl
  | flt _ => obtain ⟨t, rfl⟩ := r; rfl
  | ref _ => cases r; rfl
  | ty _ => cases r; rfl
theorem RelV.inj {x y : V} {u : Value} (r : RelV x u) (q : RelV y u) : x = y := Option.some.inj (r.abs.symm.trans q.abs)
theorem Vals.inj : ∀ {xs ys : List V} {us : List Value}, Vals xs us → Vals ys us → xs = ys
  | _, _, _, .nil, .nil => rfl
  | _, _, _, .cons r t, .cons r' t' => by rw [r.inj r', Vals.inj t t']
section
variable {X : Cx} {pins : List (Addr × Obj)} {σ : St} {H : Hp} {s : Shared} {a : Addr} {xs ys : List V}
theorem SqL.of {K : PySem.W.Frag} (h : H a = some (.lst xs)) : SqL K H a xs := .inl (.inl h)
theorem SqT.of {K : PySem.W.Frag} (h : H a = some (.tup xs)) : SqT K H a xs := .inl (.inl h)
theorem Inv.list (I : Inv X pins σ H s) (h : SqL X.K H a xs) : ∃ its : List Value, Vals xs its ∧ PlainL s.heap a its.toArray ∧ xs.length ≤ sizeLine := by
  rcases h with h | ⟨o, its, n, hk, hc, hd, hs, hz, r⟩
  · obtain ⟨z, its, n, r, e⟩ := h.ok I.hok
    exact ⟨its, r, ⟨_, n, e, rfl, rfl, rfl⟩, z⟩
  · refine ⟨its.toList, r, ⟨o, n, I.kIn a o hk, hc, hd, by simpa using hs⟩, ?_⟩
    have e := r.length
    simp only [Array.length_toList] at e
    omega
theorem Inv.tuple (I : Inv X pins σ H s) (h : SqT X.K H a xs) : ∃ its : List Value, Vals xs its ∧ IsTup s.heap a its.toArray ∧ xs.length ≤ sizeLine := by
  rcases h with h | ⟨o, its, n, hk, hc, hs, hz, r⟩
  · obtain ⟨z, its, r, p⟩ := h.ok I.hok
    exact ⟨its, r, p.tup, z⟩
  · refine ⟨its.toList, r, ⟨o, I.kIn a o hk, hc, n, by simpa using hs⟩, ?_⟩
    have e := r.length
    simp only [Array.length_toList] at e
    omega
theorem Inv.list_inj (I : Inv X pins σ H s) (h : SqL X.K H a xs) (h' : SqL X.K H a ys) : xs = ys := by
  obtain ⟨its, r, ⟨o, n, e, _, _, d⟩, _⟩ := I.list h
  obtain ⟨its', r', ⟨o', n', e', _, _, d'⟩, _⟩ := I.list h'
  rw [e] at e'; cases e'
  rw [d] at d'
  injection d' with d1 _
  have : its = its' := by simpa using congrArg Array.toList d1
  subst this
  exact r.inj r'
theorem Inv.tuple_inj (I : Inv X pins σ H s) (h : SqT X.K H a xs) (h' : SqT X.K H a ys) : xs = ys := by
  obtain ⟨its, r, ⟨o, e, _, n, d⟩, _⟩ := I.tuple h
  obtain ⟨its', r', ⟨o', e', _, n', d'⟩, _⟩ := I.tuple h'
  rw [e] at e'; cases e'
  rw [d] at d'
  injection d' with d1 _
  have : its = its' := by simpa using congrArg Array.toList d1
  subst this
  exact r.inj r'
end

/-! ### another wish about exceptions -/
abbrev Cx.wish (X : Cx) (E : Value → Shared → Prop) : Cx := { X with xe := E }
/-- no exception leaves -/
abbrev Cx.nox (X : Cx) : Cx := X.wish fun _ _ => False
theorem Cx.Ok.wish {X : Cx} (ok : X.Ok) (E : Value → Shared → Prop) : (X.wish E).Ok :=
  ⟨ok.mod, ok.kind, ok.glob, ok.blt, ok.above, ok.inj, ok.has, ok.cab, ok.hd, ok.frames, ok.stk, ok.exf, ok.bs, ok.bsz, ok.noex, ok.exfs, ok.funs, ok.frf⟩
theorem Cx.Ok.unwish {X : Cx} {E : Value → Shared → Prop} (ok : (X.wish E).Ok) : X.Ok :=
  ⟨ok.mod, ok.kind, ok.glob, ok.blt, ok.above, ok.inj, ok.has, ok.cab, ok.hd, ok.frames, ok.stk, ok.exf, ok.bs, ok.bsz, ok.noex, ok.exfs, ok.funs, ok.frf⟩
section
variable {X : Cx} {pins : List (Addr × Obj)} {σ : St} {H : Hp} {s : Shared} {E : Value → Shared → Prop}
theorem Inv.wish (I : Inv X pins σ H s) (E : Value → Shared → Prop) : Inv (X.wish E) pins σ H s := ⟨I.ok.wish E, I.os, I.bare, I.base, I.loc, I.cell, I.free, I.freeC, I.pin, I.hok, I.len⟩
theorem Inv.unwish (I : Inv (X.wish E) pins σ H s) : Inv X pins σ H s := ⟨I.ok.unwish, I.os, I.bare, I.base, I.loc, I.cell, I.free, I.freeC, I.pin, I.hok, I.len⟩
theorem SP.unwish {D : Ends} {f : Flow} {s' : Shared} (h : SP (X.wish E) pins D f s') : SP X pins D f s' := by
  cases f with
  | next => obtain ⟨σ', H', I, q⟩ := h; exact ⟨σ', H', I.unwish, q⟩
  | brk => obtain ⟨σ', H', I, q⟩ := h; exact ⟨σ', H', I.unwish, q⟩
  | cont => obtain ⟨σ', H', I, q⟩ := h; exact ⟨σ', H', I.unwish, q⟩
  | ret u => obtain ⟨v, σ', H', I, r, q⟩ := h; exact ⟨v, σ', H', I.unwish, r, q⟩
theorem PE.nox {e : Expr} {t : TE} (h : PE X.nox e t) : PE X e t := fun pins s σ H Q I hw =>
  wpAny_mono (h pins s σ H Q (I.wish _) hw) (fun _ _ ⟨v, H', I', r, q⟩ => ⟨v, H', I'.unwish, r, q⟩) fun _ _ z => False.elim z
theorem PT.nox {e : Expr} {t : TT} (h : PT X.nox e t) : PT X e t := fun pins s σ H Q I hw =>
  wpAny_mono (h pins s σ H Q (I.wish _) hw) (fun _ _ ⟨H', I', q⟩ => ⟨H', I'.unwish, q⟩) fun _ _ z => False.elim z
theorem PSs.nox {st : List Stmt} {t : TS} (h : PSs X.nox st t) : PSs X st t := fun pins s σ H D I hw =>
  wpAny_mono (h pins s σ H D (I.wish _) hw) (fun _ _ q => q.unwish) fun _ _ z => False.elim z
end

/-! ### blocks and small statements -/
section
variable {X : Cx} {st : Stmt} {rest : List Stmt} {t u : TS} {e : Expr} {te : TE} {pos : Pos}
def tNext : TS := fun D σ H => D.nx σ H
def tSeq (t u : TS) : TS := fun D σ H => t { D with nx := u D } σ H
theorem pss_nil : PSs X [] tNext := fun _ _ σ H _ I h => wpAny_execs_nil ⟨σ, H, I, h⟩
theorem pss_cons (h1 : PS X st t) (h2 : PSs X rest u) : PSs X (st :: rest) (tSeq t u) := by
  intro pins s σ H D I h
  refine wpAny_execs_cons (thn (h1 pins s σ H { D with nx := u D } I h) fun f s1 q => ?_)
  cases f with
  | next =>
    obtain ⟨σ', H', I', q⟩ := q
    exact h2 pins s1 σ' H' D I' q
  | ret v => exact q
  | brk => exact q
  | cont => exact q
theorem pss_one (h1 : PS X st t) : PSs X [st] t := by
  intro pins s σ H D I h
  refine wpAny_execs_cons (thn (h1 pins s σ H D I h) fun f s1 q => ?_)
  cases f with
  | next => exact wpAny_execs_nil q
  | ret v => exact q
  | brk => exact q
  | cont => exact q
/-- in a def's body nothing is shown -/
theorem Inv.quiet {pins : List (Addr × Obj)} {σ : St} {H : Hp} {s : Shared} (I : Inv X pins σ H s) : interactive X.env = false := by simp [interactive, I.ok.kind]
/-- an expression whose value is dropped -/
def tDrop (te : TE) : TS := fun D σ H => te σ H fun _ H1 => D.nx σ H1
theorem ps_expr (he : PE X e te) (hs : swapsWith e none pos.line X.env = pure false := by rfl) : PS X (.Expr e pos) (tDrop te) := by
  intro pins s σ H D I h
  exact wpAny_Expr_any (thn (he pins s σ H _ I h) fun v s1 ⟨x, H1, I1, r1, q1⟩ => ⟨σ, H1, I1, q1⟩) I.quiet hs
def tRet (te : TE) : TS := fun D σ H => te σ H D.rt
theorem ps_ret (he : PE X e te) : PS X (.Return (some e) pos) (tRet te) := by
  intro pins s σ H D I h
  exact wpAny_Return_some (thn (he pins s σ H _ I h) fun v s1 ⟨x, H1, I1, r1, q1⟩ => ⟨x, σ, H1, I1, r1, q1⟩)
def tIfS (c : TT) (t u : TS) : TS := fun D σ H => c σ H fun b H1 => if b = true then t D σ H1 else u D σ H1
theorem ps_if {c : Expr} {a b : List Stmt} {tc : TT} (hc : PT X c tc) (ha : PSs X a t) (hb : PSs X b u) : PS X (.If c a b pos) (tIfS tc t u) := by
  intro pins s σ H D I h
  refine wpAny_If (thn (hc pins s σ H _ I h) fun d s1 ⟨H1, I1, q1⟩ => ?_)
  cases d with
  | true => exact ha pins s1 σ H1 D I1 q1
  | false => exact hb pins s1 σ H1 D I1 q1
end

/-! ### targets -/
abbrev TG := V → St → Hp → (St → Hp → Prop) → Prop
abbrev TGs := List V → St → Hp → (St → Hp → Prop) → Prop
def PG (X : Cx) (target : Expr) (t : TG) : Prop :=
  ∀ (pins : List (Addr × Obj)) (s : Shared) (σ : St) (H : Hp) (v : V) (u : Value) (Q : St → Hp → Prop), Inv X pins σ H s → RelV v u → t v σ H Q →
    wpAny (model X.prog X.w) X.A (assign target X.env u) (fun _ s' => ∃ σ' H', Inv X pins σ' H' s' ∧ Q σ' H') X.xe s
/-- several targets, one after another -/
def PGs (X : Cx) (ts : List Expr) (t : TGs) : Prop :=
  ∀ (pins : List (Addr × Obj)) (s : Shared) (σ : St) (H : Hp) (vs : List V) (us : List Value) (Q : St → Hp → Prop), Inv X pins σ H s → Vals vs us → t vs σ H Q →
    wpAny (model X.prog X.w) X.A (assignInOrder ((assignEach ts X.env).map (·.2)) us) (fun _ s' => ∃ σ' H', Inv X pins σ' H' s' ∧ Q σ' H') X.xe s
/-- o[i] = v, by values -/
abbrev TSet := V → V → V → Hp → (Hp → Prop) → Prop
def PSet (X : Cx) (t : TSet) : Prop :=
  ∀ (pins : List (Addr × Obj)) (s : Shared) (σ : St) (H : Hp) (o i v : V) (ov iv u : Value) (Q : Hp → Prop), Inv X pins σ H s → RelV o ov → RelV i iv → RelV v u → t o i v H Q →
    wpAny (model X.prog X.w) X.A (setItem ov iv u) (fun _ s' => ∃ H', Inv X pins σ H' s' ∧ Q H') X.xe s
section
variable {X : Cx} {pos : Pos}
def gName (i : Nat) : TG := fun v σ H Q => Q (σ.set i (some v)) H
theorem pg_name {i : Nat} {x : Str} (hN : X.N.Nodup) (hi : X.N[i]? = some x) (hx : Loc X.env.scope x) (hf : X.fn x = true ∨ X.env.scope.names.lookup x = some .local := by first | exact .inl rfl | exact .inr rfl | assumption) : PG X (.Name x pos) (gName i) := by
  intro pins s σ H v u Q I r h
  exact wpAny_assign_Name (store_ok I hN hi hx r (fun s' I' => ⟨_, H, I', h⟩) hf)
/-- o[i] = .. -/
def gSub (to ti : TE) (t : TSet) : TG := fun v σ H Q => to σ H fun o H1 => ti σ H1 fun i H2 => t o i v H2 fun H3 => Q σ H3
theorem pg_sub {o i : Expr} {to ti : TE} {t : TSet} (ho : PE X o to) (hi : PE X i ti) (hs : PSet X t)
    (ha : ∀ v, assign (.Subscript o i pos) X.env v = (do
      let ov ← holding [v] (eval o X.env)
      let iv ← holding [v, ov] (eval i X.env)
      standAt pos
      holding [v, ov, iv] (setItem ov iv v)
      release [v, ov, iv] []) := by intro _; rfl) : PG X (.Subscript o i pos) (gSub to ti t) := by
  intro pins s σ H v u Q I r h
  rw [ha]
  refine wpAny_bind (wpAny_holding (thn (ho pins s σ H _ I h) fun ov s1 ⟨x, H1, I1, r1, q1⟩ => ?_))
  refine wpAny_bind (wpAny_holding (thn (hi pins s1 σ H1 _ I1 q1) fun iv s2 ⟨y, H2, I2, r2, q2⟩ => ?_))
  refine wpAny_bind (wpAny_standAt (wpAny_bind (wpAny_holding (thn (hs pins s2 σ H2 x y v ov iv u _ I2 r1 r2 r q2) fun _ s3 ⟨H3, I3, q3⟩ => ?_))))
  exact wpAny_release ⟨σ, H3, I3, q3⟩
/-- target = value -/
def tAsg (te : TE) (g : TG) : TS := fun D σ H => te σ H fun x H1 => g x σ H1 D.nx
theorem ps_asg {tg e : Expr} {te : TE} {g : TG} (he : PE X e te) (hg : PG X tg g) (hs : swapsWithSole [tg] e pos.line X.env = pure false := by rfl) (hw : swappedStores [tg] e X.env = pure none := by rfl)
    (h1 : (assignEach [tg] X.env).map (·.2) = [assign tg X.env] := by rfl) : PS X (.Assign [tg] e pos) (tAsg te g) := by
  intro pins s σ H D I h
  refine wpAny_Assign_stores (thn (he pins s σ H _ I h) fun v s1 ⟨x, H1, I1, r1, q1⟩ => ?_) hs hw
  rw [h1]
  exact thn (hg pins s1 σ H1 x v _ I1 r1 q1) fun _ s2 q => q
/-- name = value -/
theorem ps_set {i : Nat} {x : Str} {e : Expr} {te : TE} {pos' : Pos} (hN : X.N.Nodup) (hi : X.N[i]? = some x) (hx : Loc X.env.scope x) (he : PE X e te) (hs : swapsWith e (some (.Name x pos')) pos.line X.env = pure false := by rfl) (hf : X.fn x = true ∨ X.env.scope.names.lookup x = some .local := by first | exact .inl rfl | exact .inr rfl | assumption) :
    PS X (.Assign [.Name x pos'] e pos) (tAsg te (gName i)) := by
  intro pins s σ H D I h
  refine wpAny_Assign_Name (thn (he pins s σ H _ I h) fun v s1 ⟨y, H1, I1, r1, q1⟩ => ?_) hs
  exact store_ok I1 hN hi hx r1 (fun s2 I2 => ⟨_, H1, I2, q1⟩) hf
end

/-! ### while -/
section
variable {X : Cx} {pos : Pos}
end

/-! ### what a loop or a comprehension walks -/
/-- at turn i: it yields x (the heap may grow), or it stops -/
structure It where
  go : Nat → Hp → Prop
  yld : Nat → Hp → V → Hp → Prop
  stop : Nat → Hp → Prop
/-- the iterator's own objects may turn: they are not the frame's, not pinned, younger than the entry (or a comprehension's own) -/
def FpOk (X : Cx) (pins : List (Addr × Obj)) (H : Hp) (b : Addr) : Prop :=
  H b = none ∧ b ≠ X.env.locals ∧ b ∉ X.fs ∧ (b ∈ X.ex ∨ X.s₀.heap.objs.size ≤ b) ∧ (∀ x c, X.env.cells.lookup x = some c → c ≠ b) ∧ ∀ p ∈ X.pn ++ pins, p.1 ≠ b
theorem Inv.fpOk {X : Cx} {pins : List (Addr × Obj)} {σ : St} {H H' : Hp} {s : Shared} {b : Addr} (I : Inv X pins σ H s) (hb : s.heap.objs.size ≤ b) (hn : H' b = none) : FpOk X pins H' b := by
  refine ⟨hn, Nat.ne_of_gt (Nat.lt_of_lt_of_le I.lt hb), I.nofs hb, .inr (Nat.le_trans I.sz hb), fun x c e z => ?_, fun p hp z => ?_⟩
  · obtain ⟨v, q⟩ := I.cell x c e
    exact absurd (Nat.lt_of_lt_of_le q.lt (by rw [z]; exact hb)) (Nat.lt_irrefl _)
  · exact absurd (Nat.lt_of_lt_of_le (Heap.lt_size (I.pin p hp).1) (by rw [z]; exact hb)) (Nat.lt_irrefl _)
structure Turn (P : Program) (w : World) (K : PySem.W.Frag) (tg : Expr) (J : It) (fp : List Addr) (it : Addr) (tn : Nat → Heap → Prop) : Prop where
  mem : it ∈ fp
  obj : ∀ i h, tn i h → ∀ b ∈ fp, ∃ o, h.get? b = some o ∧ ∀ v, o.data ≠ .cell v
  keep : ∀ i h h', tn i h → (∀ b ∈ fp, ∀ o, h.get? b = some o → h'.get? b = some o) → tn i h'
  item : ∀ (X : Cx), X.prog = P → X.w = w → X.K = K → X.calm = true → ∀ (i : Nat) (pins : List (Addr × Obj)) (s : Shared) (σ : St) (H : Hp) (E : Value → Shared → Prop), Inv X pins σ H s → (∀ b ∈ fp, FpOk X pins H b) → tn i s.heap → J.go i H →
    wpAny (model P w) X.A (pyNext (.ref it)) (fun r s1 => ∃ u, r = some u ∧
      wpAny (model P w) X.A (letOwnedTupleGo tg (.ref it) u) (fun _ s2 => ∃ x H', Inv X pins σ H' s2 ∧ RelV x u ∧ J.yld i H x H' ∧ tn (i + 1) s2.heap ∧ ∀ b ∈ fp, H' b = none) E s1) E s
  done : ∀ (X : Cx), X.prog = P → X.w = w → X.K = K → X.calm = true → ∀ (i : Nat) (pins : List (Addr × Obj)) (s : Shared) (σ : St) (H : Hp) (E : Value → Shared → Prop), Inv X pins σ H s → (∀ b ∈ fp, FpOk X pins H b) → tn i s.heap → J.stop i H →
    wpAny (model P w) X.A (pyNext (.ref it)) (fun r s1 => r = none ∧ Inv X pins σ H s1) E s
  self : ∀ (A : Around) (i : Nat) (s : Shared) (Q : Value → Shared → Prop) (E : Value → Shared → Prop), tn i s.heap → Q (.ref it) s → wpAny (model P w) A (pyIter (.ref it)) Q E s
abbrev TI := St → Hp → (It → Hp → Prop) → Prop
/-- an iterator has come -/
def PIE (X : Cx) (pins : List (Addr × Obj)) (σ : St) (tg : Expr) (R : It → Hp → Prop) (itv : Value) (s2 : Shared) : Prop :=
  ∃ (it : Addr) (fp : List Addr) (tn : Nat → Heap → Prop) (J : It) (H' : Hp), itv = .ref it ∧ Inv X pins σ H' s2 ∧ Turn X.prog X.w X.K tg J fp it tn ∧ tn 0 s2.heap ∧ (∀ b ∈ fp, FpOk X pins H' b) ∧ R J H'
def PI (X : Cx) (tg iter : Expr) (wi : TI) : Prop :=
  ∀ (pins : List (Addr × Obj)) (s : Shared) (σ : St) (H : Hp) (R : It → Hp → Prop), Inv X pins σ H s → wi σ H R →
    wpAny (model X.prog X.w) X.A (eval iter X.env) (fun v s1 => wpAny (model X.prog X.w) X.A (pyIter v) (PIE X pins σ tg R) X.xe s1) X.xe s

/-- the step ahead of the store is nothing for an iterator that keeps no tuple -/
theorem go_of {M : Model} {A : Around} {E : Value → Shared → Prop} {s : Shared} {tg : Expr} {it : Addr} {u : Value} {o : Obj} {n : String} {vs : Array Value} {Q : Unit → Shared → Prop} (ho : s.heap.get? it = some o) (hc : o.cls = .type n) (hd : o.data = .fields vs)
    (hn : ["enumerate", "zip", "dict_itemiterator", "dict_reverseitemiterator", "odict_iterator", "itertools.zip_longest", "itertools.pairwise"].contains n = false) (hQ : Q () s) : wpAny M A (letOwnedTupleGo tg (.ref it) u) Q E s := by
  unfold letOwnedTupleGo
  cases tg <;> first
    | exact wpAny_pure hQ
    | (cases u <;> first
        | exact wpAny_pure hQ
        | (refine wpAny_bind (wpAny_load ho ?_)
           rw [hc, hd]
           show wpAny M A (if (["enumerate", "zip", "dict_itemiterator", "dict_reverseitemiterator", "odict_iterator", "itertools.zip_longest", "itertools.pairwise"].contains n && vs[0]? == some (rawInt _)) = true then _ else _) Q E s
           rw [if_neg (by intro h; rw [hn, Bool.false_and] at h; cases h)]
           exact wpAny_pure hQ))

/-- the list at a, as it stands at each turn (a loop may append to it) -/
def Itl (K : PySem.W.Frag) (a : Addr) : It :=
  ⟨fun i H => ∃ xs x, SqL K H a xs ∧ xs[i]? = some x, fun i H x H' => H' = H ∧ ∀ xs, SqL K H a xs → xs[i]? = some x, fun i H => ∃ xs, SqL K H a xs ∧ xs.length ≤ i⟩
/-- lo, lo + 1, .. (n of them) -/
def Itr (lo : Int) (n : Nat) : It := ⟨fun i _ => i < n, fun i H x H' => H' = H ∧ x = .int (lo + i), fun i _ => n ≤ i⟩
theorem turn_list {P : Program} {w : World} {K : PySem.W.Frag} {tg : Expr} (a it : Addr) : Turn P w K tg (Itl K a) [it] it (fun i h => h.IsListIter it a i) where
  mem := by simp
  obj := fun i h st b hb => by
    have e : b = it := by simpa using hb
    subst e
    obtain ⟨o, e, c, d⟩ := st
    exact ⟨o, e, fun v z => by rw [d] at z; cases z⟩
  keep := fun i h h' st k => st.at fun o e => k it (by simp) o e
  item := by
    intro X hP hw hK hc i pins s σ H E I hf st hg
    subst hP hw hK
    obtain ⟨xs, x, hq, hx⟩ := hg
    obtain ⟨its, rv, p, hz⟩ := I.list hq
    obtain ⟨u, hu, ru⟩ := rv.get hx
    obtain ⟨f0, f1, f2, f3, f4, f5⟩ := hf it (by simp)
    refine wpAny_pyNext_list_item st p.isList (x := u) (by simpa using hu) fun h' st' sb => ?_
    have I1 : Inv X pins σ H { s with heap := h' } := I.turned (t' := s.toks) (fun b o hb e => (sb.2 b hb).trans e) f0 f1 f3 f4 f5
    obtain ⟨o, e, c, d⟩ := id st'
    exact ⟨u, rfl, go_of (s := { s with heap := h' }) e c d (by decide) ⟨x, H, I1, ru, ⟨rfl, fun ys hy => by rw [I.list_inj hy hq]; exact hx⟩, st', fun b hb => (hf b hb).1⟩⟩
  done := by
    intro X hP hw hK hc i pins s σ H E I hf st hg
    subst hP hw hK
    obtain ⟨xs, hq, hx⟩ := hg
    obtain ⟨its, rv, p, hz⟩ := I.list hq
    obtain ⟨f0, f1, f2, f3, f4, f5⟩ := hf it (by simp)
    have hl := rv.length
    exact wpAny_pyNext_list_end (I.ok.hd hc) st p.isList (by simp; omega) fun h' eb => ⟨rfl, I.turned (t' := s.toks) (fun b o hb e => eb b o hb e) f0 f1 f3 f4 f5⟩
  self := fun _ _ _ _ _ st h => wpAny_pyIter_listiter st h
theorem turn_range {P : Program} {w : World} {K : PySem.W.Frag} {tg : Expr} (it : Addr) (lo : Int) (n : Nat) : Turn P w K tg (Itr lo n) [it] it (fun i h => IsRangeIter h it (lo + (i : Nat) * 1) ((n : Int) - (i : Nat)) 1) where
  mem := by simp
  obj := fun i h st b hb => by
    have e : b = it := by simpa using hb
    subst e
    exact ⟨_, st, fun v z => by
      have z' : Data.fields _ = Data.cell v := z
      cases z'⟩
  keep := fun i h h' st k => k it (by simp) _ st
  item := by
    intro X hP hw hK hc i pins s σ H E I hf st hg
    subst hP hw hK
    obtain ⟨f0, f1, f2, f3, f4, f5⟩ := hf it (by simp)
    have W := Walks.range (prog := X.prog) (w := X.w) (I.ok.hd hc) it lo 1 n
    refine W.item i s _ _ hg st fun v h' tk hv st' kk => ?_
    obtain ⟨t, rfl⟩ := hv
    have I1 : Inv X pins σ H { s with heap := h', toks := tk } := I.turned (fun b o hb e => kk b o (by simpa using hb) e) f0 f1 f3 f4 f5
    refine ⟨_, rfl, go_of (s := { s with heap := h', toks := tk }) (n := "range_iterator") st' rfl rfl (by decide) ⟨.int (lo + i), H, I1, ⟨t, ?_⟩, ⟨rfl, rfl⟩, st', fun b hb => (hf b hb).1⟩⟩
    rw [Int.mul_one]
  done := by
    intro X hP hw hK hc i pins s σ H E I hf st hg
    subst hP hw hK
    obtain ⟨f0, f1, f2, f3, f4, f5⟩ := hf it (by simp)
    exact wpAny_pyNext_range_end (I.ok.hd hc) st (by have : n ≤ i := hg; omega) fun h' eb => ⟨rfl, I.turned (t' := s.toks) (fun b o hb e => eb b o hb e) f0 f1 f3 f4 f5⟩
  self := fun _ _ _ _ _ st h => wpAny_pyIter_rangeiter st h
end L2

namespace L2
open PySem PySem.Spec PyProof.Rows
section
variable {X : Cx} {tg : Expr}
def iList (K : PySem.W.Frag) (tl : TE) : TI := fun σ H R => tl σ H fun x H1 => ∃ a, x = .ref a ∧ (∃ xs, SqL K H1 a xs) ∧ R (Itl K a) H1
theorem pi_list {l : Expr} {tl : TE} (hl : PE X l tl) : PI X tg l (iList X.K tl) := by
  intro pins s σ H R I h
  refine thn (hl pins s σ H _ I h) fun v s1 ⟨x, H1, I1, r1, q1⟩ => ?_
  obtain ⟨a, e, ⟨xs, hq⟩, q⟩ := q1
  subst e
  cases r1
  obtain ⟨its, rv, p, hz⟩ := I1.list hq
  refine wpAny_pyIter_list p.isList ?_
  refine ⟨s1.heap.objs.size, [s1.heap.objs.size], _, _, H1, rfl, I1.kept (t' := s1.toks) fun b o e => Heap.get?_push_of_some _ e, turn_list a _, ⟨_, Heap.get?_push_size _ rfl, rfl, rfl⟩, fun b hb => ?_, q⟩
  have e : b = s1.heap.objs.size := by simpa using hb
  subst e
  exact I1.fpOk (Nat.le_refl _) (I1.hok.fresh (Nat.le_refl _))
/-- a range object just made, walked -/
theorem range_it {pins : List (Addr × Obj)} {σ : St} {H : Hp} {s : Shared} {R : It → Hp → Prop} {E : Value → Shared → Prop} {lo hi : Int} {t u v : Tok} {tk : Nat} (I : Inv X pins σ H s) (h1 : -(2 ^ 62) ≤ lo) (h2 : lo < 2 ^ 62) (h3 : -(2 ^ 62) ≤ hi) (h4 : hi < 2 ^ 62)
    (q : R (Itr lo (hi - lo).toNat) H) : wpAny (model X.prog X.w) X.A (pyIter (.ref s.heap.objs.size)) (PIE X pins σ tg R) E { s with heap := s.heap.push { cls := .type "range", data := .fields #[.int lo t, .int hi u, .int 1 v] }, toks := tk } := by
  refine wpAny_pyIter_range (IsRange.new ..) (small_one h1 h2 h3 h4) ?_
  have I1 : Inv X pins σ H { s with heap := s.heap.push { cls := .type "range", data := .fields #[.int lo t, .int hi u, .int 1 v] }, toks := tk } := I.kept fun b o e => Heap.get?_push_of_some _ e
  refine ⟨(s.heap.push { cls := .type "range", data := .fields #[.int lo t, .int hi u, .int 1 v] }).objs.size, [(s.heap.push { cls := .type "range", data := .fields #[.int lo t, .int hi u, .int 1 v] }).objs.size], _, _, H, rfl,
    I1.kept (t' := tk) fun b o e => Heap.get?_push_of_some _ e, turn_range _ lo (hi - lo).toNat, ?_, fun b hb => ?_, q⟩
  · have e1 : lo + ((0 : Nat) : Int) * 1 = lo := by simp
    have e2 : (((hi - lo).toNat : Nat) : Int) - ((0 : Nat) : Int) = Builtin.Range.rangeSize lo hi 1 := by rw [rangeSize_one]; split <;> omega
    show IsRangeIter _ _ (lo + ((0 : Nat) : Int) * 1) ((((hi - lo).toNat : Nat) : Int) - ((0 : Nat) : Int)) 1
    rw [e1, e2]
    exact Heap.get?_push_size _ rfl
  · have e : b = (s.heap.push { cls := .type "range", data := .fields #[.int lo t, .int hi u, .int 1 v] }).objs.size := by simpa using hb
    subst e
    exact I1.fpOk (Nat.le_refl _) (I1.hok.fresh (Nat.le_refl _))
def iRng1 (ta : TA) : TI := fun σ H R => ta σ H fun vs H1 => ∃ j : Int, vs = [.int j] ∧ -(2 ^ 62) ≤ j ∧ j < 2 ^ 62 ∧ R (Itr 0 j.toNat) H1
def iRng2 (ta : TA) : TI := fun σ H R => ta σ H fun vs H1 => ∃ i j : Int, vs = [.int i, .int j] ∧ (-(2 ^ 62) ≤ i ∧ i < 2 ^ 62 ∧ -(2 ^ 62) ≤ j ∧ j < 2 ^ 62) ∧ R (Itr i (j - i).toNat) H1
theorem pi_range1 {a : Expr} {ta : TA} {p pos : Pos} (hg : Gl X "range") (hm : X.mg "range" = none) (ha : PA X [a] ta) (hs : starEach [a] X.env = [(false, eval a X.env)] := by rfl) : PI X tg (.Call (.Name "range" p) [a] [] pos) (iRng1 ta) := by
  intro pins s σ H R I h
  refine Call_ (ld_blt I hg hm boot_range (PyProof.Rows.callWith_type1 (thn (ha pos pins s σ H _ I h) fun us s1 ⟨vs, H1, I1, r1, q1⟩ => ?_) hs rfl))
  obtain ⟨j, e, q1, q2, q⟩ := q1
  subst e
  cases r1 with
  | cons r rr =>
    cases rr
    obtain ⟨t, rfl⟩ := r
    exact call_range_1 (range_it I1 (by omega) (by omega) q1 q2 (by simpa using q))
theorem pi_range2 {a b : Expr} {ta : TA} {p pos : Pos} (hg : Gl X "range") (hm : X.mg "range" = none) (ha : PA X [a, b] ta) (hs : starEach [a, b] X.env = [(false, eval a X.env), (false, eval b X.env)] := by rfl) (hs2 : starEach [b] X.env = [(false, eval b X.env)] := by rfl) :
    PI X tg (.Call (.Name "range" p) [a, b] [] pos) (iRng2 ta) := by
  intro pins s σ H R I h
  refine Call_ (ld_blt I hg hm boot_range (PyProof.Rows.callWith_type1 (thn (ha pos pins s σ H _ I h) fun us s1 ⟨vs, H1, I1, r1, q1⟩ => ?_) (by rw [hs, hs2]) (by rw [hs2]; rfl)))
  obtain ⟨i, j, e, ⟨q1, q2, q3, q4⟩, q⟩ := q1
  subst e
  cases r1 with
  | cons r rr =>
    cases rr with
    | cons r' rr =>
      cases rr
      obtain ⟨t, rfl⟩ := r
      obtain ⟨t', rfl⟩ := r'
      exact call_range_2 (range_it I1 q1 q2 q3 q4 q)

/-! ### for -/
/-- W: the invariant by the turn and a measure; N: what the body is to reach -/
def tFor (wi : TI) (g : TG) (tb : TS) : TS := fun D σ H => wi σ H fun J H1 => ∃ W : Nat → Nat → St → Hp → Prop, (∃ m, W 0 m σ H1) ∧ ∀ i m σ H, W i m σ H →
  (J.stop i H ∧ D.nx σ H) ∨ (J.go i H ∧ ∃ N : St → Hp → Prop, (∀ σ' H', N σ' H' → ∃ m', m' < m ∧ W (i + 1) m' σ' H') ∧ ∀ x H', J.yld i H x H' → g x σ H' fun σ2 H2 => tb { D with nx := N, ct := N, bk := D.nx } σ2 H2)
/-- the records at fp as they stand -/
def pinsAt (fp : List Addr) (h : Heap) : List (Addr × Obj) := fp.filterMap fun b => (h.get? b).map fun o => (b, o)
theorem mem_pinsAt {fp : List Addr} {h : Heap} {b : Addr} {o : Obj} (hb : b ∈ fp) (e : h.get? b = some o) : (b, o) ∈ pinsAt fp h := List.mem_filterMap.mpr ⟨b, hb, by rw [e]; rfl⟩
theorem of_pinsAt {fp : List Addr} {h : Heap} {p : Addr × Obj} (hp : p ∈ pinsAt fp h) : p.1 ∈ fp ∧ h.get? p.1 = some p.2 := by
  obtain ⟨b, hb, e⟩ := List.mem_filterMap.mp hp
  cases q : h.get? b with
  | none => rw [q] at e; cases e
  | some o =>
    rw [q] at e
    have e' : (b, o) = p := Option.some.inj e
    subst e'
    exact ⟨hb, q⟩
theorem Inv.pinned {pins : List (Addr × Obj)} {σ : St} {H : Hp} {s : Shared} {fp : List Addr} (I : Inv X pins σ H s) (hf : ∀ b ∈ fp, FpOk X pins H b) (ho : ∀ b ∈ fp, ∃ o, s.heap.get? b = some o ∧ ∀ v, o.data ≠ .cell v) : Inv X (pins ++ pinsAt fp s.heap) σ H s :=
  I.pins_of fun p hp => (List.mem_append.mp hp).elim (fun z => I.pin p (List.mem_append_right _ z)) fun z => by
    obtain ⟨hb, e⟩ := of_pinsAt z
    obtain ⟨f0, f1, f2, _⟩ := hf p.1 hb
    obtain ⟨o, e', d⟩ := ho p.1 hb
    rw [e] at e'; cases e'
    exact ⟨e, f0, f1, f2, d⟩
theorem Inv.unpinned {pins pl : List (Addr × Obj)} {σ : St} {H : Hp} {s : Shared} (I : Inv X (pins ++ pl) σ H s) : Inv X pins σ H s := I.pins_of fun p hp => I.pin p (List.mem_append_right _ (List.mem_append_left _ hp))
theorem ps_for {iter : Expr} {body : List Stmt} {wi : TI} {g : TG} {tb : TS} {pos : Pos} (hp : PassesOwn (model X.prog X.w) X.A X.env X.xe) (hc : X.calm = true) (hi : PI X tg iter wi) (hg : PG X tg g) (hb : PSs X body tb)
    (hs : ∀ x, foldedSetIterable iter X.env x = pure x := by intro _; rfl) : PS X (.For tg iter body [] pos) (tFor wi g tb) := by
  intro pins s σ H D I h
  refine wpAny_For (thn (hi pins s σ H _ I h) fun v s1 h1 => thn h1 fun itv s2 h2 => ?_) hs
  obtain ⟨it, fp, tn, J, H2, e, I2, T, st2, f2, W, ⟨m0, w0⟩, turn⟩ := h2
  subst e
  -- what stays true of the iterator's objects through the loop
  have stat : ∀ {H' : Hp}, (∀ b ∈ fp, H' b = none) → ∀ b ∈ fp, FpOk X pins H' b := fun hn b hb => ⟨hn b hb, (f2 b hb).2⟩
  refine codeAny_forLoop_any (fun n s' => ∃ i σ' H', Inv X pins σ' H' s' ∧ tn i s'.heap ∧ (∀ b ∈ fp, H' b = none) ∧ W i n σ' H') ?_ m0 ⟨0, σ, H2, I2, st2, fun b hb => (f2 b hb).1, w0⟩
  rintro n s3 ⟨i, σ3, H3, I3, st3, fr3, w3⟩
  rcases turn i n σ3 H3 w3 with ⟨stop, qn⟩ | ⟨go, N, hN, step⟩
  · refine wpAny_passesOwn hp (thn (T.done X rfl rfl rfl hc i pins s3 σ3 H3 X.xe I3 (stat fr3) st3 stop) fun r s4 ⟨hr, I4⟩ => ?_)
    subst hr
    exact wpAny_execs_nil ⟨σ3, H3, I4, qn⟩
  · refine wpAny_passesOwn hp (thn (T.item X rfl rfl rfl hc i pins s3 σ3 H3 X.xe I3 (stat fr3) st3 go) fun r s4 ⟨u, hr, h4⟩ => ?_)
    subst hr
    refine wpAny_passesOwn hp (thn h4 fun _ s5 ⟨x, H5, I5, r5, y5, st5, fr5⟩ => ?_)
    have I5' := I5.pinned (stat fr5) (T.obj _ _ st5)
    refine wpAny_passesOwn hp (thn (hg _ s5 σ3 H5 x u _ I5' r5 (step x H5 y5)) fun _ s6 ⟨σ6, H6, I6, q6⟩ => ?_)
    refine wpAny_passesOwn hp (thn (hb _ s6 σ6 H6 _ I6 q6) fun f s7 q7 => ?_)
    have again : ∀ {σ7 : St} {H7 : Hp}, Inv X (pins ++ pinsAt fp s5.heap) σ7 H7 s7 → N σ7 H7 → ∃ m, m < n ∧ ∃ i σ' H', Inv X pins σ' H' s7 ∧ tn i s7.heap ∧ (∀ b ∈ fp, H' b = none) ∧ W i m σ' H' := fun {σ7 H7} I7 n7 => by
      obtain ⟨m', hm, w7⟩ := hN σ7 H7 n7
      refine ⟨m', hm, i + 1, σ7, H7, I7.unpinned, T.keep _ _ _ st5 fun b hb o e => (I7.pin (b, o) (List.mem_append_right _ (List.mem_append_right _ (mem_pinsAt hb e)))).1, fun b hb => ?_, w7⟩
      obtain ⟨o, e, d⟩ := T.obj _ _ st5 b hb
      exact (I7.pin (b, o) (List.mem_append_right _ (List.mem_append_right _ (mem_pinsAt hb e)))).2.1
    cases f with
    | next => obtain ⟨σ7, H7, I7, n7⟩ := q7; exact again I7 n7
    | cont => obtain ⟨σ7, H7, I7, n7⟩ := q7; exact again I7 n7
    | brk => obtain ⟨σ7, H7, I7, q7⟩ := q7; exact ⟨σ7, H7, I7.unpinned, q7⟩
    | ret v => obtain ⟨x7, σ7, H7, I7, r7, q7⟩ := q7; exact ⟨x7, σ7, H7, I7.unpinned, r7, q7⟩
end

/-! ### the forms one uses -/
/-- over a list that the body leaves as it is -/
theorem for_list {K : PySem.W.Frag} {a : Addr} {xs : List V} {g : TG} {tb : TS} {D : Ends} {σ : St} {H : Hp} (Pv : Nat → St → Hp → Prop) (h0 : Pv 0 σ H) (hl : ∀ i σ H, i ≤ xs.length → Pv i σ H → SqL K H a xs)
    (hs : ∀ i x σ H, xs[i]? = some x → Pv i σ H → g x σ H fun σ2 H2 => tb { D with nx := Pv (i + 1), ct := Pv (i + 1), bk := D.nx } σ2 H2) (hd : ∀ σ H, Pv xs.length σ H → D.nx σ H) :
    ∃ W : Nat → Nat → St → Hp → Prop, (∃ m, W 0 m σ H) ∧ ∀ i m σ H, W i m σ H →
      ((Itl K a).stop i H ∧ D.nx σ H) ∨ ((Itl K a).go i H ∧ ∃ N : St → Hp → Prop, (∀ σ' H', N σ' H' → ∃ m', m' < m ∧ W (i + 1) m' σ' H') ∧ ∀ x H', (Itl K a).yld i H x H' → g x σ H' fun σ2 H2 => tb { D with nx := N, ct := N, bk := D.nx } σ2 H2) := by
  refine ⟨fun i m σ H => m = xs.length - i ∧ i ≤ xs.length ∧ Pv i σ H, ⟨xs.length, by simp, Nat.zero_le _, h0⟩, ?_⟩
  rintro i m σ H ⟨rfl, hi, p⟩
  have q := hl i σ H hi p
  by_cases hlt : i < xs.length
  · refine .inr ⟨⟨xs, xs[i], q, by simp [hlt]⟩, Pv (i + 1), fun σ' H' p' => ⟨xs.length - (i + 1), by omega, rfl, hlt, p'⟩, fun x H' y => ?_⟩
    obtain ⟨e, y⟩ := y
    subst e
    exact hs i x σ _ (y xs q) p
  · have e : i = xs.length := by omega
    subst e
    exact .inl ⟨⟨xs, q, Nat.le_refl _⟩, hd σ H p⟩
theorem for_range {lo : Int} {n : Nat} {g : TG} {tb : TS} {D : Ends} {σ : St} {H : Hp} (Pv : Nat → St → Hp → Prop) (h0 : Pv 0 σ H)
    (hs : ∀ i σ H, i < n → Pv i σ H → g (.int (lo + i)) σ H fun σ2 H2 => tb { D with nx := Pv (i + 1), ct := Pv (i + 1), bk := D.nx } σ2 H2) (hd : ∀ σ H, Pv n σ H → D.nx σ H) :
    ∃ W : Nat → Nat → St → Hp → Prop, (∃ m, W 0 m σ H) ∧ ∀ i m σ H, W i m σ H →
      ((Itr lo n).stop i H ∧ D.nx σ H) ∨ ((Itr lo n).go i H ∧ ∃ N : St → Hp → Prop, (∀ σ' H', N σ' H' → ∃ m', m' < m ∧ W (i + 1) m' σ' H') ∧ ∀ x H', (Itr lo n).yld i H x H' → g x σ H' fun σ2 H2 => tb { D with nx := N, ct := N, bk := D.nx } σ2 H2) := by
  refine ⟨fun i m σ H => m = n - i ∧ i ≤ n ∧ Pv i σ H, ⟨n, by simp, Nat.zero_le _, h0⟩, ?_⟩
  rintro i m σ H ⟨rfl, hi, p⟩
  by_cases hlt : i < n
  · refine .inr ⟨hlt, Pv (i + 1), fun σ' H' p' => ⟨n - (i + 1), by omega, rfl, hlt, p'⟩, fun x H' y => ?_⟩
    obtain ⟨e, y⟩ := y
    subst e y
    exact hs i σ _ hlt p
  · have e : i = n := by omega
    subst e
    exact .inl ⟨Nat.le_refl _, hd σ H p⟩
end L2

namespace L2
open PySem PySem.Spec PyProof.Rows

abbrev R2 := V → V → Hp → VK → Prop
/-- a two-place operation on values: f is binaryOp op, inplaceOp op or compareOp op -/
def OpR (X : Cx) (f : Value → Value → Sem Value) (r : R2) : Prop :=
  ∀ (pins : List (Addr × Obj)) (s : Shared) (σ : St) (H : Hp) (x y : V) (v u : Value) (Q : VK), Inv X pins σ H s → RelV x v → RelV y u → r x y H Q →
    wpAny (model X.prog X.w) X.A (f v u) (EP X pins σ Q) X.xe s
/-- a one-place operation -/
def UnR (X : Cx) (f : Value → Sem Value) (r : V → Hp → VK → Prop) : Prop :=
  ∀ (pins : List (Addr × Obj)) (s : Shared) (σ : St) (H : Hp) (x : V) (v : Value) (Q : VK), Inv X pins σ H s → RelV x v → r x H Q →
    wpAny (model X.prog X.w) X.A (f v) (EP X pins σ Q) X.xe s
/-- a call of a value that is known (a builtin, a type) with values -/
def CallR (X : Cx) (f : Value) (r : List V → Hp → VK → Prop) : Prop :=
  ∀ (pins : List (Addr × Obj)) (s : Shared) (σ : St) (H : Hp) (xs : List V) (us : List Value) (Q : VK), Inv X pins σ H s → Vals xs us → r xs H Q →
    wpAny (model X.prog X.w) X.A (call f us) (EP X pins σ Q) X.xe s
def tOp (r : R2) (ta tb : TE) : TE := fun σ H Q => ta σ H fun x H1 => tb σ H1 fun y H2 => r x y H2 Q
def tUn (r : V → Hp → VK → Prop) (ta : TE) : TE := fun σ H Q => ta σ H fun x H1 => r x H1 Q
/-- ints in, under C, and a value out -/
def rI (C : Int → Int → Prop) (g : Int → Int → V) : R2 := fun x y H Q => ∃ i j, x = .int i ∧ y = .int j ∧ C i j ∧ Q (g i j) H
def rI0 (g : Int → Int → V) : R2 := fun x y H Q => ∃ i j, x = .int i ∧ y = .int j ∧ Q (g i j) H
def rU (g : Int → V) : V → Hp → VK → Prop := fun x H Q => ∃ i, x = .int i ∧ Q (g i) H

section
variable {X : Cx} {a b c : Expr} {ta tb tc : TE} {pos : Pos}

theorem binT (ha : PE X a ta) (hb : PE X b tb) {pins : List (Addr × Obj)} {s : Shared} {σ : St} {H : Hp} {R : V → V → Hp → Prop} (I : Inv X pins σ H s)
    (h : ta σ H fun x H1 => tb σ H1 fun y H2 => R x y H2) {Q : Value → Shared → Prop} {f : Value → Value → Sem Value}
    (hf : ∀ v u s2 x y H2, Inv X pins σ H2 s2 → RelV x v → RelV y u → R x y H2 → wpAny (model X.prog X.w) X.A (f v u) Q X.xe s2) :
    wpAny (model X.prog X.w) X.A (eval a X.env) (fun v s₁ => wpAny (model X.prog X.w) X.A (eval b X.env) (fun u s₂ => wpAny (model X.prog X.w) X.A (f v u) Q X.xe s₂) X.xe s₁) X.xe s := by
  refine thn (ha pins s σ H _ I h) fun v s1 ⟨x, H1, I1, r1, q1⟩ => ?_
  refine thn (hb pins s1 σ H1 _ I1 q1) fun u s2 ⟨y, H2, I2, r2, q2⟩ => ?_
  exact hf v u s2 x y H2 I2 r1 r2 q2

theorem pe_op {op : Operator} {r : R2} (ho : OpR X (binaryOp op) r) (ha : PE X a ta) (hb : PE X b tb) : PE X (.BinOp a op b pos) (tOp r ta tb) := by
  intro pins s σ H Q I h
  exact wpAny_BinOp (binT ha hb I h fun v u s2 x y H2 I2 rx ry q => ho pins s2 σ H2 x y v u Q I2 rx ry q)
theorem pe_un {op : UnaryOp} {r : V → Hp → VK → Prop} (ho : UnR X (unaryOp op) r) (ha : PE X a ta) : PE X (.UnaryOp op a pos) (tUn r ta) := by
  intro pins s σ H Q I h
  exact UnaryOp_ (thn (ha pins s σ H _ I h) fun v s1 ⟨x, H1, I1, r1, q1⟩ => ho pins s1 σ H1 x v Q I1 r1 q1)
/-! ### ints -/
theorem opI {f : Value → Value → Sem Value} {C : Int → Int → Prop} {g : Int → Int → Int}
    (rule : ∀ (i j : Int) (t u : Tok) (s : Shared) (Q : Value → Shared → Prop) (E : Value → Shared → Prop), C i j → Q (.int (g i j) s.toks) { s with toks := s.toks + 1 } → wpAny (model X.prog X.w) X.A (f (.int i t) (.int j u)) Q E s) :
    OpR X f (rI C fun i j => .int (g i j)) := by
  intro pins s σ H x y v u Q I rx ry h
  obtain ⟨i, j, rfl, rfl, hc, q⟩ := h
  obtain ⟨t, rfl⟩ := rx
  obtain ⟨t', rfl⟩ := ry
  exact rule i j t t' s _ _ hc ⟨.int (g i j), H, I.tok _, ⟨_, rfl⟩, q⟩
theorem opI0 {f : Value → Value → Sem Value} {g : Int → Int → Int}
    (rule : ∀ (i j : Int) (t u : Tok) (s : Shared) (Q : Value → Shared → Prop) (E : Value → Shared → Prop), Q (.int (g i j) s.toks) { s with toks := s.toks + 1 } → wpAny (model X.prog X.w) X.A (f (.int i t) (.int j u)) Q E s) :
    OpR X f (rI0 fun i j => .int (g i j)) := by
  intro pins s σ H x y v u Q I rx ry h
  obtain ⟨i, j, rfl, rfl, q⟩ := h
  obtain ⟨t, rfl⟩ := rx
  obtain ⟨t', rfl⟩ := ry
  exact rule i j t t' s _ _ ⟨.int (g i j), H, I.tok _, ⟨_, rfl⟩, q⟩
theorem opB0 {f : Value → Value → Sem Value} {g : Int → Int → Bool}
    (rule : ∀ (i j : Int) (t u : Tok) (s : Shared) (Q : Value → Shared → Prop) (E : Value → Shared → Prop), Q (.bool (g i j)) s → wpAny (model X.prog X.w) X.A (f (.int i t) (.int j u)) Q E s) :
    OpR X f (rI0 fun i j => .bl (g i j)) := by
  intro pins s σ H x y v u Q I rx ry h
  obtain ⟨i, j, rfl, rfl, q⟩ := h
  obtain ⟨t, rfl⟩ := rx
  obtain ⟨t', rfl⟩ := ry
  exact rule i j t t' s _ _ ⟨.bl (g i j), H, I, rfl, q⟩

def CDiv (i j : Int) : Prop := 0 < j ∧ j < 1073741824
def CPow (i j : Int) : Prop := 0 ≤ j ∧ j ≤ 1000000 ∧ i.natAbs < 2 ^ 64
def CMul (i j : Int) : Prop := (-(2 ^ 64) < i ∧ i < 2 ^ 64) ∨ (-(2 ^ 64) < j ∧ j < 2 ^ 64)
theorem CMul.ok {i j : Int} (h : CMul i j) : IntMulOk i j := by
  rcases h with ⟨h1, h2⟩ | ⟨h1, h2⟩
  · exact .of_left (intBits_le_64 h1 h2)
  · exact .of_right (intBits_le_64 h1 h2)
theorem op_add : OpR X (binaryOp .Add) (rI0 fun i j => .int (i + j)) := opI0 fun _ _ _ _ _ _ _ q => add_int q
theorem op_sub : OpR X (binaryOp .Sub) (rI0 fun i j => .int (i - j)) := opI0 fun _ _ _ _ _ _ _ q => sub_int q
theorem op_mul : OpR X (binaryOp .Mult) (rI CMul fun i j => .int (i * j)) := opI fun _ _ _ _ _ _ _ hc q => mul_int q hc.ok
/-- // by a positive divisor -/
theorem op_fdiv : OpR X (binaryOp .FloorDiv) (rI CDiv fun i j => .int (i / j)) := opI fun i j _ _ _ _ _ hc q => by
  have h1 : (0 : Int) < j := hc.1
  have h2 : j < 1073741824 := hc.2
  exact floordiv_int (by omega) (by rw [Int.fdiv_eq_ediv_of_nonneg i (by omega)]; exact q) (.inl (PyProof.noPylong_small (by omega)))
/-- % by a positive divisor of any size -/
theorem op_mod : OpR X (binaryOp .Mod) (rI (fun _ j => 0 < j) fun i j => .int (i % j)) := opI fun i j _ _ _ _ _ hc q => by
  have h1 : (0 : Int) < j := hc
  exact mod_int' (by omega) (by rw [Int.fmod_eq_emod_of_nonneg i (by omega)]; exact q)
theorem op_pow : OpR X (binaryOp .Pow) (rI CPow fun i j => .int (i ^ j.toNat)) := opI fun _ _ _ _ _ _ _ hc q => pow_int_small hc.1 hc.2.1 hc.2.2 q
theorem unI {f : Value → Sem Value} {g : Int → Int}
    (rule : ∀ (i : Int) (t : Tok) (s : Shared) (Q : Value → Shared → Prop) (E : Value → Shared → Prop), Q (.int (g i) s.toks) { s with toks := s.toks + 1 } → wpAny (model X.prog X.w) X.A (f (.int i t)) Q E s) :
    UnR X f (rU fun i => .int (g i)) := by
  intro pins s σ H x v Q I rx h
  obtain ⟨i, rfl, q⟩ := h
  obtain ⟨t, rfl⟩ := rx
  exact rule i t s _ _ ⟨.int (g i), H, I.tok _, ⟨_, rfl⟩, q⟩
theorem un_neg : UnR X (unaryOp .USub) (rU fun i => .int (-i)) := unI fun _ _ _ _ _ q => neg_int q
/-! ### bools among ints: n += (a < b) -/
end

/-! ### comparisons -/
/-- the scalars that == tells apart as data does -/
def scal : V → V → Bool
  | .non, .non => true | .non, .int _ => true | .int _, .non => true | .non, .bl _ => true | .bl _, .non => true | .non, .str _ => true | .str _, .non => true
  | .int _, .int _ => true | .bl _, .bl _ => true | .str _, .str _ => true | .byt _, .byt _ => true
  | .int _, .str _ => true | .str _, .int _ => true | .bl _, .str _ => true | .str _, .bl _ => true
  | _, _ => false
def rEq : R2 := fun x y H Q => scal x y = true ∧ Q (.bl (decide (x = y))) H
def rNe : R2 := fun x y H Q => scal x y = true ∧ Q (.bl (!decide (x = y))) H

theorem dec_int {i j : Int} : decide (V.int i = V.int j) = (i == j) := by
  rw [Bool.eq_iff_iff]
  simp
theorem dec_bl {i j : Bool} : decide (V.bl i = V.bl j) = (i == j) := by
  rw [Bool.eq_iff_iff]
  simp
theorem dec_str {i j : Str} : decide (V.str i = V.str j) = (i == j) := by
  rw [Bool.eq_iff_iff]
  simp
theorem dec_byt {i j : Array UInt8} : decide (V.byt i = V.byt j) = (i.toList == j.toList) := by
  rw [Bool.eq_iff_iff]
  cases i
  cases j
  simp

section
variable {X : Cx} {a b c : Expr} {ta tb tc : TE} {pos : Pos}
theorem fin_bl {pins : List (Addr × Obj)} {σ : St} {H : Hp} {s : Shared} {Q : VK} {k k' : Bool} (I : Inv X pins σ H s) (q : Q (.bl k) H) (e : k = k') : EP X pins σ Q (.bool k') s := by
  subst e
  exact ⟨.bl k, H, I, rfl, q⟩
theorem op_eq : OpR X (compareOp .Eq) rEq := by
  intro pins s σ H x y v u Q I rx ry h
  obtain ⟨hs, q⟩ := h
  cases x with
  | non =>
    cases rx
    cases y with
    | non => cases ry; exact PySem.EqNone.eq_none_none (fin_bl I q (by simp))
    | bl j => cases ry; exact PySem.EqNone.eq_none_bool (fin_bl I q (by simp))
    | int j => obtain ⟨t', rfl⟩ := ry; exact PySem.EqNone.eq_none_int (fin_bl I q (by simp))
    | str j => obtain ⟨t', rfl⟩ := ry; exact PySem.EqNone.eq_none_str (fin_bl I q (by simp))
    | _ => exact absurd (show false = true from hs) Bool.false_ne_true
  | bl i =>
    cases rx
    cases y with
    | non => cases ry; exact PySem.EqNone.eq_bool_none (fin_bl I q (by simp))
    | bl j => cases ry; exact eq_bool (fin_bl I q dec_bl)
    | str j => obtain ⟨t', rfl⟩ := ry; exact PySem.EqMixed.eq_bool_str (fin_bl I q (by simp))
    | _ => exact absurd (show false = true from hs) Bool.false_ne_true
  | int i =>
    obtain ⟨t, rfl⟩ := rx
    cases y with
    | non => cases ry; exact PySem.EqNone.eq_int_none (fin_bl I q (by simp))
    | int j => obtain ⟨t', rfl⟩ := ry; exact eq_int (fin_bl I q dec_int)
    | str j => obtain ⟨t', rfl⟩ := ry; exact PySem.EqMixed.eq_int_str (fin_bl I q (by simp))
    | _ => exact absurd (show false = true from hs) Bool.false_ne_true
  | str i =>
    obtain ⟨t, rfl⟩ := rx
    cases y with
    | non => cases ry; exact PySem.EqNone.eq_str_none (fin_bl I q (by simp))
    | bl j => cases ry; exact PySem.EqMixed.eq_str_bool (fin_bl I q (by simp))
    | int j => obtain ⟨t', rfl⟩ := ry; exact PySem.EqMixed.eq_str_int (fin_bl I q (by simp))
    | str j => obtain ⟨t', rfl⟩ := ry; exact eq_str (fin_bl I q dec_str)
    | _ => exact absurd (show false = true from hs) Bool.false_ne_true
  | byt i =>
    obtain ⟨t, rfl⟩ := rx
    cases y with
    | byt j => obtain ⟨t', rfl⟩ := ry; exact PySem.W.eq_bytes (fin_bl I q dec_byt)
    | _ => exact absurd (show false = true from hs) Bool.false_ne_true
  | _ => cases y <;> exact absurd (show false = true from hs) Bool.false_ne_true
theorem op_ne : OpR X (compareOp .NotEq) rNe := by
  intro pins s σ H x y v u Q I rx ry h
  obtain ⟨hs, q⟩ := h
  cases x with
  | non =>
    cases rx
    cases y with
    | non => cases ry; exact PySem.EqNone.ne_none_none (fin_bl I q (by simp))
    | bl j => cases ry; exact PySem.EqNone.ne_none_bool (fin_bl I q (by simp))
    | int j => obtain ⟨t', rfl⟩ := ry; exact PySem.EqNone.ne_none_int (fin_bl I q (by simp))
    | str j => obtain ⟨t', rfl⟩ := ry; exact PySem.EqNone.ne_none_str (fin_bl I q (by simp))
    | _ => exact absurd (show false = true from hs) Bool.false_ne_true
  | bl i =>
    cases rx
    cases y with
    | non => cases ry; exact PySem.EqNone.ne_bool_none (fin_bl I q (by simp))
    | bl j => cases ry; exact ne_bool (fin_bl I q (congrArg not dec_bl))
    | str j => obtain ⟨t', rfl⟩ := ry; exact PySem.EqMixed.ne_bool_str (fin_bl I q (by simp))
    | _ => exact absurd (show false = true from hs) Bool.false_ne_true
  | int i =>
    obtain ⟨t, rfl⟩ := rx
    cases y with
    | non => cases ry; exact PySem.EqNone.ne_int_none (fin_bl I q (by simp))
    | int j => obtain ⟨t', rfl⟩ := ry; exact ne_int (fin_bl I q (congrArg not dec_int))
    | str j => obtain ⟨t', rfl⟩ := ry; exact PySem.EqMixed.ne_int_str (fin_bl I q (by simp))
    | _ => exact absurd (show false = true from hs) Bool.false_ne_true
  | str i =>
    obtain ⟨t, rfl⟩ := rx
    cases y with
    | non => cases ry; exact PySem.EqNone.ne_str_none (fin_bl I q (by simp))
    | bl j => cases ry; exact PySem.EqMixed.ne_str_bool (fin_bl I q (by simp))
    | int j => obtain ⟨t', rfl⟩ := ry; exact PySem.EqMixed.ne_str_int (fin_bl I q (by simp))
    | str j => obtain ⟨t', rfl⟩ := ry; exact ne_str (fin_bl I q (congrArg not dec_str))
    | _ => exact absurd (show false = true from hs) Bool.false_ne_true
  | byt i =>
    obtain ⟨t, rfl⟩ := rx
    cases y with
    | byt j => obtain ⟨t', rfl⟩ := ry; exact PySem.W.ne_bytes (fin_bl I q (congrArg not dec_byt))
    | _ => exact absurd (show false = true from hs) Bool.false_ne_true
  | _ => cases y <;> exact absurd (show false = true from hs) Bool.false_ne_true

theorem op_lt : OpR X (compareOp .Lt) (rI0 fun i j => .bl (decide (i < j))) := opB0 fun _ _ _ _ _ _ _ q => lt_int q
theorem op_le : OpR X (compareOp .LtE) (rI0 fun i j => .bl (decide (i ≤ j))) := opB0 fun _ _ _ _ _ _ _ q => le_int q
theorem op_gt : OpR X (compareOp .Gt) (rI0 fun i j => .bl (decide (j < i))) := opB0 fun _ _ _ _ _ _ _ q => gt_int q
theorem op_lt_str : OpR X (compareOp .Lt) (fun x y H Q => ∃ i j, x = .str i ∧ y = .str j ∧ Q (.bl (decide (i.cps.toList < j.cps.toList))) H) := by
  intro pins s σ H x y v u Q I rx ry h
  obtain ⟨i, j, rfl, rfl, q⟩ := h
  obtain ⟨t, rfl⟩ := rx
  obtain ⟨t', rfl⟩ := ry
  exact lt_str (fin_bl I q rfl)
/-- the one string within the other -/
theorem op_in_str : OpR X (compareOp .In) (fun x y H Q => ∃ i j, x = .str i ∧ y = .str j ∧ Q (.bl (!(Builtin.Str.occurrences j i 0 j.length 1).isEmpty)) H) := by
  intro pins s σ H x y v u Q I rx ry h
  obtain ⟨i, j, rfl, rfl, q⟩ := h
  obtain ⟨t, rfl⟩ := rx
  obtain ⟨t', rfl⟩ := ry
  exact in_str (fin_bl I q rfl)

/-- is None, is not None: the right side a value none -/
theorem op_isN : OpR X (compareOp .Is) (fun x y H Q => y = .non ∧ Q (.bl (decide (x = .non))) H) := by
  intro pins s σ H x y v u Q I rx ry h
  obtain ⟨rfl, q⟩ := h
  cases ry
  refine is_none_gen (fin_bl I q ?_)
  cases x <;> first
    | (cases rx; rfl)
    | (obtain ⟨t, rfl⟩ := rx; rfl)
theorem op_notin_str : OpR X (compareOp .NotIn) (fun x y H Q => ∃ i j, x = .str i ∧ y = .str j ∧ Q (.bl (!(!(Builtin.Str.occurrences j i 0 j.length 1).isEmpty))) H) := by
  intro pins s σ H x y v u Q I rx ry h
  obtain ⟨i, j, rfl, rfl, q⟩ := h
  obtain ⟨t, rfl⟩ := rx
  obtain ⟨t', rfl⟩ := ry
  exact notIn_str (fin_bl I q rfl)
/-- two rules for one operation: by cases -/
theorem OpR.or {f : Value → Value → Sem Value} {r r' : R2} (h : OpR X f r) (h' : OpR X f r') : OpR X f (fun x y H Q => r x y H Q ∨ r' x y H Q) := by
  intro pins s σ H x y v u Q I rx ry q
  rcases q with q | q
  · exact h pins s σ H x y v u Q I rx ry q
  · exact h' pins s σ H x y v u Q I rx ry q

theorem nomark (b : Expr) {op : CmpOp} (h : op ≠ .In := by decide) (h2 : op ≠ .NotIn := by decide) : behindInMarks op b = false := by
  have e1 : (op == CmpOp.In) = false := by cases op <;> first | rfl | exact absurd rfl h
  have e2 : (op == CmpOp.NotIn) = false := by cases op <;> first | rfl | exact absurd rfl h2
  cases b <;> simp [behindInMarks, e1, e2]
/-- a comparison as a value; hm: nomark b, or (for in, not in) by with_unfolding_all rfl -/
theorem pe_cmpR {op : CmpOp} {r : R2} (ho : OpR X (compareOp op) r) (ha : PE X a ta) (hb : PE X b tb) (hm : behindInMarks op b = false) : PE X (.Compare a [op] [b] pos) (tOp r ta tb) := by
  intro pins s σ H Q I h
  exact wpAny_Compare1 (binT ha hb I h fun v u s2 x y H2 I2 rx ry q => ho pins s2 σ H2 x y v u Q I2 rx ry q) hm
/-- a reading of a value as a test -/
def tTest (t : TE) : TT := fun σ H Q => t σ H fun x H' => ∃ k, x = .bl k ∧ Q k H'
theorem pt_cmpR {op : CmpOp} {r : R2} (ho : OpR X (compareOp op) r) (ha : PE X a ta) (hb : PE X b tb) (hm : behindInMarks op b = false) : PT X (.Compare a [op] [b] pos) (tTest (tOp r ta tb)) := by
  intro pins s σ H Q I h
  refine wpAny_isTrue_Compare1 (thn (ha pins s σ H _ I h) fun v s1 ⟨x, H1, I1, r1, q1⟩ => thn (hb pins s1 σ H1 _ I1 q1) fun u s2 ⟨y, H2, I2, r2, q2⟩ =>
    thn (ho pins s2 σ H2 x y v u _ I2 r1 r2 q2) fun c s3 ⟨z, H3, I3, r3, k, e, q3⟩ => ?_) hm
  subst e
  cases r3
  exact wpAny_truthy_bool ⟨H3, I3, q3⟩
/-- a op1 b op2 c -/
def tChain (r r' : R2) (ta tb tc : TE) : TE := fun σ H Q => ta σ H fun x H1 => tb σ H1 fun y H2 => r x y H2 fun z H3 => ∃ k, z = .bl k ∧
  (if k = true then tc σ H3 fun w' H4 => r' y w' H4 Q else Q (.bl false) H3)
theorem pe_chain {op op' : CmpOp} {r r' : R2} (ho : OpR X (compareOp op) r) (ho' : OpR X (compareOp op') r') (ha : PE X a ta) (hb : PE X b tb) (hc : PE X c tc)
    (hm : lastMarks [op, op'] [b, c] = false := by with_unfolding_all rfl) : PE X (.Compare a [op, op'] [b, c] pos) (tChain r r' ta tb tc) := by
  intro pins s σ H Q I h
  refine Compare_chain (thn (ha pins s σ H _ I h) fun v s1 ⟨x, H1, I1, r1, q1⟩ => chain_link (thn (hb pins s1 σ H1 _ I1 q1) fun u s2 ⟨y, H2, I2, r2, q2⟩ =>
    thn (ho pins s2 σ H2 x y v u _ I2 r1 r2 q2) fun d s3 ⟨z, H3, I3, r3, k, e, q3⟩ => ?_)) hm
  subst e
  cases r3
  refine wpAny_truthy_bool ?_
  cases k with
  | false => exact ite_ff ⟨.bl false, H3, I3, rfl, q3⟩
  | true => exact ite_tt (chain_last (thn (hc pins s3 σ H3 _ I3 q3) fun w' s4 ⟨z', H4, I4, r4, q4⟩ => ho' pins s4 σ H4 y z' u w' Q I4 r2 r4 q4))
theorem pt_chain {op op' : CmpOp} {r r' : R2} (ho : OpR X (compareOp op) r) (ho' : OpR X (compareOp op') r') (ha : PE X a ta) (hb : PE X b tb) (hc : PE X c tc)
    (hm : lastMarks [op, op'] [b, c] = false := by with_unfolding_all rfl) : PT X (.Compare a [op, op'] [b, c] pos) (tTest (tChain r r' ta tb tc)) := by
  intro pins s σ H Q I h
  refine isTrue_chain (thn (ha pins s σ H _ I h) fun v s1 ⟨x, H1, I1, r1, q1⟩ => test_link (thn (hb pins s1 σ H1 _ I1 q1) fun u s2 ⟨y, H2, I2, r2, q2⟩ =>
    thn (ho pins s2 σ H2 x y v u _ I2 r1 r2 q2) fun d s3 ⟨z, H3, I3, r3, k, e, q3⟩ => ?_)) hm
  subst e
  cases r3
  refine wpAny_truthy_bool ?_
  cases k with
  | false =>
    obtain ⟨k', e', q'⟩ := q3
    cases e'
    exact ite_ff ⟨H3, I3, q'⟩
  | true =>
    refine ite_tt (test_last (thn (hc pins s3 σ H3 _ I3 q3) fun w' s4 ⟨z', H4, I4, r4, q4⟩ => thn (ho' pins s4 σ H4 y z' u w' _ I4 r2 r4 q4) fun d' s5 ⟨z2, H5, I5, r5, k2, e2, q5⟩ => ?_))
    subst e2
    cases r5
    exact wpAny_truthy_bool ⟨H5, I5, q5⟩

/-! ### truth -/
theorem line63 : (sizeLine : Nat) < 2 ^ 63 := by rw [sizeLine_eq]; decide
/-! ### strs and bytes -/
theorem op_add_str : OpR X (binaryOp .Add) (fun x y H Q => ∃ i j, x = .str i ∧ y = .str j ∧ i.length + j.length ≤ sizeLine ∧ Q (.str (i ++ j)) H) := by
  intro pins s σ H x y v u Q I rx ry h
  obtain ⟨i, j, rfl, rfl, hz, q⟩ := h
  obtain ⟨t, rfl⟩ := rx
  obtain ⟨t', rfl⟩ := ry
  exact add_str (fun t' tk => ⟨.str (i ++ j), H, I.tok _, ⟨_, rfl⟩, q⟩) hz
/-! ### scalar builtins, by CallR -/
theorem vals1 {x : V} {us : List Value} (r : Vals [x] us) : ∃ u, us = [u] ∧ RelV x u := by
  cases r with
  | cons r1 r2 => cases r2; exact ⟨_, rfl, r1⟩
theorem vals2 {x y : V} {us : List Value} (r : Vals [x, y] us) : ∃ u w', us = [u, w'] ∧ RelV x u ∧ RelV y w' := by
  cases r with
  | cons r1 r2 =>
    cases r2 with
    | cons r3 r4 => cases r4; exact ⟨_, _, rfl, r1, r3⟩
theorem call_min2 (hc : X.calm = true) : CallR X (.builtin "min") (fun xs H Q => ∃ i j, xs = [.int i, .int j] ∧ Q (.int (if j < i then j else i)) H) := by
  intro pins s σ H xs us Q I r h
  obtain ⟨i, j, rfl, q⟩ := h
  obtain ⟨u, w', rfl, ⟨t, rfl⟩, ⟨t', rfl⟩⟩ := vals2 r
  refine min_two_ints (I.ok.hd hc) fun h' tk k => ⟨_, H, I.kept k, ?_, q⟩
  by_cases hj : j < i
  · rw [if_pos hj, if_pos hj]; exact ⟨_, rfl⟩
  · rw [if_neg hj, if_neg hj]; exact ⟨_, rfl⟩
theorem call_int1 : CallR X (.type "int") (fun xs H Q => (∃ i, xs = [.int i] ∧ Q (.int i) H) ∨ ∃ k, xs = [.bl k] ∧ Q (.int (if k then 1 else 0)) H) := by
  intro pins s σ H xs us Q I r h
  rcases h with ⟨i, rfl, q⟩ | ⟨k, rfl, q⟩
  · obtain ⟨u, rfl, t, rfl⟩ := vals1 r
    exact call_int_int ⟨.int i, H, I, ⟨_, rfl⟩, q⟩
  · obtain ⟨u, rfl, r1⟩ := vals1 r
    cases r1
    exact call_int_bool ⟨.int (if k then 1 else 0), H, I.tok _, ⟨_, rfl⟩, q⟩
theorem call_str_int : CallR X (.type "str") (fun xs H Q => ∃ i, xs = [.int i] ∧ i.natAbs.log2 < 1920 ∧ Q (.str (toString i)) H) := by
  intro pins s σ H xs us Q I r h
  obtain ⟨i, rfl, hz, q⟩ := h
  obtain ⟨u, rfl, t, rfl⟩ := vals1 r
  exact PySem.P.str_of_int hz ⟨.str _, H, I.tok _, ⟨_, rfl⟩, q⟩
end
end L2

namespace L2
open PySem PySem.Spec PyProof.Rows

/-! ### an instance, its attributes a map -/
structure ObjM (h : Heap) (x dx C : Addr) (mA : Str → Option Value) : Prop where
  obj : h.get? x = some (PySem.W.instObj C dx)
  ns : h.Ns1 dx mA
  ne : dx ≠ x

theorem lookIn_ns {h : Heap} {dx : Addr} {mA : Str → Option Value} (n : h.Ns1 dx mA) : ∃ od, h.get? dx = some od ∧ ∀ name, PySem.W.lookIn name od = some (mA name) := by
  obtain ⟨o, es, ep, ho, hd, hk, _, hm⟩ := n
  refine ⟨o, ho, fun name => ?_⟩
  have e := hm name
  unfold nsFind findBy at e
  rw [← Array.find?_toList] at e
  unfold PySem.W.lookIn
  rw [hd]
  dsimp only
  split
  · rename_i y q
    rw [q] at e
    exact congrArg some e
  · rename_i q
    rw [q] at e
    have a : es.toList.any (·.refKey) = false := by
      rw [List.any_eq_false]
      intro y hy
      obtain ⟨z, t, hkey⟩ := hk y (Array.mem_toList_iff.mp hy)
      simp [DictEntry.refKey, hkey]
    have a' : ¬ es.toList.any (·.refKey) = true := by rw [a]; exact Bool.false_ne_true
    rw [if_neg a']
    exact congrArg some e

theorem ObjM.look {h : Heap} {x dx C : Addr} {mA : Str → Option Value} (I : ObjM h x dx C mA) : ∃ od, PySem.W.InstAt h x (PySem.W.instObj C dx) C (some od) ∧ ∀ name, PySem.W.lookIn name od = some (mA name) :=
  let ⟨od, ho, hl⟩ := lookIn_ns I.ns
  ⟨od, ⟨I.obj, rfl, rfl, ho⟩, hl⟩

section
variable {prog : Program} {w : World} {A : Around} {E : Value → Shared → Prop} {s : Shared} {K : PySem.W.Frag} {x dx C f : Addr} {mA : Str → Option Value} {name : Str} {v : Value}

end

/-! ### the attributes as a list of pairs -/
def putF (f : Str) (v : V) : List (Str × V) → List (Str × V)
  | [] => [(f, v)]
  | (g, x) :: r => if g = f then (g, v) :: r else (g, x) :: putF f v r
section
variable {P : Program} {w : World} {H H' : Hp} {h h' : Heap} {a C dx : Addr} {fs fs' : List (Str × V)}
theorem ins_get (hok : HOk P w H h) (e : H a = some (.ins C dx fs)) : ∃ mA, ObjM h a dx C mA ∧ (∀ f, RelO (fs.lookup f) (mA f)) ∧ PySem.Within mA (fs.map (·.1)) ∧ fs.length ≤ 1000 ∧ H dx = some (.own a) := by
  obtain ⟨d, z, ne, ob, mA, n, r, q⟩ := (show ObjOk P w H h a (.ins C dx fs) from hok a _ e)
  exact ⟨mA, ⟨ob, n, ne⟩, r, q, z, d⟩
end

/-! ### what of the text a class must have -/
structure Cls (K : PySem.W.Frag) (C : Addr) : Prop where
  pg : PySem.W.plainGet K C Str.empty = true
  hd : PySem.W.hasDictIn K C = true
  po : PySem.W.plainOver K C = true
  sa : PySem.W.findIn K (.ref C) "__setattr__" = some (some (.builtin "object.__setattr__"))
theorem Cls.get {K : PySem.W.Frag} {C : Addr} (c : Cls K C) (f : Str) : PySem.W.plainGet K C f = true := c.pg
/-- no class of it has the name -/
def NoAttr (K : PySem.W.Frag) (C : Addr) (f : Str) : Prop := PySem.W.findIn K (.ref C) f = some none
/-- a constant of the class -/
structure Con (K : PySem.W.Frag) (C : Addr) (f : Str) (v : V) (u : Value) : Prop where
  at_ : PySem.W.findIn K (.ref C) f = some (some u)
  rel : RelV v u
  get : PySem.W.specialIn K u "__get__" = some none
  cp : PySem.W.copiedNames.contains f = false
/-- a method: a plain def of the class or of one above it -/
structure Meth (K : PySem.W.Frag) (C : Addr) (m : Str) (f : Addr) : Prop where
  at_ : PySem.W.findIn K (.ref C) m = some (some (.ref f))
  fn : PySem.W.isFn K (.ref f) = true
  kp : PySem.W.keepIn K (.ref f) = true

section
variable {X : Cx} {pins : List (Addr × Obj)} {σ : St} {H : Hp} {s : Shared} {a C dx : Addr} {fs : List (Str × V)} {f : Str} {v : V} {A : Around} {E : Value → Shared → Prop}

end

/-! ### readings and rules -/
section
variable {X : Cx} {o e value : Expr} {f : Str} {pos pos' tpos : Pos} {ta tv : TE}
end

/-! ### isinstance -/
section
variable {X : Cx} {pins : List (Addr × Obj)} {σ : St} {H : Hp} {s : Shared} {A : Around} {E : Value → Shared → Prop} {Q : Value → Shared → Prop} {c : Value} {b : Bool}
/-- the type of a value, as the fragment's deciders take it; for an instance its class -/
inductive TyOf (K : PySem.W.Frag) (H : Hp) : V → Value → Prop where
  | non : TyOf K H .non (.type "NoneType")
  | bl (x : Bool) : TyOf K H (.bl x) (.type "bool")
  | int (i : Int) : TyOf K H (.int i) (.type "int")
  | str (x : Str) : TyOf K H (.str x) (.type "str")
  | flt (x : UInt64) : TyOf K H (.flt x) (.type "float")
  | lst {a : Addr} {xs : List V} (e : H a = some (.lst xs)) : TyOf K H (.ref a) (.type "list")
  | frz {a : Addr} {o : Obj} {xs : List V} (e : H a = some (.frz o (.lst xs))) : TyOf K H (.ref a) (.type "list")
  | tup {a : Addr} {xs : List V} (e : H a = some (.tup xs)) : TyOf K H (.ref a) (.type "tuple")
  | dK {a : Addr} {kvs : List (Key × V)} (e : H a = some (.dK kvs)) : TyOf K H (.ref a) (.type "dict")
  | dT {a : Addr} {kvs : List (List Key × V)} (e : H a = some (.dT kvs)) : TyOf K H (.ref a) (.type "dict")
  | ins {a C dx : Addr} {fs : List (Str × V)} (e : H a = some (.ins C dx fs)) (cl : Cls K C) (ha : PySem.W.findIn K (.ref C) "__class__" = some (some (.builtin "object.__class__")))
      (hn : PySem.W.specialIn K (.builtin "object.__class__") "__get__" = some (some (.builtin "getset_descriptor.__get__"))) (htk : PySem.W.takesIn K (.builtin "object.__class__") = some true)
      (hm : PySem.W.mroIn K C (.type "object") = some true) : TyOf K H (.ref a) (.ref C)
/-- isinstance(x, c) for one class c, a built-in or an own one: kitOne's answer -/
theorem isinst_ok {x : V} {u t : Value} (I : Inv X pins σ H s) (rx : RelV x u) (ty : TyOf X.K H x t) (e : PySem.W.kitOne X.K t c = some b) (h : ∀ tk, Q (.bool b) { s with toks := tk }) :
    wpAny (model X.prog X.w) A (call (.builtin "isinstance") [u, c]) Q E s := by
  cases ty with
  | non => cases (show u = Value.none from rx); exact PySem.W.kia_one PySem.W.kitx_none I.kIn True.intro e (fun z => nomatch z) h
  | bl y => cases (show u = Value.bool y from rx); exact PySem.W.kia_one PySem.W.kitx_bool I.kIn True.intro e (fun z => nomatch z) h
  | int i => obtain ⟨t, q⟩ := (show ∃ t, u = Value.int i t from rx); cases q; exact PySem.W.kia_one PySem.W.kitx_int I.kIn True.intro e (fun z => nomatch z) h
  | str y => obtain ⟨t, q⟩ := (show ∃ t, u = Value.str y t from rx); cases q; exact PySem.W.kia_one PySem.W.kitx_str I.kIn True.intro e (fun z => nomatch z) h
  | flt y => obtain ⟨t, q⟩ := (show ∃ t, u = Value.float y t from rx); cases q; exact PySem.W.kia_one PySem.W.kitx_float I.kIn True.intro e (fun z => nomatch z) h
  | @lst a xs ea =>
    cases (show u = Value.ref a from rx)
    obtain ⟨_, _, n, _, h1⟩ := (show ObjOk X.prog X.w H s.heap a (.lst xs) from I.hok a _ ea)
    exact PySem.W.kia_one PySem.W.kitx_list I.kIn ⟨_, h1, rfl⟩ e (fun z => nomatch z) h
  | @frz a ob xs ea =>
    cases (show u = Value.ref a from rx)
    obtain ⟨_, _, _, n, _, h1⟩ := (show ObjOk X.prog X.w H s.heap a (.frz ob (.lst xs)) from I.hok a _ ea)
    exact PySem.W.kia_one PySem.W.kitx_list I.kIn ⟨_, h1, rfl⟩ e (fun z => nomatch z) h
  | @tup a xs ea =>
    cases (show u = Value.ref a from rx)
    obtain ⟨_, _, _, p⟩ := (show ObjOk X.prog X.w H s.heap a (.tup xs) from I.hok a _ ea)
    obtain ⟨o, h1, h2, _⟩ := p
    exact PySem.W.kia_one PySem.W.kitx_tuple I.kIn ⟨o, h1, h2⟩ e (fun z => nomatch z) h
  | @dK a kvs ea =>
    cases (show u = Value.ref a from rx)
    obtain ⟨_, _, vs, _, p⟩ := (show ObjOk X.prog X.w H s.heap a (.dK kvs) from I.hok a _ ea)
    obtain ⟨o, es, ep, h1, h2, _⟩ := p
    exact PySem.W.kia_one PySem.W.kitx_dict I.kIn ⟨o, h1, h2.1⟩ e (fun z => nomatch z) h
  | @dT a kvs ea =>
    cases (show u = Value.ref a from rx)
    obtain ⟨_, _, xs, _, o, es, ep, h1, h2, _⟩ := (show ObjOk X.prog X.w H s.heap a (.dT kvs) from I.hok a _ ea)
    exact PySem.W.kia_one PySem.W.kitx_dict I.kIn ⟨o, h1, h2.1⟩ e (fun z => nomatch z) h
  | @ins a C dx fs ea cl ha hn htk hm =>
    cases (show u = Value.ref a from rx)
    obtain ⟨mA, O, _⟩ := ins_get I.hok ea
    obtain ⟨od, J, _⟩ := O.look
    exact PySem.W.kia_one (PySem.W.kitx_own (cl.get _) cl.hd ha hn htk hm) I.kIn J e (fun z => nomatch z) h
end
end L2

namespace L2
open PySem PySem.Spec PyProof.Rows

/-! ### room -/
structure Room (k : Nat) (A : Around) : Prop where
  hd : A.handled = none
  dp : A.depth + 3 * k + 5 < recursionLimit
  un : A.units + 16 * k + 200 < cLine
theorem Room.mono {j k : Nat} {A : Around} (r : Room k A) (h : j ≤ k) : Room j A := ⟨r.hd, by have := r.dp; omega, by have := r.un; omega⟩
theorem Room.deeper {k : Nat} {A : Around} (r : Room (k + 1) A) (env : Env) : Room k (A.deeper env) :=
  ⟨r.hd, by have := r.dp; show A.depth + 1 + 3 * k + 5 < _; omega, by have := r.un; show A.units + 3 + 16 * k + 200 < _; omega⟩
theorem Room.in1 {k : Nat} {A : Around} (r : Room (k + 1) A) : Room k A.in1 :=
  ⟨r.hd, by have := r.dp; show A.depth + 3 * k + 5 < _; omega, by have := r.un; show A.units + 1 + 16 * k + 200 < _; omega⟩
theorem Room.depth {k : Nat} {A : Around} (r : Room k A) : A.depth < recursionLimit := by have := r.dp; omega
theorem Room.units {k : Nat} {A : Around} (r : Room k A) : A.units + 64 < cLine := by have := r.un; omega
/-! ### argument lists and displays -/
def tNil : TA := fun _ H Q => Q [] H
def tCons (ta : TE) (tr : TA) : TA := fun σ H Q => ta σ H fun x H1 => tr σ H1 fun xs H2 => Q (x :: xs) H2
section
variable {X : Cx} {e : Expr} {es : List Expr} {te : TE} {t : TA} {pos : Pos}
theorem pa_nil : PA X [] tNil := fun _ _ _ _ H Q I h => Calls.spliced_nil ⟨[], H, I, .nil, h⟩
theorem pa_cons (ha : PE X e te) (hr : PA X es t) (hs : starEach (e :: es) X.env = (false, eval e X.env) :: starEach es X.env := by rfl) : PA X (e :: es) (tCons te t) := by
  intro pos pins s σ H Q I h
  rw [hs]
  show wpAny _ _ (spliced ((false, eval e X.env) :: backTo pos (starEach es X.env))) _ _ s
  refine Calls.spliced_cons (thn (ha pins s σ H _ I h) fun u s1 ⟨x, H1, I1, r1, q1⟩ => ?_)
  exact thn (hr pos pins s1 σ H1 _ I1 q1) fun us s2 ⟨xs, H2, I2, r2, q2⟩ => ⟨x :: xs, H2, I2, .cons r1 r2, q2⟩

/-- a tuple, a list of written items -/
def tTup (t : TA) : TE := fun σ H Q => t σ H fun xs H1 => xs.length ≤ sizeLine ∧ ∀ p, H1 p = none → Q (.ref p) (upd H1 p (.tup xs))
def tLst (t : TA) : TE := fun σ H Q => t σ H fun xs H1 => xs.length ≤ sizeLine ∧ ∀ p, H1 p = none → Q (.ref p) (upd H1 p (.lst xs))
theorem pe_tup {x1} (h : PA X es t) : PE X (.Tuple es x1 pos) (tTup t) := by
  intro pins s σ H Q I hq
  refine wpAny_Tuple_spliced (thn (h pos pins s σ H _ I hq) fun us s1 ⟨xs, H1, I1, r, z, q⟩ => ⟨by rw [← r.length]; exact z, ?_⟩)
  have hf : H1 s1.heap.objs.size = none := I1.hok.fresh (Nat.le_refl _)
  refine ⟨.ref s1.heap.objs.size, upd H1 s1.heap.objs.size (.tup xs), I1.laid (t' := s1.toks) (fun b u e => Heap.get?_push_of_some _ e) (Nat.le_refl _) ?_, rfl, q _ hf⟩
  exact ⟨z, us, r, ⟨_, Heap.get?_push_size _ rfl, rfl, rfl, _, rfl⟩⟩
theorem pe_lst (h : PA X es t) : PE X (.List es pos) (tLst t) := by
  intro pins s σ H Q I hq
  refine wpAny_List_spliced (thn (h pos pins s σ H _ I hq) fun us s1 ⟨xs, H1, I1, r, z, q⟩ => ⟨by rw [← r.length]; exact z, ?_⟩)
  have hf : H1 s1.heap.objs.size = none := I1.hok.fresh (Nat.le_refl _)
  refine ⟨.ref s1.heap.objs.size, upd H1 s1.heap.objs.size (.lst xs), I1.laid (t' := s1.toks) (fun b u e => Heap.get?_push_of_some _ e) (Nat.le_refl _) ?_, rfl, q _ hf⟩
  exact ⟨z, us, 0, r, Heap.get?_push_size _ rfl⟩
end

/-! ### what a def promises -/
/-- a def's promise: the bound arguments in the parameters' order, the heap, the wanted end, the wanted exception -/
abbrev Sp := List V → Hp → VK → XK → Prop
/-- how an exception lies behind a call (file 08 gives it): the callers' frames, abstract heap and state ahead of the call, the wish, the exception, the state -/
abbrev CXT := List Env → Hp → Shared → XK → Value → Shared → Prop

/-- the state at a call -/
structure Env0 (P : Program) (w : World) (K : PySem.W.Frag) (mg : Str → Option Value) (base : Heap) (A : Around) (outer : List Env) (s : Shared) (H : Hp) : Prop where
  frames : A.frames = some outer
  mod : Mod K mg base
  bs : ∀ b o, base.get? b = some o → s.heap.get? b = some o ∧ H b = none
  bsz : base.objs.size ≤ s.heap.objs.size
  funs : s.heap.FunFrames base outer
  frf : ∀ b ∈ frs outer, H b = none
  hok : HOk P w H s.heap
  bare : AllBare s.gens
/-- a call's end -/
def CE (outer : List Env) (P : Program) (w : World) (H : Hp) (s : Shared) (Q : VK) (u : Value) (s' : Shared) : Prop :=
  ∃ v H', s'.os = s.os ∧ AllBare s'.gens ∧ Un (frs outer) [] H H' s.heap s'.heap ∧ HOk P w H' s'.heap ∧ RelV v u ∧ Q v H'
def CR (CX : CXT) (outer : List Env) (P : Program) (w : World) (H : Hp) (s : Shared) (Q : VK) (E : XK) (r : Result) (s' : Shared) : Prop :=
  match r with
  | .ok (.ret u) => CE outer P w H s Q u s'
  | .ok _ => False
  | .error e => CX outer H s E e s'
structure FnOk (P : Program) (w : World) (K : PySem.W.Frag) (mg : Str → Option Value) (base : Heap) (CX : CXT) (k : Nat) (f : Addr) (fd : FuncData) (ps : List Str) (sp : Sp) : Prop where
  len : ∀ vs H Q E, sp vs H Q E → vs.length = ps.length
  run : ∀ (A : Around) (outer : List Env) (s : Shared) (H : Hp) (args : Args) (us : List Value) (vs : List V) (Q : VK) (E : XK), Room k A → Env0 P w K mg base A outer s H → BindsTo s fd args (ps.zip us) → Vals vs us → sp vs H Q E →
    codeAny (model P w) A (.call (.ref f) args) (CR CX outer P w H s Q E) s
theorem FnOk.mono {P : Program} {w : World} {K : PySem.W.Frag} {mg : Str → Option Value} {base : Heap} {CX : CXT} {j k : Nat} {f : Addr} {fd : FuncData} {ps : List Str} {sp : Sp} (F : FnOk P w K mg base CX j f fd ps sp) (h : j ≤ k) :
    FnOk P w K mg base CX k f fd ps sp := ⟨F.len, fun A outer s H args us vs Q E hr => F.run A outer s H args us vs Q E (hr.mono h)⟩
theorem Env0.in1 {P : Program} {w : World} {K : PySem.W.Frag} {mg : Str → Option Value} {base : Heap} {A : Around} {outer : List Env} {s : Shared} {H : Hp} (e : Env0 P w K mg base A outer s H) :
    Env0 P w K mg base A.in1 outer s H := ⟨e.frames, e.mod, e.bs, e.bsz, e.funs, e.frf, e.hok, e.bare⟩

section
variable {X : Cx} {pins : List (Addr × Obj)} {σ : St} {H : Hp} {s s' : Shared}
/-- from a body: what a callee wants -/
theorem Inv.env0 (I : Inv X pins σ H s) : Env0 X.prog X.w X.K X.mg X.base X.A X.stack s H :=
  ⟨I.ok.frames, I.ok.mod, I.bs, Nat.le_trans I.ok.bsz I.sz, I.stack, I.stkFree, I.hok, I.bare⟩
/-- behind a call -/
theorem Inv.after {Q : VK} {u : Value} (I : Inv X pins σ H s) (h : CE X.stack X.prog X.w H s Q u s') : EP X pins σ Q u s' := by
  obtain ⟨v, H', os, bare, un, hok, r, q⟩ := h
  obtain ⟨hh, g, d, t, os'⟩ := s'
  obtain rfl : os' = s.os := os
  exact ⟨v, H', I.call (h' := hh) (g' := g) (d' := d) (t' := t) (ch := []) un hok bare (fun b z => absurd z (by simp)), r, q⟩
end

/-! ### calls -/
/-- f(..): the written arguments, then the defaults dvs; E: what is wanted of an exception -/
def tCall (sp : Sp) (dvs : List V) (E : XK) (t : TA) : TE := fun σ H Q => t σ H fun vs H1 => sp (vs ++ dvs) H1 Q E
/-- how the parameters are bound: us the positional arguments, kw the keywords' values by name, ds the defaults that fill up -/
def Binds (K : PySem.W.Frag) (fd : FuncData) (ps : List Str) (ds : List Value) : Prop :=
  ∀ (s : Shared) (us : List Value), K.In s.heap → (us ++ ds).length = ps.length → BindsTo s fd ⟨us, []⟩ (ps.zip (us ++ ds))
/-- every parameter is given -/
theorem Binds.all {K : PySem.W.Frag} {fd : FuncData} {ps : List Str} (h : ∀ us : List Value, us.length = ps.length → bindArgs fd ⟨us, []⟩ = pure (ps.zip us)) : Binds K fd ps [] := fun s us _ hl => by
  rw [List.append_nil] at hl ⊢
  exact .of_eq (h us hl)

/-- an exception of a callee reaches what this body wants of exceptions -/
def Passes (CX : CXT) (X : Cx) (E : XK) : Prop := ∀ (pins : List (Addr × Obj)) (σ : St) (H : Hp) (s : Shared) (e : Value) (s' : Shared), Inv X pins σ H s → CX X.stack H s E e s' → X.xe e s'

section
variable {X : Cx} {CX : CXT} {k : Nat} {f C : Addr} {fd : FuncData} {ps : List Str} {sp : Sp} {dvs : List V} {ds : List Value} {E : XK} {x m : Str} {p pos apos : Pos} {e o : Expr} {es : List Expr} {ta : TE} {t : TA}

/-- the callee runs -/
theorem run_fn {pins : List (Addr × Obj)} {σ : St} {H : Hp} {s : Shared} {Q : VK} {us : List Value} {vs : List V} (F : FnOk X.prog X.w X.K X.mg X.base CX k f fd ps sp) (hr : Room k X.A) (hb : Binds X.K fd ps ds) (hd : Vals dvs ds) (hx : Passes CX X E)
    (I : Inv X pins σ H s) (r : Vals vs us) (h : sp (vs ++ dvs) H Q E) : wpAny (model X.prog X.w) X.A (call (.ref f) us) (EP X pins σ Q) X.xe s := by
  have r2 : Vals (vs ++ dvs) (us ++ ds) := r.append hd
  have hl : (us ++ ds).length = ps.length := by rw [← r2.length]; exact F.len _ _ _ _ h
  refine wpAny_call (codeAny_mono (F.run X.A X.stack s H ⟨us, []⟩ (us ++ ds) (vs ++ dvs) Q E hr I.env0 (hb s us I.kIn hl) r2 h) fun r s' hq => ?_)
  cases r with
  | error e => exact hx pins σ H s e s' I hq
  | ok fl =>
    cases fl with
    | ret u => exact I.after hq
    | next => exact False.elim hq
    | brk => exact False.elim hq
    | cont => exact False.elim hq

theorem pe_call (F : FnOk X.prog X.w X.K X.mg X.base CX k f fd ps sp) (hr : Room k X.A) (hg : Gl X x) (hm : X.mg x = some (.ref f)) (hk : PySem.W.keepIn X.K (.ref f) = true) (hb : Binds X.K fd ps ds) (hd : Vals dvs ds) (hx : Passes CX X E)
    (ha : PA X (e :: es) t) (hdb : (x == ("__debug__" : Str)) = false := by decide) (he : starEach (e :: es) X.env = (false, eval e X.env) :: starEach es X.env := by rfl) (hpl : (backTo pos (starEach es X.env)).any (·.1) = false := by rfl) :
    PE X (.Call (.Name x p) (e :: es) [] pos) (tCall sp dvs E t) := by
  intro pins s σ H Q I h
  refine wpAny_Call_Name_kw (ld_glob I hg hm ?_ hdb)
  refine PySem.W.callWith_K (h₀ := X.base) I.ok.mod.kin hk (thn (ha pos pins s σ H _ I h) fun us s1 ⟨vs, H1, I1, r, q⟩ => ⟨I1.kIn, ?_⟩) he hpl
  exact run_fn F hr hb hd hx I1 r q
/-- what a class must have to be made -/
structure Mk (K : PySem.W.Frag) (C f : Addr) : Prop where
  makes : PySem.W.makesIn K C = true
  init : PySem.W.findIn K (.ref C) "__init__" = some (some (.ref f))
  fn : PySem.W.isFn K (.ref f) = true
  kp : PySem.W.keepIn K (.ref C) = true

end

/-! ### keywords -/
section
variable {X : Cx} {CX : CXT} {k : Nat} {f C : Addr} {fd : FuncData} {ps ks : List Str} {sp : Sp} {E : XK} {x m : Str} {p pos apos kpos : Pos} {e o : Expr} {es : List Expr} {kws : List Keyword} {te ta : TE} {t tk : TA} {nm : Option Str}
/-- how a call with keywords binds: g puts the positional values us and the keywords' values ws (names ks) in the parameters' order, defaults among them -/
structure KBinds (K : PySem.W.Frag) (fd : FuncData) (ps ks : List Str) (g : List Value → List Value → List Value) (gV : List V → List V → List V) : Prop where
  to : ∀ (s : Shared) (us ws : List Value), K.In s.heap → (g us ws).length = ps.length → BindsTo s fd ⟨us, ks.zip ws⟩ (ps.zip (g us ws))
  rel : ∀ {vs : List V} {us : List Value} {zs : List V} {ws : List Value}, Vals vs us → Vals zs ws → Vals (gV vs zs) (g us ws)
variable {g : List Value → List Value → List Value} {gV : List V → List V → List V}
end

/-! ### a def's body keeps its promise -/
/-- names: the parameters first -/
structure FnScope (N P : List Str) (sc : Scope) : Prop where
  kind : sc.kind = .function
  co : sc.isCoroutine = false
  gen : sc.isGenerator = false
  nd : N.Nodup
  pre : N.take P.length = P
  par : ∀ x ∈ P, sc.names.lookup x = some .local ∨ sc.names.lookup x = some .cell
  nofree : ∀ y ∈ sc.names, y.2 ≠ .free

theorem bindL_out {kindOf : Str → Option NameKind} {x : Str} : ∀ {binds : List (Str × Value)} {m : Str → Option Value}, (∀ v, (x, v) ∉ binds) → bindL kindOf binds m x = m x
  | [], _, _ => rfl
  | (n, v) :: r, m, h => by
    unfold bindL
    rw [bindL_out fun w hw => h w (List.mem_cons_of_mem _ hw)]
    split
    · have : x ≠ n := by rintro rfl; exact h v List.mem_cons_self
      simp [this]
    · rfl
theorem bindC_out {kindOf : Str → Option NameKind} {x : Str} : ∀ {binds : List (Str × Value)} {m : Str → Option Value}, (∀ v, (x, v) ∉ binds) → bindC kindOf binds m x = m x
  | [], _, _ => rfl
  | (n, v) :: r, m, h => by
    unfold bindC
    rw [bindC_out fun w hw => h w (List.mem_cons_of_mem _ hw)]
    split
    · rfl
    · have : x ≠ n := by rintro rfl; exact h v List.mem_cons_self
      simp [this]
theorem bindL_get {kindOf : Str → Option NameKind} {x : Str} {v : Value} : ∀ {P : List Str} {vs : List Value} {i : Nat} {m : Str → Option Value}, P.Nodup → P[i]? = some x → vs[i]? = some v → kindOf x = some .local →
    bindL kindOf (P.zip vs) m x = some v
  | [], _, _, _, _, h, _, _ => by simp at h
  | _ :: _, [], _, _, _, _, h, _ => by simp at h
  | p :: P, w :: vs, 0, m, nd, h1, h2, hk => by
    simp at h1 h2; subst h1; subst h2
    show bindL kindOf ((p, w) :: P.zip vs) m p = _
    unfold bindL
    rw [bindL_out fun v hv => (List.nodup_cons.mp nd).1 (List.of_mem_zip hv).1, if_pos hk]
    simp
  | p :: P, w :: vs, i + 1, m, nd, h1, h2, hk => by
    show bindL kindOf ((p, w) :: P.zip vs) m x = _
    unfold bindL
    exact bindL_get (i := i) (List.nodup_cons.mp nd).2 (by simpa using h1) (by simpa using h2) hk
theorem bindC_get {kindOf : Str → Option NameKind} {x : Str} {v : Value} : ∀ {P : List Str} {vs : List Value} {i : Nat} {m : Str → Option Value}, P.Nodup → P[i]? = some x → vs[i]? = some v → kindOf x ≠ some .local →
    bindC kindOf (P.zip vs) m x = some v
  | [], _, _, _, _, h, _, _ => by simp at h
  | _ :: _, [], _, _, _, _, h, _ => by simp at h
  | p :: P, w :: vs, 0, m, nd, h1, h2, hk => by
    simp at h1 h2; subst h1; subst h2
    show bindC kindOf ((p, w) :: P.zip vs) m p = _
    unfold bindC
    rw [bindC_out fun v hv => (List.nodup_cons.mp nd).1 (List.of_mem_zip hv).1, if_neg hk]
    simp
  | p :: P, w :: vs, i + 1, m, nd, h1, h2, hk => by
    show bindC kindOf ((p, w) :: P.zip vs) m x = _
    unfold bindC
    exact bindC_get (i := i) (List.nodup_cons.mp nd).2 (by simpa using h1) (by simpa using h2) hk

/-- the names' values at the entry -/
def start (N : List Str) (vs : List V) : St := vs.map some ++ List.replicate (N.length - vs.length) none

/-- the context of a def's body, at its entry; an exception leaves the frame, then lies as CX says -/
def cxOf (CX : CXT) (P : Program) (w : World) (K : PySem.W.Frag) (mg : Str → Option Value) (base : Heap) (N : List Str) (qual : Str) (scope : Scope) (f : Addr) (cd : Value) (A : Around) (outer : List Env) (s : Shared) (H : Hp) (E : XK) : Cx where
  prog := P
  w := w
  K := K
  mg := mg
  base := base
  A := A.deeper (envOfC qual scope s.heap.objs.size f cd)
  N := N
  s₀ := s
  H₀ := H
  env := envOfC qual scope s.heap.objs.size f cd
  outer := outer
  stack := envOfC qual scope s.heap.objs.size f cd :: outer
  ex := []
  calm := true
  fn := fun _ => true
  pn := []
  xe := fun e s' => wpAny (model P w) (A.deeper (envOfC qual scope s.heap.objs.size f cd)) (leaving (envOfC qual scope s.heap.objs.size f cd) e) (fun _ s'' => CX outer H s E e s'') (fun e' s'' => CX outer H s E e' s'') s'

theorem cell_has {sc : Scope} {n : Nat} {x : Str} (h : sc.names.lookup x = some .cell) : ∃ c, (cellsFrom n sc.names []).lookup x = some c := by
  have q := PySem.W.cellsFrom_some sc.names n [] (.inl h)
  exact Option.isSome_iff_exists.mp q

theorem inv_start {CX : CXT} {P : Program} {w : World} {K : PySem.W.Frag} {mg : Str → Option Value} {base : Heap} {N ps : List Str} {qual : Str} {scope : Scope} {f : Addr} {cd : Value} {A : Around} {outer : List Env} {s s1 : Shared} {H : Hp} {E : XK} {us : List Value} {vs : List V}
    (S : FnScope N ps scope) (hd : A.handled = none) (e0 : Env0 P w K mg base A outer s H) (hl : vs.length = ps.length) (r : Vals vs us)
    (x : InCallC s s.heap.objs.size (bindL (envOfC qual scope s.heap.objs.size f cd).kindOf (ps.zip us) fun _ => none) (cellsFrom (s.heap.objs.size + 1) scope.names []) (bindC (envOfC qual scope s.heap.objs.size f cd).kindOf (ps.zip us) fun _ => none) s1) :
    Inv (cxOf CX P w K mg base N qual scope f cd A outer s H E) [] (start N vs) H s1 := by
  have hpl : ps.length ≤ N.length := by have := congrArg List.length S.pre; rw [List.length_take] at this; omega
  obtain ⟨h1, tk, rfl, hk⟩ := x.done
  have noA : ∀ b : Addr, b ∉ (cxOf CX P w K mg base N qual scope f cd A outer s H E).ex := fun b z => absurd (show b ∈ ([] : List Addr) from z) (by simp)
  refine ⟨⟨e0.mod, S.kind, rfl, rfl, Nat.le_refl _, fun y z c h1 h2 => ?_, fun y hy => ?_, fun y c _ h => ?_, fun _ => hd, Around.frames_deeper e0.frames, .inr ⟨rfl, rfl⟩, fun b z => absurd z (noA b), e0.bs, e0.bsz, fun b _ _ => noA b, fun b z => absurd z (noA b), e0.funs, e0.frf⟩,
    rfl, e0.bare, Un.kept hk, ⟨_, x.toInCall.ns, fun i y v h1 h2 h3 => ?_⟩, fun y c h => ⟨_, x.cell y c h⟩, e0.hok.fresh (Nat.le_refl _), fun y c h => ?_, fun p hp => absurd (show p ∈ ([] : List (Addr × Obj)) from hp) (by simp), e0.hok.kept hk, ?_⟩
  · exact name_of_addr x.apart (PySem.mem_of_lookup h1) (PySem.mem_of_lookup h2)
  · have hy : scope.names.lookup y = some .cell ∨ scope.names.lookup y = some .free := hy
    rcases hy with hy | hy
    · exact cell_has hy
    · exact absurd rfl (S.nofree _ (PySem.mem_of_lookup hy))
  · exact Nat.le_of_lt (x.above y c (PySem.mem_of_lookup h))
  · have hi : i < vs.length := by
      unfold start at h2
      by_cases hi : i < vs.length
      · exact hi
      · rw [List.getElem?_append_right (by simpa using hi)] at h2
        rw [List.getElem?_replicate] at h2
        split at h2 <;> cases h2
    have ha : vs[i]? = some v := by
      unfold start at h2
      rw [List.getElem?_append_left (by simpa using hi), List.getElem?_map] at h2
      cases e : vs[i]? with
      | none => rw [e] at h2; cases h2
      | some a => rw [e] at h2; cases h2; rfl
    obtain ⟨u, hu, rv⟩ := r.get ha
    have hp : ps[i]? = some y := by
      rw [← S.pre, List.getElem?_take_of_lt (by omega)]; exact h1
    have ndP : ps.Nodup := by rw [← S.pre]; exact S.nd.sublist (List.take_sublist _ _)
    refine ⟨u, rv, ?_⟩
    rcases S.par y (List.mem_of_getElem? hp) with k | k
    · exact .inl ⟨k, bindL_get ndP hp hu k⟩
    · obtain ⟨c, e⟩ := cell_has (n := s.heap.objs.size + 1) k
      refine .inr ⟨.inl k, c, e, ?_⟩
      have q := x.cell y c e
      rw [bindC_get ndP hp hu (by show scope.names.lookup y ≠ _; rw [k]; decide)] at q
      exact q
  · exact e0.hok.fresh (Nat.le_of_lt (x.above y c (PySem.mem_of_lookup h)))
  · unfold start
    show _ = N.length
    rw [List.length_append, List.length_map, List.length_replicate]
    omega

/-- THE RULE: a def (or a method) of the text, by its body. The body's reading t is chosen for each entry; it is run at the parameters' values -/
theorem fn_of {CX : CXT} {P : Program} {w : World} {K : PySem.W.Frag} {mg : Str → Option Value} {base : Heap} {k : Nat} {f : Addr} {name qual : Str} {params : Arguments} {body : List Stmt} {scope : Scope} {dV kV doc pm cdv ct oc : Value} {an od : Option Addr}
    {osl : Array (Option Value)} {N ps : List Str} {sp : Sp} (lk : K.lookup f = some ⟨oc, od, .func (PySem.W.fnOf name qual params body scope dV kV doc pm an cdv ct), osl⟩) (hcd : PySem.W.codeIn K cdv qual = true) (S : FnScope N ps scope)
    (len : ∀ vs H Q E, sp vs H Q E → vs.length = ps.length)
    (hbody : ∀ (A : Around) (outer : List Env) (s : Shared) (H : Hp) (vs : List V) (Q : VK) (E : XK), Room k (A.deeper (envOfC qual scope s.heap.objs.size f cdv)) → sp vs H Q E →
      ∃ t, PSs (cxOf CX P w K mg base N qual scope f cdv A outer s H E) body t ∧ t { nx := fun _ H' => Q .non H', rt := Q } (start N vs) H) :
    FnOk P w K mg base CX (k + 1) f (PySem.W.fnOf name qual params body scope dV kV doc pm an cdv ct) ps sp := by
  refine ⟨len, fun A outer s H args us vs Q E hr e0 hb r hsp => ?_⟩
  have hl := len _ _ _ _ hsp
  have KX : K.In s.heap := e0.mod.kin.keeps fun b o e => (e0.bs b o e).1
  have lim : s.heap.NoLimit := e0.mod.nolimit.keeps fun b o e => (e0.bs b o e).1
  have hkind : ∀ y ∈ ps.zip us, scope.names.lookup y.1 = some .local ∨ (scope.names.lookup y.1 = some .cell ∧ ((cellsFrom (s.heap.objs.size + 1) scope.names []).lookup y.1).isSome = true) := fun ⟨n, v⟩ hy => by
    rcases S.par n (List.of_mem_zip hy).1 with q | q
    · exact .inl q
    · exact .inr ⟨q, PySem.W.cellsFrom_some _ _ _ (.inl q)⟩
  refine codeAny_call_function hr.depth (KX _ _ lk) rfl S.co S.gen rfl (PySem.W.codeRec_of KX hcd) (hb _ _ _ _ ?_)
  refine wpAny_newFunctionEnv_cells S.kind hkind fun env he s1 x => ?_
  subst he
  refine ⟨lim.keeps x.toInCall.keep, codeAny_func ?_⟩
  obtain ⟨t, ht, hq⟩ := hbody A outer s H vs Q E (hr.deeper _) hsp
  have I : Inv (cxOf CX P w K mg base N qual scope f cdv A outer s H E) [] (start N vs) H s1 := inv_start S hr.hd e0 hl r x
  refine wpAny_mono (ht [] s1 (start N vs) H _ I hq) (fun fl s' hs => ?_) fun e s' hs => hs
  have fin : ∀ {σ' : St} {H' : Hp} {v : V} {u : Value}, Inv (cxOf CX P w K mg base N qual scope f cdv A outer s H E) [] σ' H' s' → RelV v u → Q v H' → CE outer P w H s Q u s' :=
    fun {σ' H' v u} J rv q => ⟨v, H', J.os, J.bare, J.base, J.hok, rv, q⟩
  cases fl with
  | ret u =>
    obtain ⟨v, σ', H', J, rv, q⟩ := hs
    exact fin J rv q
  | next =>
    obtain ⟨σ', H', J, q⟩ := hs
    exact fin (v := V.non) (u := Value.none) J rfl q
  | brk =>
    obtain ⟨_, _, _, q⟩ := hs
    exact False.elim q
  | cont =>
    obtain ⟨_, _, _, q⟩ := hs
    exact False.elim q
end L2

namespace L2
open PySem PySem.Spec PyProof.Rows
section
variable {X : Cx} {x : Str} {p pos : Pos} {e : Expr} {es : List Expr} {t : TA} {id T : String} {r : List V → Hp → VK → Prop}

def tCB (r : List V → Hp → VK → Prop) (t : TA) : TE := fun σ H Q => t σ H fun vs H1 => r vs H1 Q
/-- f(e, ..), f a built-in function -/
theorem pe_callB (hc : CallR X (.builtin id) r) (hg : Gl X x) (hm : X.mg x = none) (hv : bootBuiltins x = some (.builtin id)) (ha : PA X (e :: es) t) (hn : x ≠ "__name__" := by decide) (hdb : (x == ("__debug__" : Str)) = false := by decide)
    (he : starEach (e :: es) X.env = (false, eval e X.env) :: starEach es X.env := by rfl) (hpl : (backTo pos (starEach es X.env)).any (·.1) = false := by rfl) : PE X (.Call (.Name x p) (e :: es) [] pos) (tCB r t) := by
  intro pins s σ H Q I h
  refine wpAny_Call_Name_kw (ld_blt I hg hm hv ?_ hn hdb)
  exact PyProof.Rows.callWith_builtin1 (thn (ha pos pins s σ H _ I h) fun us s1 ⟨vs, H1, I1, r1, q1⟩ => hc pins s1 σ H1 vs us Q I1 r1 q1) he hpl
/-- T(e, ..), T a built-in type -/
theorem pe_callTy (hc : CallR X (.type T) r) (hg : Gl X x) (hm : X.mg x = none) (hv : bootBuiltins x = some (.type T)) (ha : PA X (e :: es) t) (hn : x ≠ "__name__" := by decide) (hdb : (x == ("__debug__" : Str)) = false := by decide)
    (he : starEach (e :: es) X.env = (false, eval e X.env) :: starEach es X.env := by rfl) (hpl : (backTo pos (starEach es X.env)).any (·.1) = false := by rfl) : PE X (.Call (.Name x p) (e :: es) [] pos) (tCB r t) := by
  intro pins s σ H Q I h
  refine wpAny_Call_Name_kw (ld_blt I hg hm hv ?_ hn hdb)
  exact PyProof.Rows.callWith_type1 (thn (ha pos pins s σ H _ I h) fun us s1 ⟨vs, H1, I1, r1, q1⟩ => hc pins s1 σ H1 vs us Q I1 r1 q1) he hpl
end
end L2

namespace HT
open PySem PyProof.Rows

section
open PySem.SeqAt
open PySem.AutoSeq1 (wpAny_loadPart')
open PySem.MeetsSeq PySem.MeetsSeq2 PySem.MeetsSeq3

end

section
variable {prog : Program} {w : World} {A : Around} {E : Value → Shared → Prop} {s : Shared}

/-! ### t[a:b], not the whole -/
/-- a slice's bound as a place among n (d where it is left out) -/
def sIx (n d : Nat) : Option Int → Nat
  | none => d
  | some v => if v < 0 then (v + (n : Int)).toNat else min v.toNat n
theorem sIx_none (n d : Nat) : sIx n d none = d := rfl
theorem sIx_nat (n d k : Nat) : sIx n d (some (k : Int)) = min k n := by
  show (if (k : Int) < 0 then ((k : Int) + (n : Int)).toNat else min (k : Int).toNat n) = min k n
  rw [if_neg (by omega), Int.toNat_natCast]
end
end HT

namespace L2
open PySem PySem.Spec PyProof.Rows

/-! ### the parts of a slice -/
abbrev TO := St → Hp → (Option Int → Hp → Prop) → Prop
/-- a slice's part (left out, or an int) -/
def PO (X : Cx) (e : Option Expr) (t : TO) : Prop :=
  ∀ (pins : List (Addr × Obj)) (s : Shared) (σ : St) (H : Hp) (Q : Option Int → Hp → Prop), Inv X pins σ H s → t σ H Q →
    wpAny (model X.prog X.w) X.A (evalPart e X.env) (fun u s' => ∃ o H', Inv X pins σ H' s' ∧ IsPart u o ∧ Q o H') X.xe s
def tNoPart : TO := fun _ H Q => Q none H
def tPart (t : TE) : TO := fun σ H Q => t σ H fun x H1 => ∃ i, x = .int i ∧ Q (some i) H1

section
variable {X : Cx} {e : Expr} {te : TE} {lo hi : Option Expr} {tl th : TO} {pos p2 : Pos}

theorem po_none : PO X none tNoPart := by
  intro pins s σ H Q I h
  rw [evalPart_none]
  exact wpAny_pure ⟨none, H, I, .none, h⟩
theorem po_some (h : PE X e te) : PO X (some e) (tPart te) := by
  intro pins s σ H Q I hw
  rw [evalPart_some]
  refine thn (h pins s σ H _ I hw) fun u s1 ⟨x, H1, I1, r1, q1⟩ => ?_
  obtain ⟨i, rfl, q⟩ := q1
  obtain ⟨t, rfl⟩ := r1
  exact ⟨some i, H1, I1, .int i t, q⟩

/-- what a slice of a value is, by values: the slice object stands at sl -/
def SlR (X : Cx) (r : V → Option Int → Option Int → Hp → VK → Prop) : Prop :=
  ∀ (pins : List (Addr × Obj)) (s : Shared) (σ : St) (H : Hp) (x : V) (v vl vu : Value) (lo hi : Option Int) (sl : Addr) (Q : VK), Inv X pins σ H s → RelV x v → s.heap.IsSliceOf sl vl vu .none → IsPart vl lo → IsPart vu hi → r x lo hi H Q →
    ∃ T id, typeLookup (.type T) "__getitem__" = pure (some (.builtin id)) ∧ s.TypeIs v T ∧ wpAny (model X.prog X.w) X.A (getItem v (.ref sl)) (EP X pins σ Q) X.xe s
theorem SlR.or {r r' : V → Option Int → Option Int → Hp → VK → Prop} (h : SlR X r) (h' : SlR X r') : SlR X (fun x lo hi H Q => r x lo hi H Q ∨ r' x lo hi H Q) := by
  intro pins s σ H x v vl vu lo hi sl Q I rx hs pl pu q
  rcases q with q | q
  · exact h pins s σ H x v vl vu lo hi sl Q I rx hs pl pu q
  · exact h' pins s σ H x v vl vu lo hi sl Q I rx hs pl pu q
def tSl (r : V → Option Int → Option Int → Hp → VK → Prop) (te : TE) (tl th : TO) : TE := fun σ H Q => te σ H fun x H1 => tl σ H1 fun l H2 => th σ H2 fun u H3 => r x l u H3 Q
/-- a[lo:hi], any a -/
theorem pe_slice {r : V → Option Int → Option Int → Hp → VK → Prop} (hr : SlR X r) (he : PE X e te) (hl : PO X lo tl) (hu : PO X hi th) : PE X (.Subscript e (.Slice lo hi none p2) pos) (tSl r te tl th) := by
  intro pins s σ H Q I h
  refine Subscript_ (thn (he pins s σ H _ I h) fun v s1 ⟨x, H1, I1, r1, q1⟩ => ?_)
  refine wpAny_Slice (thn (hl pins s1 σ H1 _ I1 q1) fun vl s2 ⟨l, H2, I2, pl, q2⟩ => thn (hu pins s2 σ H2 _ I2 q2) fun vu s3 ⟨u, H3, I3, pu, q3⟩ => ?_)
  rw [evalPart_none]
  refine wpAny_pure ?_
  have I4 : Inv X pins σ H3 { s3 with heap := s3.heap.push { cls := .type "slice", data := .fields #[vl, vu, .none] } } := I3.kept (t' := s3.toks) fun b ob q => Heap.get?_push_of_some _ q
  obtain ⟨T, id, hT, ht, hg⟩ := hr pins { s3 with heap := s3.heap.push { cls := .type "slice", data := .fields #[vl, vu, .none] } } σ H3 x v vl vu l u s3.heap.objs.size Q I4 r1 (Heap.IsSliceOf.new ..) pl pu q3
  show wpAny (model X.prog X.w) X.A (subscriptTail e (.Slice lo hi none p2) v (.ref s3.heap.objs.size)) (EP X pins σ Q) X.xe { s3 with heap := s3.heap.push { cls := .type "slice", data := .fields #[vl, vu, .none] } }
  exact tail_any (ops := [.ref s3.heap.objs.size, v]) ht hT hg (by with_unfolding_all rfl)

/-- the items of xs[lo:hi] -/
def cutV (xs : List V) (lo hi : Option Int) : List V := (xs.drop (HT.sIx xs.length 0 lo)).take (HT.sIx xs.length xs.length hi - HT.sIx xs.length 0 lo)
theorem cutV_length (xs : List V) (lo hi : Option Int) : (cutV xs lo hi).length ≤ xs.length := by
  unfold cutV
  rw [List.length_take, List.length_drop]
  omega
/-! ### t < u, t + u -/
end
end L2

namespace L2
open PySem PySem.Spec PyProof.Rows

/-! ### places -/
/-- the place that an index of any sign means -/
def ixN (n : Nat) (i : Int) : Option Nat := if 0 ≤ i then (if i < n then some i.toNat else none) else if -(n : Int) ≤ i then some (i + n).toNat else none
def atI {α : Type} (xs : List α) (i : Int) : Option α := (ixN xs.length i).bind fun j => xs[j]?
theorem ixN_seq {n : Nat} {i : Int} {j : Nat} (h : ixN n i = some j) : seqIndex? i n = some j ∧ j < n ∧ -(n : Int) ≤ i ∧ i < n := by
  unfold ixN at h
  by_cases h0 : 0 ≤ i
  · rw [if_pos h0] at h
    by_cases h1 : i < n
    · rw [if_pos h1] at h
      have e : i.toNat = j := Option.some.inj h
      exact ⟨by rw [seqIndex_of h0 h1, e], by omega, by omega, h1⟩
    · rw [if_neg h1] at h; cases h
  · rw [if_neg h0] at h
    by_cases h1 : -(n : Int) ≤ i
    · rw [if_pos h1] at h
      have e : (i + n).toNat = j := Option.some.inj h
      exact ⟨by rw [seqIndex_neg (by omega) h1, e], by omega, h1, by omega⟩
    · rw [if_neg h1] at h; cases h
theorem atI_get {α : Type} {xs : List α} {i : Int} {v : α} (h : atI xs i = some v) : ∃ j, seqIndex? i xs.length = some j ∧ xs[j]? = some v ∧ j < xs.length ∧ -(xs.length : Int) ≤ i ∧ i < xs.length := by
  unfold atI at h
  cases e : ixN xs.length i with
  | none => rw [e] at h; cases h
  | some j =>
    rw [e] at h
    obtain ⟨h1, h2, h3, h4⟩ := ixN_seq e
    exact ⟨j, h1, h, h2, h3, h4⟩
theorem atI_nat {α : Type} {xs : List α} {j : Nat} {v : α} (h : xs[j]? = some v) : atI xs (j : Int) = some v := by
  have hj : j < xs.length := (List.getElem?_eq_some_iff.mp h).1
  have e : ixN xs.length (j : Int) = some j := by
    unfold ixN
    rw [if_pos (by omega), if_pos (by omega)]; simp
  unfold atI; rw [e]; exact h
/-! ### what may be subscripted -/
/-- what stands as an index of a plain subscript -/
def PlainIx (b : Expr) : Prop := ∀ o i, subscripted b false o i = operate [o, i] (getItem o i)
/-- a subscript by values -/
def IxR (X : Cx) (r : R2) : Prop :=
  ∀ (value slice : Expr) (pins : List (Addr × Obj)) (s : Shared) (σ : St) (H : Hp) (x y : V) (v u : Value) (Q : VK), Inv X pins σ H s → RelV x v → RelV y u → r x y H Q →
    subscripted slice false v u = operate [v, u] (getItem v u) → wpAny (model X.prog X.w) X.A (subscriptTail value slice v u) (EP X pins σ Q) X.xe s
/-- a call of a builtin's method by values: the receiver, the arguments -/
def MtR (X : Cx) (id : String) (r : V → List V → Hp → VK → Prop) : Prop :=
  ∀ (pins : List (Addr × Obj)) (s : Shared) (σ : St) (H : Hp) (x : V) (xs : List V) (v : Value) (us : List Value) (Q : VK), Inv X pins σ H s → RelV x v → Vals xs us → r x xs H Q →
    wpAny (model X.prog X.w) X.A (call (.builtin id) (v :: us)) (EP X pins σ Q) X.xe s
section
variable {X : Cx} {a b : Expr} {ta tb : TE} {pos : Pos}
theorem IxR.or {r r' : R2} (h : IxR X r) (h' : IxR X r') : IxR X (fun x y H Q => r x y H Q ∨ r' x y H Q) := by
  intro value slice pins s σ H x y v u Q I rx ry q hs
  rcases q with q | q
  · exact h value slice pins s σ H x y v u Q I rx ry q hs
  · exact h' value slice pins s σ H x y v u Q I rx ry q hs
theorem MtR.or {id : String} {r r' : V → List V → Hp → VK → Prop} (h : MtR X id r) (h' : MtR X id r') : MtR X id (fun x xs H Q => r x xs H Q ∨ r' x xs H Q) := by
  intro pins s σ H x xs v us Q I rx rs q
  rcases q with q | q
  · exact h pins s σ H x xs v us Q I rx rs q
  · exact h' pins s σ H x xs v us Q I rx rs q
/-- a[b] -/
theorem pe_ix {r : R2} (hr : IxR X r) (ha : PE X a ta) (hb : PE X b tb) (hs : PlainIx b) : PE X (.Subscript a b pos) (tOp r ta tb) := by
  intro pins s σ H Q I h
  exact Subscript_ (binT ha hb I h fun v u s2 x y H2 I2 rx ry q => hr a b pins s2 σ H2 x y v u Q I2 rx ry q (hs _ _))

def rIxL (K : PySem.W.Frag) : R2 := fun x y H Q => ∃ p xs i v, x = .ref p ∧ y = .int i ∧ SqL K H p xs ∧ atI xs i = some v ∧ Q v H
def rIxT (K : PySem.W.Frag) : R2 := fun x y H Q => ∃ p xs i v, x = .ref p ∧ y = .int i ∧ SqT K H p xs ∧ atI xs i = some v ∧ Q v H
def rIxS : R2 := fun x y H Q => ∃ z i c, x = .str z ∧ y = .int i ∧ z.length ≤ sizeLine ∧ atI z.cps.toList i = some c ∧ Q (.str ⟨#[c]⟩) H
theorem ix_list : IxR X (rIxL X.K) := by
  intro value slice pins s σ H x y v u Q I rx ry h hs
  obtain ⟨p, xs, i, z, rfl, rfl, hq, he, q⟩ := h
  cases rx
  obtain ⟨t, rfl⟩ := ry
  obtain ⟨its, r, pl, hz⟩ := I.list hq
  obtain ⟨j, h1, h2, h3, h4, h5⟩ := atI_get he
  obtain ⟨w, ew, rw'⟩ := r.get h2
  have hl := r.length
  have hn := line63
  have fin : EP X pins σ Q w s := ⟨z, H, I, rw', q⟩
  by_cases h0 : 0 ≤ i
  · have hj : i.toNat = j := by
      rw [seqIndex_of h0 h5] at h1
      exact Option.some.inj h1
    exact item_listR pl.isList h0 (by omega) (by rw [hj]; simpa using ew) fin hs
  · have hj : (i + (its.toArray.size : Int)).toNat = j := by
      rw [seqIndex_neg (by omega) h4] at h1
      rw [List.size_toArray, ← hl]
      exact Option.some.inj h1
    exact subscriptTail_builtinR (x := w) pl.isList.typeIs slot_list_getitem.lookup
      (wpAny_getItem_list_neg (Q := fun r s' => r = w ∧ EP X pins σ Q r s') pl.isList (by omega) (by rw [List.size_toArray] <;> omega) (by omega) (by rw [hj]; simpa using ew) ⟨rfl, fin⟩) hs
theorem ix_tup : IxR X (rIxT X.K) := by
  intro value slice pins s σ H x y v u Q I rx ry h hs
  obtain ⟨p, xs, i, z, rfl, rfl, hq, he, q⟩ := h
  cases rx
  obtain ⟨t, rfl⟩ := ry
  obtain ⟨its, r, pl, hz⟩ := I.tuple hq
  obtain ⟨j, h1, h2, h3, h4, h5⟩ := atI_get he
  obtain ⟨w, ew, rw'⟩ := r.get h2
  have hl := r.length
  have hn := line63
  have fin : EP X pins σ Q w s := ⟨z, H, I, rw', q⟩
  exact subscriptTail_builtinR (x := w) pl.typeIs slot_tuple_getitem.lookup
    (getItem_tuple (j := j) (Q := fun r s' => r = w ∧ EP X pins σ Q r s') pl (by omega) (by omega) (by rw [List.size_toArray, ← hl]; exact h1) (by simpa using ew) ⟨rfl, fin⟩) hs
theorem ix_str : IxR X rIxS := by
  intro value slice pins s σ H x y v u Q I rx ry h hs
  obtain ⟨z, i, c, rfl, rfl, hz, he, q⟩ := h
  obtain ⟨t, rfl⟩ := rx
  obtain ⟨t', rfl⟩ := ry
  obtain ⟨j, h1, h2, h3, h4, h5⟩ := atI_get he
  have hl : z.cps.toList.length = z.length := by simp [Str.length]
  rw [hl] at h1 h4 h5
  have hn := line63
  exact tail_any (typeIs_str s z t) slot_str_getitem.lookup (getItem_str (c := c) (by
    have e1 : decide (i < -(2 ^ 63 : Int)) = false := decide_eq_false (by omega)
    have e2 : decide (i ≥ 2 ^ 63) = false := decide_eq_false (by omega)
    rw [e1, e2, Bool.or_false]) (by rw [h1]; simpa using h2) ⟨.str ⟨#[c]⟩, H, I.tok _, ⟨_, rfl⟩, q⟩) hs
/-- list, tuple or str -/
def rIx (K : PySem.W.Frag) : R2 := fun x y H Q => rIxL K x y H Q ∨ rIxT K x y H Q ∨ rIxS x y H Q
theorem ix_seq : IxR X (rIx X.K) := ix_list.or (ix_tup.or ix_str)

/-! ### xs[i] = v, any sign -/
/-- the list's object behind a store -/
theorem mapSeq_set (its : List Value) (n j : Nat) (u : Value) : Obj.mapSeq (·.setIfInBounds j u) { cls := .type "list", data := .seq its.toArray n } = { cls := .type "list", data := .seq (its.set j u).toArray n } := by
  simp [Obj.mapSeq]
theorem Inv.lst {pins : List (Addr × Obj)} {σ : St} {H : Hp} {s : Shared} {p : Addr} {xs : List V} (I : Inv X pins σ H s) (h : H p = some (.lst xs)) :
    ∃ (its : List Value) (n : Nat), Vals xs its ∧ s.heap.get? p = some { cls := .type "list", data := .seq its.toArray n } ∧ xs.length ≤ sizeLine := by
  obtain ⟨z, its, n, r, e⟩ := I.hok p _ h
  exact ⟨its, n, r, e, z⟩
/-- the list at p is written by an update of its object -/
theorem Inv.lstUpd {pins : List (Addr × Obj)} {σ : St} {H : Hp} {s : Shared} {p : Addr} {xs ys : List V} {its its' : List Value} {n n' : Nat} {f : Obj → Obj} (I : Inv X pins σ H s) (h : H p = some (.lst xs))
    (ho : s.heap.get? p = some { cls := .type "list", data := .seq its.toArray n }) (hf : f { cls := .type "list", data := .seq its.toArray n } = { cls := .type "list", data := .seq its'.toArray n' }) (r : Vals ys its') (hz : ys.length ≤ sizeLine) (t : Nat) :
    Inv X pins σ (upd H p (.lst ys)) { s with heap := s.heap.update p f, toks := t } := by
  have e : (s.heap.update p f).get? p = some { cls := .type "list", data := .seq its'.toArray n' } := by
    rw [Heap.get?_update_self f ho (by rw [hf] <;> rfl), hf]
  refine I.write (x := p) (e := p) (by rw [h]; trivial) (.inl rfl) (fun b u hb q => (Heap.get?_update_other _ _ (Ne.symm hb)).trans q) ⟨_, e⟩ ?_
  exact ⟨hz, its', n', r, e⟩
def rSetL : V → V → V → Hp → (Hp → Prop) → Prop := fun o i v H Q => ∃ p xs k j, o = .ref p ∧ i = .int k ∧ H p = some (.lst xs) ∧ ixN xs.length k = some j ∧ Q (upd H p (.lst (xs.set j v)))
theorem set_list : PSet X rSetL := by
  intro pins s σ H o i v ov iv u Q I ro ri rv h
  obtain ⟨p, xs, k, j, rfl, rfl, hp, hj, q⟩ := h
  cases ro
  obtain ⟨t, rfl⟩ := ri
  obtain ⟨its, n, r, ho, hz⟩ := I.lst hp
  obtain ⟨h1, h2, h3, h4⟩ := ixN_seq hj
  have hl := r.length
  have hn := line63
  have I' : Inv X pins σ (upd H p (.lst (xs.set j v))) { s with heap := s.heap.update p (Obj.mapSeq (·.setIfInBounds j u)) } :=
    I.lstUpd hp ho (mapSeq_set its n j u) (r.set rv j) (by rw [List.length_set]; exact hz) s.toks
  by_cases h0 : 0 ≤ k
  · have hk : k.toNat = j := by
      rw [seqIndex_of h0 h4] at h1
      exact Option.some.inj h1
    exact PySem.W.ki_setAt ho h0 (by omega) (by rw [List.size_toArray, ← hl]; exact h4) (by rw [hk]; exact ⟨_, I', q⟩)
  · have hk : (k + (its.toArray.size : Int)).toNat = j := by
      rw [seqIndex_neg (by omega) h3] at h1
      rw [List.size_toArray, ← hl]
      exact Option.some.inj h1
    exact PySem.W.ki_setBack ho (by omega) (by rw [List.size_toArray, ← hl]; exact h3) (by omega) (by rw [hk]; exact ⟨_, I', q⟩)

/-! ### slices -/
theorem slice_bounds (lo hi : Option Int) (n : Nat) : (sliceBounds lo hi none n).1 = ((HT.sIx n 0 lo : Nat) : Int) ∧ (sliceBounds lo hi none n).2.1 = ((HT.sIx n n hi : Nat) : Int) ∧ (sliceBounds lo hi none n).2.2 = 1 := by
  refine ⟨?_, ?_, rfl⟩
  · cases lo with
    | none => simp [sliceBounds, HT.sIx]
    | some i =>
      simp only [sliceBounds, HT.sIx, Option.getD_none, show (1 : Int) > 0 by decide, if_true]
      by_cases h : i < 0
      · simp only [h, if_true] <;> omega
      · simp only [h, if_false] <;> omega
  · cases hi with
    | none => simp [sliceBounds, HT.sIx]
    | some i =>
      simp only [sliceBounds, HT.sIx, Option.getD_none, show (1 : Int) > 0 by decide, if_true]
      by_cases h : i < 0
      · simp only [h, if_true] <;> omega
      · simp only [h, if_false] <;> omega
theorem slicePick_cut (its : List Value) (lo hi : Option Int) : slicePick its.toArray lo hi none = ((its.drop (HT.sIx its.length 0 lo)).take (HT.sIx its.length its.length hi - HT.sIx its.length 0 lo)).toArray := by
  obtain ⟨h1, h2, h3⟩ := slice_bounds lo hi its.toArray.size
  unfold slicePick
  rw [h1, h2, h3]
  simp only [sliceRange_one, pick_run, List.size_toArray] <;> rfl
/-- xs[lo:hi] of a list: a new list -/
def rSlL (K : PySem.W.Frag) : V → Option Int → Option Int → Hp → VK → Prop := fun x lo hi H Q => ∃ a xs, x = .ref a ∧ SqL K H a xs ∧ ∀ p, H p = none → Q (.ref p) (upd H p (.lst (cutV xs lo hi)))
theorem sl_list : SlR X (rSlL X.K) := by
  intro pins s σ H x v vl vu lo hi sl Q I rx hs pl pu h
  obtain ⟨a, xs, rfl, hx, q⟩ := h
  cases rx
  obtain ⟨its, r, ht, hz⟩ := I.list hx
  have hlen := r.length
  refine ⟨"list", _, slot_list_getitem.lookup, ht.isList.typeIs, ?_⟩
  refine wpAny_getItem_list_slice ht.isList hs pl pu .none (by simp) ?_ (by rw [List.size_toArray] <;> omega)
  rw [slicePick_cut, ← hlen]
  refine ⟨.ref s.heap.objs.size, _, I.laid (t' := s.toks) (o := .lst (cutV xs lo hi)) (fun b ob q => Heap.get?_push_of_some _ q) (Nat.le_refl _) ?_, rfl, q _ (I.hok.fresh (Nat.le_refl _))⟩
  exact ⟨Nat.le_trans (cutV_length xs lo hi) hz, _, 0, (r.drop (HT.sIx xs.length 0 lo)).take (HT.sIx xs.length xs.length hi - HT.sIx xs.length 0 lo), Heap.get?_push_size _ rfl⟩

/-! ### in, not in: flat items -/
def flatV : V → Bool
  | .non => true
  | .bl _ => true
  | .int _ => true
  | .str _ => true
  | _ => false
/-- == of flat values -/
def eqV : V → V → Bool
  | .non, .non => true
  | .bl a, .bl b => a == b
  | .bl a, .int b => (if a then 1 else 0) == b
  | .int a, .bl b => a == (if b then 1 else 0)
  | .int a, .int b => a == b
  | .str a, .str b => a == b
  | _, _ => false
theorem eqAt_V {A : Around} {s : Shared} {y x : V} {u v : Value} (ry : RelV y u) (rx : RelV x v) (fy : flatV y = true) (fx : flatV x = true) : SeqAt.EqAt A s u v (eqV y x) := by
  cases y with
  | non =>
    cases ry
    cases x with
    | non => cases rx; exact SeqAt.EqAt.same _
    | bl b => cases rx; exact SeqAt.EqAt.none_bool b
    | int b => obtain ⟨t, rfl⟩ := rx; exact SeqAt.EqAt.none_int b t
    | str b => obtain ⟨t, rfl⟩ := rx; exact SeqAt.EqAt.none_str b t
    | _ => exact absurd (show false = true from fx) Bool.false_ne_true
  | bl a =>
    cases ry
    cases x with
    | non => cases rx; exact SeqAt.EqAt.bool_none a
    | bl b => cases rx; exact SeqAt.EqAt.bool_bool a b
    | int b => obtain ⟨t, rfl⟩ := rx; exact SeqAt.EqAt.bool_int a b t
    | str b => obtain ⟨t, rfl⟩ := rx; exact SeqAt.EqAt.bool_str a b t
    | _ => exact absurd (show false = true from fx) Bool.false_ne_true
  | int a =>
    obtain ⟨t', rfl⟩ := ry
    cases x with
    | non => cases rx; exact SeqAt.EqAt.int_none a t'
    | bl b => cases rx; exact SeqAt.EqAt.int_bool a t' b
    | int b => obtain ⟨t, rfl⟩ := rx; exact SeqAt.EqAt.int_int a t' b t
    | str b => obtain ⟨t, rfl⟩ := rx; exact SeqAt.EqAt.int_str a t' b t
    | _ => exact absurd (show false = true from fx) Bool.false_ne_true
  | str a =>
    obtain ⟨t', rfl⟩ := ry
    cases x with
    | non => cases rx; exact SeqAt.EqAt.str_none a t'
    | bl b => cases rx; exact SeqAt.EqAt.str_bool a t' b
    | int b => obtain ⟨t, rfl⟩ := rx; exact SeqAt.EqAt.str_int a t' b t
    | str b => obtain ⟨t, rfl⟩ := rx; exact SeqAt.EqAt.str_str a t' b t
    | _ => exact absurd (show false = true from fx) Bool.false_ne_true
  | _ => exact absurd (show false = true from fy) Bool.false_ne_true
/-- the items' answers, read off the values (a value's own answer does not lean on its token) -/
def eqU (x : V) (u : Value) : Bool := match u with
  | .none => eqV .non x
  | .bool b => eqV (.bl b) x
  | .int i _ => eqV (.int i) x
  | .str z _ => eqV (.str z) x
  | _ => false
theorem eqU_of {x y : V} {u : Value} (r : RelV y u) (f : flatV y = true) : eqU x u = eqV y x := by
  cases y with
  | non => cases r; rfl
  | bl b => cases r; rfl
  | int i => obtain ⟨t, rfl⟩ := r; rfl
  | str z => obtain ⟨t, rfl⟩ := r; rfl
  | _ => exact absurd (show false = true from f) Bool.false_ne_true
theorem any_eqU {x : V} : ∀ {xs : List V} {us : List Value}, Vals xs us → xs.all flatV = true → us.any (eqU x) = xs.any fun y => eqV y x
  | _, _, .nil, _ => rfl
  | y :: xs, u :: us, .cons r t, f => by
    rw [List.all_cons, Bool.and_eq_true] at f
    rw [List.any_cons, List.any_cons, eqU_of r f.1, any_eqU t f.2]
theorem mem_eqAt {A : Around} {s : Shared} {x : V} {v : Value} (rx : RelV x v) (fx : flatV x = true) : ∀ {xs : List V} {us : List Value}, Vals xs us → xs.all flatV = true → ∀ u ∈ us, SeqAt.EqAt A s u v (eqU x u)
  | _, _, .nil, _ => fun u hu => by cases hu
  | y :: xs, u :: us, .cons r t, f => fun u' hu => by
    rw [List.all_cons, Bool.and_eq_true] at f
    rcases List.mem_cons.mp hu with rfl | hu
    · rw [eqU_of r f.1]; exact eqAt_V r rx f.1 fx
    · exact mem_eqAt rx fx t f.2 u' hu
def inV (x : V) (xs : List V) : Bool := xs.any fun y => eqV y x
/-- x in a list or tuple of flat items -/
def rIn (K : PySem.W.Frag) (neg : Bool) : R2 := fun x y H Q => ∃ p xs, y = .ref p ∧ (SqL K H p xs ∨ SqT K H p xs) ∧ flatV x = true ∧ xs.all flatV = true ∧ Q (.bl (if neg then !inV x xs else inV x xs)) H
theorem op_in_seq : OpR X (compareOp .In) (rIn X.K false) := by
  intro pins s σ H x y v u Q I rx ry h
  obtain ⟨p, xs, rfl, hq, fx, fs, q⟩ := h
  cases ry
  rcases hq with hq | hq
  · obtain ⟨its, r, pl, hz⟩ := I.list hq
    refine SeqAt.in_listAt (eqU x) pl.isList (fun w hw => mem_eqAt rx fx r fs w (by simpa using hw)) ⟨.bl _, H, I, rfl, ?_⟩
    rw [show its.toArray.any (eqU x) = its.any (eqU x) by simp, any_eqU r fs]
    exact q
  · obtain ⟨its, r, pl, hz⟩ := I.tuple hq
    refine SeqAt.in_tupleAt (eqU x) pl (fun w hw => mem_eqAt rx fx r fs w (by simpa using hw)) ⟨.bl _, H, I, rfl, ?_⟩
    rw [show its.toArray.any (eqU x) = its.any (eqU x) by simp, any_eqU r fs]
    exact q
theorem op_notIn_seq : OpR X (compareOp .NotIn) (rIn X.K true) := by
  intro pins s σ H x y v u Q I rx ry h
  obtain ⟨p, xs, rfl, hq, fx, fs, q⟩ := h
  cases ry
  rcases hq with hq | hq
  · obtain ⟨its, r, pl, hz⟩ := I.list hq
    refine SeqAt.notIn_listAt (eqU x) pl.isList (fun w hw => mem_eqAt rx fx r fs w (by simpa using hw)) ⟨.bl _, H, I, rfl, ?_⟩
    rw [show its.toArray.any (eqU x) = its.any (eqU x) by simp, any_eqU r fs]
    exact q
  · obtain ⟨its, r, pl, hz⟩ := I.tuple hq
    refine SeqAt.notIn_tupleAt (eqU x) pl (fun w hw => mem_eqAt rx fx r fs w (by simpa using hw)) ⟨.bl _, H, I, rfl, ?_⟩
    rw [show its.toArray.any (eqU x) = its.any (eqU x) by simp, any_eqU r fs]
    exact q
/-! ### len, list(x), tuple(x) of any list or tuple that is read -/
theorem call_len_seq : CallR X (.builtin "len") (fun xs H Q => ∃ p ys, xs = [.ref p] ∧ (SqL X.K H p ys ∨ SqT X.K H p ys) ∧ Q (.int ys.length) H) := by
  intro pins s σ H xs us Q I r h
  obtain ⟨p, ys, rfl, hq, q⟩ := h
  obtain ⟨u, rfl, rx⟩ := vals1 r
  cases rx
  have hn := line63
  rcases hq with hq | hq
  · obtain ⟨its, r', pl, hz⟩ := I.list hq
    have hlen := r'.length
    exact Calls.call_len_list pl.isList (by simp only [List.size_toArray] <;> omega) ⟨.int ys.length, H, I.tok _, ⟨s.toks + 1, by rw [List.size_toArray, hlen]⟩, q⟩
  · obtain ⟨its, r', pl, hz⟩ := I.tuple hq
    have hlen := r'.length
    exact len_tuple pl (by simp only [List.size_toArray] <;> omega) ⟨.int ys.length, H, I.tok _, ⟨s.toks + 1, by rw [List.size_toArray, hlen]⟩, q⟩
theorem call_len_str : CallR X (.builtin "len") (fun xs H Q => ∃ z, xs = [.str z] ∧ z.length ≤ sizeLine ∧ Q (.int z.length) H) := by
  intro pins s σ H xs us Q I r h
  obtain ⟨z, rfl, hz, q⟩ := h
  obtain ⟨u, rfl, t, rfl⟩ := vals1 r
  have hn := line63
  exact len_str (by omega) ⟨.int z.length, H, I.tok _, ⟨_, rfl⟩, q⟩
theorem CallR.or {f : Value} {r r' : List V → Hp → VK → Prop} (h : CallR X f r) (h' : CallR X f r') : CallR X f (fun xs H Q => r xs H Q ∨ r' xs H Q) := by
  intro pins s σ H xs us Q I rs q
  rcases q with q | q
  · exact h pins s σ H xs us Q I rs q
  · exact h' pins s σ H xs us Q I rs q
theorem call_list_of : CallR X (.type "list") (fun xs H Q => ∃ p ys, xs = [.ref p] ∧ (SqL X.K H p ys ∨ SqT X.K H p ys) ∧ ∀ l, H l = none → Q (.ref l) (upd H l (.lst ys))) := by
  intro pins s σ H xs us Q I r h
  obtain ⟨p, ys, rfl, hq, q⟩ := h
  obtain ⟨u, rfl, rx⟩ := vals1 r
  cases rx
  have fin : ∀ (its : List Value), Vals ys its → ys.length ≤ sizeLine → ∀ (h' : Heap) (c' : Nat), (∀ b o', s.heap.get? b = some o' → h'.get? b = some o') →
      h'.get? s.heap.objs.size = some { cls := .type "list", dict := none, data := .seq its.toArray c', slots := #[] } → EP X pins σ Q (.ref s.heap.objs.size) { s with heap := h' } := fun its r' hz h' c' kp e =>
    ⟨.ref s.heap.objs.size, _, I.laid (t' := s.toks) kp (Nat.le_refl _) (show ObjOk X.prog X.w _ h' _ (.lst ys) from ⟨hz, its, c', r', e⟩), rfl, q _ (I.hok.fresh (Nat.le_refl _))⟩
  rcases hq with hq | hq
  · obtain ⟨its, r', pl, hz⟩ := I.list hq
    have hlen := r'.length
    obtain ⟨o, ho, hc, n, hd⟩ := pl.isList
    exact call_list_seq p (.inl rfl) ho hc hd (fun h' c' kp e => fin its r' hz h' c' kp e) (by simp only [List.size_toArray] <;> omega)
  · obtain ⟨its, r', pl, hz⟩ := I.tuple hq
    have hlen := r'.length
    obtain ⟨o, ho, hc, n, hd⟩ := pl
    exact call_list_seq p (.inr rfl) ho hc hd (fun h' c' kp e => fin its r' hz h' c' kp e) (by simp only [List.size_toArray] <;> omega)
theorem call_tuple_of : CallR X (.type "tuple") (fun xs H Q => ∃ p ys, xs = [.ref p] ∧ ((SqL X.K H p ys ∧ ∀ l, H l = none → Q (.ref l) (upd H l (.tup ys))) ∨ (SqT X.K H p ys ∧ Q (.ref p) H))) := by
  intro pins s σ H xs us Q I r h
  obtain ⟨p, ys, rfl, h⟩ := h
  obtain ⟨u, rfl, rx⟩ := vals1 r
  cases rx
  rcases h with ⟨hq, q⟩ | ⟨hq, q⟩
  · obtain ⟨its, r', pl, hz⟩ := I.list hq
    have hlen := r'.length
    refine call_tuple_list pl.isList (fun h' kp => ?_) (by simp only [List.size_toArray] <;> omega)
    have I1 : Inv X pins σ H { s with heap := h' } := I.kept (t' := s.toks) kp
    have I2 : Inv X pins σ (upd H h'.objs.size (.tup ys)) { s with heap := h'.push { cls := .type "tuple", data := .seq its.toArray } } :=
      I1.laid (t' := s.toks) (fun b o e => Heap.get?_push_of_some _ e) (Nat.le_refl _) (show ObjOk X.prog X.w _ _ _ (.tup ys) from ⟨hz, its, r', IsTupN.new _ _⟩)
    exact ⟨.ref h'.objs.size, _, I2, rfl, q _ (I1.hok.fresh (Nat.le_refl _))⟩
  · obtain ⟨its, r', pl, hz⟩ := I.tuple hq
    exact call_tuple_same pl ⟨.ref p, H, I, rfl, q⟩

/-! ### the call of a builtin's method: o.m(..) -/
/-- the value is of that builtin type -/
def tyV (K : PySem.W.Frag) (T : String) (x : V) (H : Hp) : Prop := match x with
  | .str _ => T = "str"
  | .int _ => T = "int"
  | .ref p => (T = "list" ∧ ∃ xs, SqL K H p xs) ∨ (T = "tuple" ∧ ∃ o, K.lookup p = some o ∧ o.cls = .type "tuple" ∧ o.dict = none) ∨
      (T = "dict" ∧ ((∃ kvs, H p = some (.dK kvs)) ∨ ∃ kvs, H p = some (.dT kvs))) ∨ (T = "set" ∧ ∃ S n, H p = some (.set S n))
  | _ => False
theorem tyV_is {pins : List (Addr × Obj)} {σ : St} {H : Hp} {s : Shared} {T : String} {x : V} {v : Value} (I : Inv X pins σ H s) (r : RelV x v) (ty : tyV X.K T x H) :
    s.TypeIs v T ∧ ∀ a, v = .ref a → ∃ ob, s.heap.get? a = some ob ∧ ob.dict = none := by
  cases x with
  | str z =>
    obtain ⟨t, rfl⟩ := r
    cases (show T = "str" from ty)
    exact ⟨typeIs_str s z t, fun _ e => nomatch e⟩
  | int i =>
    obtain ⟨t, rfl⟩ := r
    cases (show T = "int" from ty)
    exact ⟨typeIs_int s i t, fun _ e => nomatch e⟩
  | ref p =>
    cases r
    rcases ty with ⟨rfl, xs, hq⟩ | ⟨rfl, o, hk, hc, hd⟩ | ⟨rfl, hk⟩ | ⟨rfl, S, n, hk⟩
    · obtain ⟨its, _, pl, _⟩ := I.list hq
      refine ⟨pl.isList.typeIs, fun a e => ?_⟩
      cases e
      obtain ⟨o, n, e, c, hd, _⟩ := pl
      exact ⟨o, e, hd⟩
    · refine ⟨⟨o, I.kIn p o hk, hc⟩, fun a e => ?_⟩
      cases e
      exact ⟨o, I.kIn _ o hk, hd⟩
    · have z : ∃ o, s.heap.get? p = some o ∧ o.ExactDict := by
        rcases hk with ⟨kvs, hk⟩ | ⟨kvs, hk⟩
        · obtain ⟨_, _, _, _, o, _, _, e, ex, _⟩ := I.hok p _ hk
          exact ⟨o, e, ex⟩
        · obtain ⟨_, _, _, _, o, _, _, e, ex, _⟩ := I.hok p _ hk
          exact ⟨o, e, ex⟩
      obtain ⟨o, e, ex⟩ := z
      refine ⟨⟨o, e, ex.1⟩, fun a e2 => ?_⟩
      cases e2
      exact ⟨o, e, ex.2.1⟩
    · obtain ⟨o, _, _, _, e, ex, _⟩ := I.hok p _ hk
      refine ⟨⟨o, e, ex.1⟩, fun a e2 => ?_⟩
      cases e2
      exact ⟨o, e, ex.2.1⟩
  | _ => exact False.elim ty
def tBM (K : PySem.W.Frag) (T : String) (r : V → List V → Hp → VK → Prop) (to : TE) (t : TA) : TE := fun σ H Q => to σ H fun x H1 => tyV K T x H1 ∧ t σ H1 fun xs H2 => r x xs H2 Q
variable {o e : Expr} {es : List Expr} {to : TE} {t : TA} {name : Str} {apos cpos : Pos} {T id : String} {r : V → List V → Hp → VK → Prop}
theorem pe_bm (pa : PlainAttrs T) (slot : Slot T name id) (hty : typeOf (.builtin id) = pure (.type "method_descriptor")) (hm : MtR X id r) (ho : PE X o to) (ha : PA X (e :: es) t)
    (hbase : attributeBase o name X.env (eval o X.env) = eval o X.env := by rfl)
    (hfew : ((backTo cpos (starEach (e :: es) X.env)).all (fun x => !x.1) && (backToKw cpos (keywordEach [] X.env)).all (fun x => x.1.isSome)
      && decide ((e :: es).length + ([] : List Keyword).length + (if ([] : List Keyword).isEmpty then 0 else 1) < 30)) = true := by rfl)
    (hline : (apos.endLine == cpos.line) = true := by rfl) (hs : starEach (e :: es) X.env = (false, eval e X.env) :: starEach es X.env := by rfl) (hplain : (backTo cpos (starEach es X.env)).any (·.1) = false := by rfl) :
    PE X (.Call (.Attribute o name apos) (e :: es) [] cpos) (tBM X.K T r to t) := by
  intro pins s σ H Q I h
  refine wpAny_Call_method_late hbase hfew hline rfl (thn (ho pins s σ H _ I h) fun v s1 ⟨x, H1, I1, r1, ty, q1⟩ => ?_)
  obtain ⟨h1, h2⟩ := tyV_is I1 r1 ty
  refine ⟨T, id, pa, slot, hty, h1, h2, ?_⟩
  have hA := ha cpos pins s1 σ H1 _ I1 q1
  rw [hs] at hA ⊢
  refine Calls.callWith_builtin (by show (false || (backTo cpos (starEach es X.env)).any (·.1)) = false; rw [hplain] <;> rfl) (Calls.evalArgs_plain ?_)
  exact thn hA fun us s2 ⟨vs, H2, I2, r2, q2⟩ => hm pins s2 σ H2 x vs v us Q I2 r1 r2 q2
/- xs.append(e), list.index on a module's tuple .. are MtR facts of 06m -/
end
end L2

namespace L2
open PySem PySem.Spec PyProof.Rows

def MtM (X : Cx) (id : String) (r : V → List V → Hp → VK → Prop) : Prop :=
  ∀ (pins : List (Addr × Obj)) (s : Shared) (σ : St) (H : Hp) (x : V) (xs : List V) (v : Value) (us : List Value) (Q : VK), Inv X pins σ H s → RelV x v → Vals xs us → r x xs H Q →
    wpAny (model X.prog X.w) X.A (call (.builtin id) (v :: us)) (EP X pins σ Q) X.xe s

/-! ### lists of values -/
theorem Vals.one : ∀ {x : V} {us : List Value}, Vals [x] us → ∃ u, us = [u] ∧ RelV x u
  | _, _, .cons r .nil => ⟨_, rfl, r⟩
theorem Vals.zero : ∀ {us : List Value}, Vals [] us → us = []
  | _, .nil => rfl
theorem Vals.dropLast {xs : List V} {us : List Value} (h : Vals xs us) : Vals xs.dropLast us.dropLast := by
  induction h with
  | nil => exact .nil
  | cons r t ih =>
    cases t with
    | nil => exact .nil
    | cons q t' => exact .cons r ih
theorem Vals.rep {xs : List V} {us : List Value} (h : Vals xs us) : ∀ k : Nat, Vals (List.replicate k xs).flatten (List.replicate k us).flatten
  | 0 => .nil
  | k + 1 => by
    rw [List.replicate_succ, List.replicate_succ, List.flatten_cons, List.flatten_cons]
    exact Vals.append h (Vals.rep h k)
theorem foldl_rep (its : List Value) : ∀ (k : Nat) (acc : List Value),
    List.foldl (fun x1 x2 => x1 ++ x2) acc.toArray (List.replicate k its.toArray) = (acc ++ (List.replicate k its).flatten).toArray
  | 0, acc => by simp
  | k + 1, acc => by
    have e : acc.toArray ++ its.toArray = (acc ++ its).toArray := by simp
    have e2 : (acc ++ its) ++ (List.replicate k its).flatten = acc ++ (List.replicate (k + 1) its).flatten := by
      rw [List.replicate_succ, List.flatten_cons, List.append_assoc]
    rw [← e2, ← foldl_rep its k (acc ++ its), ← e, List.replicate_succ, List.foldl_cons]

section
variable {X : Cx} {pins : List (Addr × Obj)} {σ : St} {H : Hp} {s : Shared} {l b : Addr} {xs ys zs : List V}

/-! ### the two steps: a tracked list is rewritten, a new list is laid -/
theorem Inv.lset {its its' : List Value} {n : Nat} {f : Array Value → Array Value} {t' : Nat} (I : Inv X pins σ H s) (hH : H l = some (.lst xs))
    (e : s.heap.get? l = some { cls := .type "list", data := .seq its.toArray n }) (hf : f its.toArray = its'.toArray) (hv : Vals ys its') (hz : ys.length ≤ sizeLine) :
    Inv X pins σ (upd H l (.lst ys)) { s with heap := s.heap.update l (Obj.mapSeq f), toks := t' } := by
  have q := PySem.IsL.update e f
  rw [hf] at q
  refine I.write (x := l) (e := l) (by rw [hH]; exact trivial) (.inl rfl) (fun b' u hb hu => (Heap.get?_update_other s.heap (Obj.mapSeq f) (Ne.symm hb)).trans hu) ⟨_, q⟩ ?_
  exact ⟨hz, its', _, hv, q⟩
theorem Inv.lnew {its : List Value} {t' : Nat} (I : Inv X pins σ H s) (hv : Vals ys its) (hz : ys.length ≤ sizeLine) :
    Inv X pins σ (upd H s.heap.objs.size (.lst ys)) { s with heap := s.heap.push { cls := .type "list", data := .seq its.toArray }, toks := t' } :=
  I.laid (fun _ _ q => Heap.get?_push_of_some _ q) (Nat.le_refl _) ⟨hz, its, 0, hv, Heap.get?_push_size _ rfl⟩
theorem Inv.fresh (I : Inv X pins σ H s) : H s.heap.objs.size = none := I.hok.fresh (Nat.le_refl _)
theorem Inv.lstM (I : Inv X pins σ H s) (hH : H l = some (.lst xs)) : xs.length ≤ sizeLine ∧ ∃ (its : List Value) (n : Nat), Vals xs its ∧ xs.length = its.length ∧ s.heap.get? l = some { cls := .type "list", data := .seq its.toArray n } := by
  obtain ⟨z, its, n, r, e⟩ := I.hok l _ hH
  exact ⟨z, its, n, r, r.length, e⟩

theorem notLongL {n : Nat} (h : n ≤ sizeLine) : Builtin.List.listTooLong n = false := by
  unfold Builtin.List.listTooLong
  exact decide_eq_false (by omega)
end

section
variable {X : Cx}

/-! ### methods -/
def rAppend : V → List V → Hp → VK → Prop := fun x vs H Q => ∃ l xs y, x = .ref l ∧ vs = [y] ∧ H l = some (.lst xs) ∧ xs.length < sizeLine ∧ Q .non (upd H l (.lst (xs ++ [y])))
theorem mt_append : MtM X "list.append" rAppend := by
  intro pins s σ H x vs v us Q I rx rv h
  obtain ⟨l, xs, y, rfl, rfl, hH, hz, q⟩ := h
  cases rx
  obtain ⟨u, rfl, ru⟩ := rv.one
  obtain ⟨z, its, n, r, hl, e⟩ := I.lstM hH
  refine call_meets F.slot_list_append ⟨_, e, rfl⟩ F.entry_list_append (F.args_list_append_2 _ _) (PySem.list_append l its.toArray n u (by rw [List.size_toArray]; omega)) ⟨e, ?_⟩
  refine ⟨.non, _, I.lset (its' := its ++ [u]) hH e (by simp) (r.append (.cons ru .nil)) ?_, rfl, q⟩
  rw [List.length_append, List.length_singleton]
  omega

/-! ### list + list, list += list, list * int -/
def rCat : R2 := fun x y H Q => ∃ l b xs zs, x = .ref l ∧ y = .ref b ∧ H l = some (.lst xs) ∧ H b = some (.lst zs) ∧ xs.length + zs.length ≤ sizeLine ∧ ∀ p, H p = none → Q (.ref p) (upd H p (.lst (xs ++ zs)))
theorem op_cat : OpR X (binaryOp .Add) rCat := by
  intro pins s σ H x y v u Q I rx ry h
  obtain ⟨l, b, xs, zs, rfl, rfl, hH, hB, hz, q⟩ := h
  cases rx
  cases ry
  obtain ⟨z, its, n, r, hl, e⟩ := I.lstM hH
  obtain ⟨z2, its2, n2, r2, hl2, e2⟩ := I.lstM hB
  refine PySem.P.add_list e e2 ?_ (by rw [List.size_toArray, List.size_toArray]; omega)
  have ea : its.toArray ++ its2.toArray = (its ++ its2).toArray := by simp
  rw [ea]
  exact ⟨.ref _, _, I.lnew (t' := s.toks) (r.append r2) (by rw [List.length_append]; omega), rfl, q _ I.fresh⟩
/-- a list times an int (a negative one is nothing) -/
def rRep : R2 := fun x y H Q => ∃ l k xs, x = .ref l ∧ y = .int k ∧ H l = some (.lst xs) ∧ -(2 ^ 63) ≤ k ∧ k < 2 ^ 63 ∧ xs.length * k.toNat ≤ sizeLine ∧
  ∀ p, H p = none → Q (.ref p) (upd H p (.lst (List.replicate k.toNat xs).flatten))
theorem len_rep {α : Type} (xs : List α) (k : Nat) : (List.replicate k xs).flatten.length = k * xs.length := by
  induction k with
  | zero => simp
  | succ k ih => rw [List.replicate_succ, List.flatten_cons, List.length_append, ih, Nat.succ_mul, Nat.add_comm]
theorem op_rep : OpR X (binaryOp .Mult) rRep := by
  intro pins s σ H x y v u Q I rx ry h
  obtain ⟨l, k, xs, rfl, rfl, hH, h1, h2, hz, q⟩ := h
  cases rx
  obtain ⟨t, rfl⟩ := ry
  obtain ⟨z, its, n, r, hl, e⟩ := I.lstM hH
  have hlen : its.toArray.size * k.toNat ≤ sizeLine := by rw [List.size_toArray, ← hl]; exact hz
  have hcap : ¬ its.toArray.size * k.toNat > (2 ^ 63 - 1) / 8 := by
    have : (sizeLine : Nat) ≤ (2 ^ 63 - 1) / 8 := by decide
    omega
  have hfit : ¬ (!Builtin.List.listFitsIndex k) = true := by
    rw [fitsIndex_both h1 h2]
    exact Bool.false_ne_true
  have hlong : ¬ Builtin.List.listTooLong (its.toArray.size * k.toNat) = true := by
    rw [notLongL hlen]
    exact Bool.false_ne_true
  have hnew : List.foldl (fun x1 x2 => x1 ++ x2) #[] (List.replicate (if its.toArray.isEmpty = true then 0 else k.toNat) its.toArray) = (List.replicate k.toNat its).flatten.toArray := by
    have f0 : ∀ m : Nat, List.foldl (fun x1 x2 => x1 ++ x2) #[] (List.replicate m its.toArray) = (List.replicate m its).flatten.toArray := fun m => by
      have := foldl_rep its m []
      rw [List.nil_append] at this
      exact this
    rw [f0]
    cases its with
    | nil => simp
    | cons a r' => rw [if_neg (by simp)]
  refine wpAny_binaryOp_repeat_ref (T := "list") (U := "int") (by decide) ⟨_, e, rfl⟩ (fun s' => typeIs_int s' k t) noFill_list_mul F.fills_int_mul F.slot_int_rmul repeat_list F.slot_int_index.lookup
    (call_meets F.slot_int_rmul (typeIs_int s k t) F.entry_int_rmul (F.args_int_rmul_2 _ _) (int___rmul___int_list k t l its.toArray n)
      ⟨e, rfl, ⟨_, e, rfl⟩, call_meets F.slot_list_mul ⟨_, e, rfl⟩ F.entry_list_mul (F.args_list_mul_2 _ _) (AutoListH.list___mul___list_int_3 l its.toArray n k t hfit hcap hlong) ⟨e, ?_⟩⟩)
  rw [hnew]
  exact ⟨.ref _, _, I.lnew (t' := s.toks) (r.rep k.toNat) (by rw [len_rep, Nat.mul_comm]; exact hz), rfl, q _ I.fresh⟩

/-! ### del xs[i] -/
end

/-! ### xs[a:b] = ys -/
section
variable {prog : Program} {w : World} {A : Around} {E : Value → Shared → Prop} {s : Shared}
end

section
variable {X : Cx}
end
end L2

namespace L2
open PySem PySem.Spec PyProof.Rows

/-! ### lists of pairs as tables -/
section
variable {κ : Type} [DecidableEq κ]
def valV (kvs : List (κ × V)) (k : κ) : Option V := (kvs.find? fun kv => decide (kv.1 = k)).map (·.2)
/-- in its place, or at the end -/
def putK (kvs : List (κ × V)) (k : κ) (v : V) : List (κ × V) :=
  if (kvs.any fun kv => decide (kv.1 = k)) = true then kvs.map (fun kv => if kv.1 = k then (kv.1, v) else kv) else kvs ++ [(k, v)]
def dropK (kvs : List (κ × V)) (k : κ) : List (κ × V) := kvs.filter fun kv => decide (kv.1 ≠ k)

theorem valV_pos {p : κ × V} {r : List (κ × V)} {k : κ} (e : p.1 = k) : valV (p :: r) k = some p.2 := by simp [valV, List.find?_cons, e]
theorem valV_neg {p : κ × V} {r : List (κ × V)} {k : κ} (e : ¬ p.1 = k) : valV (p :: r) k = valV r k := by simp [valV, List.find?_cons, e]
theorem valV_any (k : κ) : ∀ kvs : List (κ × V), (kvs.any fun kv => decide (kv.1 = k)) = (valV kvs k).isSome
  | [] => rfl
  | p :: r => by
    rw [List.any_cons]
    by_cases e : p.1 = k
    · simp only [valV_pos e, decide_eq_true e, Bool.true_or, Option.isSome_some]
    · rw [valV_neg e, decide_eq_false e, Bool.false_or]; exact valV_any k r
theorem RelO.isSome_eq {o : Option V} {u : Option Value} (r : RelO o u) : o.isSome = u.isSome := by
  cases o with
  | none => cases u with
    | none => rfl
    | some _ => exact (show False from r).elim
  | some _ => cases u with
    | none => exact (show False from r).elim
    | some _ => rfl
theorem RelO.getD {o : Option V} {u : Option Value} {d : V} {d' : Value} (r : RelO o u) (rd : RelV d d') : RelV (o.getD d) (u.getD d') := by
  cases o with
  | none => cases u with
    | none => exact rd
    | some _ => exact (show False from r).elim
  | some _ => cases u with
    | none => exact (show False from r).elim
    | some _ => exact r

/-- raw tables of the same keys -/
theorem KV.val {kvs : List (κ × V)} {vs : List (κ × Value)} (r : KV kvs vs) (k : κ) : RelO (valV kvs k) (valueAt vs k) := by
  unfold KV at r
  induction r with
  | nil => exact True.intro
  | @cons p q ps qs h t ih =>
    obtain ⟨h1, h2⟩ := h
    by_cases e : p.1 = k
    · have e' : q.1 = k := h1.symm.trans e
      have b : valueAt (q :: qs) k = some q.2 := by simp [valueAt, List.find?_cons, e']
      rw [valV_pos e, b]; exact h2
    · have e' : ¬ q.1 = k := fun z => e (h1.trans z)
      have b : valueAt (q :: qs) k = valueAt qs k := by simp [valueAt, List.find?_cons, e']
      rw [valV_neg e, b]; exact ih
theorem KV.any {kvs : List (κ × V)} {vs : List (κ × Value)} (r : KV kvs vs) (k : κ) : (kvs.any fun kv => decide (kv.1 = k)) = vs.any fun kv => decide (kv.1 = k) := by
  unfold KV at r
  induction r with
  | nil => rfl
  | cons h t ih => rw [List.any_cons, List.any_cons, ih, h.1]
theorem KV.repl {kvs : List (κ × V)} {vs : List (κ × Value)} (r : KV kvs vs) (k : κ) {y : V} {u : Value} (ry : RelV y u) :
    KV (kvs.map fun kv => if kv.1 = k then (kv.1, y) else kv) (vs.map fun kv => if kv.1 = k then (kv.1, u) else kv) := by
  unfold KV at r ⊢
  induction r with
  | nil => exact .nil
  | @cons p q ps qs h t ih =>
    rw [List.map_cons, List.map_cons]
    refine .cons ?_ ih
    obtain ⟨h1, h2⟩ := h
    by_cases e : p.1 = k
    · rw [if_pos e, if_pos (h1.symm.trans e)]; exact ⟨h1, ry⟩
    · rw [if_neg e, if_neg (fun z => e (h1.trans z))]; exact ⟨h1, h2⟩
theorem KV.put {kvs : List (κ × V)} {vs : List (κ × Value)} (r : KV kvs vs) (k : κ) {y : V} {u : Value} (ry : RelV y u) : KV (putK kvs k y) (stored vs k u) := by
  unfold putK stored
  rw [r.any k]
  by_cases e : (vs.any fun kv => decide (kv.1 = k)) = true
  · rw [if_pos e, if_pos e]; exact r.repl k ry
  · rw [if_neg e, if_neg e]; exact Paired.snoc r ⟨rfl, ry⟩
theorem KV.drop {kvs : List (κ × V)} {vs : List (κ × Value)} (r : KV kvs vs) (k : κ) : KV (dropK kvs k) (without vs k) := by
  unfold KV at r ⊢
  unfold dropK without
  induction r with
  | nil => exact .nil
  | @cons p q ps qs h t ih =>
    obtain ⟨h1, h2⟩ := h
    rw [List.filter_cons, List.filter_cons]
    by_cases e : p.1 = k
    · have a : ¬ decide (p.1 ≠ k) = true := by simp [e]
      have b : ¬ decide (q.1 ≠ k) = true := by simp [h1.symm.trans e]
      rw [if_neg a, if_neg b]; exact ih
    · have e' : ¬ q.1 = k := fun z => e (h1.trans z)
      have a : decide (p.1 ≠ k) = true := by simp [e]
      have b : decide (q.1 ≠ k) = true := by simp [e']
      rw [if_pos a, if_pos b]; exact .cons ⟨h1, h2⟩ ih
theorem KV.keys {kvs : List (κ × V)} {vs : List (κ × Value)} (r : KV kvs vs) : kvs.map (·.1) = vs.map (·.1) := by
  unfold KV at r
  induction r with
  | nil => rfl
  | cons h t ih => rw [List.map_cons, List.map_cons, ih, h.1]
theorem KV.length {kvs : List (κ × V)} {vs : List (κ × Value)} (r : KV kvs vs) : kvs.length = vs.length := Paired.length r
end


/-! ### a tracked dict, its keys ints and texts or tuples of these -/
/-- raw entries of a dict with tuple keys -/
abbrev KT (H : Hp) : List (List Key × V) → List (List Key × Addr × Value) → Prop := Paired fun p q => p.1 = q.1 ∧ H q.2.1 = some (.tup (p.1.map kV)) ∧ RelV p.2 q.2.2
theorem KT.val {H : Hp} {kvs : List (List Key × V)} {xs : List (List Key × Addr × Value)} (r : KT H kvs xs) (k : List Key) : RelO (valV kvs k) ((atKey xs k).map (·.2)) := by
  induction r with
  | nil => exact True.intro
  | @cons p q ps qs h t ih =>
    obtain ⟨h1, _, h2⟩ := h
    by_cases e : p.1 = k
    · have e' : q.1 = k := h1.symm.trans e
      have b : atKey (q :: qs) k = some q.2 := by simp [atKey, List.find?_cons, e']
      rw [valV_pos e, b]; exact h2
    · have e' : ¬ q.1 = k := fun z => e (h1.trans z)
      have b : atKey (q :: qs) k = atKey qs k := by simp [atKey, List.find?_cons, e']
      rw [valV_neg e, b]; exact ih
theorem KT.repl {H : Hp} {kvs : List (List Key × V)} {xs : List (List Key × Addr × Value)} (r : KT H kvs xs) (k : List Key) {y : V} {u : Value} (ry : RelV y u) :
    KT H (kvs.map fun kv => if kv.1 = k then (kv.1, y) else kv) (xs.map (putAt k u)) := by
  induction r with
  | nil => exact .nil
  | @cons p q ps qs h t ih =>
    rw [List.map_cons, List.map_cons]
    refine .cons ?_ ih
    obtain ⟨h1, h2, h3⟩ := h
    unfold putAt
    by_cases e : p.1 = k
    · rw [if_pos e, if_pos (h1.symm.trans e)]; exact ⟨h1, h2, ry⟩
    · rw [if_neg e, if_neg (fun z => e (h1.trans z))]; exact ⟨h1, h2, h3⟩
theorem KT.put {H : Hp} {kvs : List (List Key × V)} {xs : List (List Key × Addr × Value)} (r : KT H kvs xs) (k : List Key) {b : Addr} {y : V} {u : Value} (hb : H b = some (.tup (k.map kV))) (ry : RelV y u) :
    KT H (putK kvs k y) (storedH xs k b u) := by
  have e : (kvs.any fun kv => decide (kv.1 = k)) = (atKey xs k).isSome := by
    rw [valV_any, (r.val k).isSome_eq, Option.isSome_map]
  unfold putK storedH
  rw [e]
  by_cases q : (atKey xs k).isSome = true
  · rw [if_pos q, if_pos q]; exact r.repl k ry
  · rw [if_neg q, if_neg q]; exact Paired.snoc r ⟨rfl, hb, ry⟩
theorem KT.keeps {H H' : Hp} {kvs : List (List Key × V)} {xs : List (List Key × Addr × Value)} (r : KT H kvs xs) (ht : ∀ b ys, H b = some (.tup ys) → H' b = some (.tup ys)) : KT H' kvs xs :=
  Paired.mapP r fun _ _ z => ⟨z.1, ht _ _ z.2.1, z.2.2⟩

section
variable {P : Program} {w : World} {H : Hp} {h : Heap} {a : Addr}
end

/-- what the dict at a holds at the key y -/
def DGet (H : Hp) (a : Addr) (y : V) (r : Option V) : Prop :=
  (∃ kvs k, Rd H a (.dK kvs) ∧ y = kV k ∧ r = valV kvs k) ∨ ∃ kvs k b, Rd H a (.dT kvs) ∧ y = .ref b ∧ H b = some (.tup (k.map kV)) ∧ r = valV kvs k
/-- the heap behind a[y] = v -/
def DPut (H : Hp) (a : Addr) (y v : V) (H' : Hp) : Prop :=
  (∃ kvs k, H a = some (.dK kvs) ∧ y = kV k ∧ kvs.length < sizeLine ∧ H' = upd H a (.dK (putK kvs k v))) ∨
  ∃ kvs k b, H a = some (.dT kvs) ∧ y = .ref b ∧ H b = some (.tup (k.map kV)) ∧ kvs.length < sizeLine ∧ H' = upd H a (.dT (putK kvs k v))
theorem DGet.k {H : Hp} {a : Addr} {kvs : List (Key × V)} {k : Key} (e : H a = some (.dK kvs)) : DGet H a (kV k) (valV kvs k) := .inl ⟨kvs, k, .inl e, rfl, rfl⟩
theorem DGet.t {H : Hp} {a b : Addr} {kvs : List (List Key × V)} {k : List Key} (e : H a = some (.dT kvs)) (eb : H b = some (.tup (k.map kV))) : DGet H a (.ref b) (valV kvs k) := .inr ⟨kvs, k, b, .inl e, rfl, eb, rfl⟩
theorem DPut.k {H : Hp} {a : Addr} {kvs : List (Key × V)} {k : Key} {v : V} (e : H a = some (.dK kvs)) (hl : kvs.length < sizeLine) : DPut H a (kV k) v (upd H a (.dK (putK kvs k v))) := .inl ⟨kvs, k, e, rfl, hl, rfl⟩
theorem DPut.t {H : Hp} {a b : Addr} {kvs : List (List Key × V)} {k : List Key} {v : V} (e : H a = some (.dT kvs)) (eb : H b = some (.tup (k.map kV))) (hl : kvs.length < sizeLine) :
    DPut H a (.ref b) v (upd H a (.dT (putK kvs k v))) := .inr ⟨kvs, k, b, e, rfl, eb, hl, rfl⟩


section
variable {X : Cx} {pins : List (Addr × Obj)} {σ : St} {H : Hp} {s : Shared} {a : Addr} {y v : V} {u r : Value} {o : Option V} {A : Around} {E : Value → Shared → Prop}

theorem Inv.big (I : Inv X pins σ H s) : sysModules < s.heap.objs.size := by
  have h : mainGlobals < s.heap.objs.size := (I.mod.glob.keeps I.bk).lt
  exact Nat.lt_trans (by decide) h

end

section
variable {X : Cx} {pins : List (Addr × Obj)} {σ : St} {H : Hp} {s : Shared} {a : Addr} {kvs : List (Key × V)} {k : Key} {u : Value} {A : Around} {E : Value → Shared → Prop}
end


/-! ### readings and rules -/
section
variable {X : Cx} {o i e value : Expr} {pos pos' tpos : Pos} {td ty tv : TE}
end


/-! ### displays -/
theorem dk_empty {P : Program} {w : World} {H : Hp} (h : Heap) (hb : sysModules < h.objs.size) : ObjOk P w H (h.push { cls := .type "dict", data := .dict #[] }) h.objs.size (.dK []) :=
  ⟨Nat.zero_le _, beq_eq_false_iff_ne.mpr (Ne.symm (Nat.ne_of_lt hb)), [], .nil, Heap.DictOf.new h⟩
/-- {}, to be a dict of the kind that is wanted -/
def tDNewK : TE := fun _ H Q => ∀ p, H p = none → Q (.ref p) (upd H p (.dK []))
section
variable {X : Cx} {pos : Pos}
theorem pe_dnewK : PE X (.Dict [] [] pos) tDNewK := fun pins s σ H Q I h =>
  wpAny_Dict_empty ⟨.ref s.heap.objs.size, _, I.laid (a := s.heap.objs.size) (o := .dK []) (t' := s.toks) (fun _ _ q => Heap.get?_push_of_some _ q) (Nat.le_refl _) (dk_empty s.heap I.big), rfl, h _ (I.hok.fresh (Nat.le_refl _))⟩
end

/-- the pairs of a display, from the left -/
def tPairs : List (TE × TE) → St → Hp → (List (V × V) → Hp → Prop) → Prop
  | [], _, H, Q => Q [] H
  | (tk, tv) :: r, σ, H, Q => tk σ H fun x H1 => tv σ H1 fun y H2 => tPairs r σ H2 fun ps H3 => Q ((x, y) :: ps) H3
abbrev VV : List (V × V) → List (Value × Value) → Prop := Paired fun p q => RelV p.1 q.1 ∧ RelV p.2 q.2
def PPs (X : Cx) (pos : Pos) (keys : List (Option Expr)) (values : List Expr) (trs : List (TE × TE)) : Prop :=
  ∀ (pins : List (Addr × Obj)) (s : Shared) (σ : St) (H : Hp) (Q : List (V × V) → Hp → Prop), Inv X pins σ H s → tPairs trs σ H Q →
    wpAny (model X.prog X.w) X.A (evalPairs (pairTrees keys values X.env pos)) (fun vs s' => ∃ ps H', Inv X pins σ H' s' ∧ VV ps vs ∧ Q ps H') X.xe s
/-! ### methods -/
/-- a method call o.m(e) of a built-in, with one argument: what must be seen of the text -/
structure M1 (X : Cx) (o : Expr) (m : Str) (apos : Pos) (e : Expr) (cpos : Pos) : Prop where
  base : attributeBase o m X.env (eval o X.env) = eval o X.env
  few : ((backTo cpos (starEach [e] X.env)).all (fun x => !x.1) && (backToKw cpos (keywordEach [] X.env)).all (fun x => x.1.isSome)
    && decide (([e] : List Expr).length + ([] : List Keyword).length + (if ([] : List Keyword).isEmpty then 0 else 1) < 30)) = true
  line : (apos.endLine == cpos.line) = true
  trees : backTo cpos (starEach [e] X.env) = [(false, eval e X.env)]
structure M2 (X : Cx) (o : Expr) (m : Str) (apos : Pos) (e f : Expr) (cpos : Pos) : Prop where
  base : attributeBase o m X.env (eval o X.env) = eval o X.env
  few : ((backTo cpos (starEach [e, f] X.env)).all (fun x => !x.1) && (backToKw cpos (keywordEach [] X.env)).all (fun x => x.1.isSome)
    && decide (([e, f] : List Expr).length + ([] : List Keyword).length + (if ([] : List Keyword).isEmpty then 0 else 1) < 30)) = true
  line : (apos.endLine == cpos.line) = true
  trees : backTo cpos (starEach [e, f] X.env) = [(false, eval e X.env), (false, eval f X.env)]

section
variable {X : Cx} {pins : List (Addr × Obj)} {σ : St} {H : Hp} {s : Shared} {a : Addr} {y d : V} {u r : Value} {o : Option V} {A : Around} {E : Value → Shared → Prop}
end

section
variable {X : Cx} {o e f : Expr} {apos cpos : Pos} {td ty tx : TE}
end

/-! ### dict(d): a copy -/
section
variable {X : Cx} {pins : List (Addr × Obj)} {σ : St} {H : Hp} {s : Shared} {a : Addr} {kvs : List (Key × V)} {A : Around} {E : Value → Shared → Prop}
end


section
variable {X : Cx} {pins : List (Addr × Obj)} {σ : St} {H : Hp} {s : Shared} {a : Addr} {y : V} {u : Value} {A : Around} {E : Value → Shared → Prop}
end
end L2

namespace Att
open PySem PySem.W PySem.Calls PyProof.Rows

/-! ### the script -/
theorem ints_of_wellAll {P : Params} {h : Heap} : ∀ (ns : List Int) (vs : List Value), WellAll P h vs (ns.map WData.int) → IntsAre vs ns := by
  intro ns
  induction ns with
  | nil =>
    intro vs w
    rw [List.map_nil] at w
    cases w
    exact .nil
  | cons n ns ih =>
    intro vs w
    rw [List.map_cons] at w
    cases w with
    | cons a b =>
      cases a
      exact .cons _ _ (ih _ b)

theorem script_of {l : OpenLaw} {n : Nat} (hn : l.most = some n) {P : Params} {h : Heap} {args : List WData} {vals : List Value}
    (hpre : l.row.toRowW.claim.pre args = true) (hwl : WellAll P h vals args) :
    ∃ a vs ns, vals = [Value.ref a] ∧ args = [WData.list (ns.map WData.int)] ∧ h.get? a = some { cls := .type "list", data := .seq vs.toArray } ∧ IntsAre vs ns ∧ ns.length ≤ n := by
  have hsh : WShape.hasAll [] args [.list .int] = true := (pre_splitW hpre).1
  have hc : l.pre.holds [] { args := args } = true := (pre_splitW hpre).2
  obtain ⟨d, r, rfl, h1, h2⟩ := hasAllW_cons hsh
  obtain rfl := hasAllW_nil h2
  obtain ⟨xs, rfl, h3⟩ := hasW_list h1
  obtain ⟨ns, rfl⟩ := items_int h3
  have hlen : ns.length ≤ n := by
    unfold OpenLaw.pre at hc
    have h4 : (WTm.not (.lt (.lit (.int (n : Int))) (.len (.arg 0)))).holds [] { args := [.list (ns.map .int)] } = true := by
      have h4 := (holds_andW hc).1
      rw [hn] at h4
      exact h4
    have h5 := condW_of h4 (w_not (w_lt w_lit (w_len_list (w_arg rfl))))
    rw [List.length_map] at h5
    refine Nat.le_of_not_lt fun q => ?_
    have q' : (n : Int) < ((ns.length : Nat) : Int) := by omega
    first
      | (rw [decide_eq_true q'] at h5; exact absurd h5 (by decide))
      | (simp at h5; omega)
  cases hwl with
  | cons w1 w2 =>
    cases w2
    cases w1 with
    | list ho hall => exact ⟨_, _, ns, rfl, rfl, ho, ints_of_wellAll ns _ hall, hlen⟩

theorem post_true (l : OpenLaw) (args : List WData) : l.row.toRowW.claim.post args (.bool true) args = true :=
  postW_of (r := l.row.toRowW) (X := (true == true))
    (show WShape.has [] (.bool true) .bool = true by first | rfl | decide | simp [WShape.has, WShape.arms, WShape.armsAll])
    (show (WTm.eq .res (.lit (.bool true))).value [] { args := args, res := some (.bool true), after := args } = some (.bool (true == true)) from w_eq_bool (w_res rfl) w_lit) rfl

/-! ### the attachment: holds_open's last premise (the goal 'hc' behind k_head) from a wpAny of the law's body -/
/-- the same from a codeAny of the CALL (for a layer whose function contracts speak of calls) -/
theorem attach_call {l : OpenLaw} {n : Nat} {q : Program} {loose : List Str} {XP : (Str → Option Value) → Heap → Prop} {YP : World → Heap → Prop} {d : DefRec}
    (hn : l.most = some n) (hdf : d.params.defaults = [])
    (call : ∀ (w : World) (s₀ s₁ : Shared) (mg mb : Str → Option Value) (fa : Addr) (o : Obj) (pm cd doc : Value) (a : Addr) (vs : List Value) (ns : List Int),
      Ground q loose [] XP w s₀ mg mb s₁.heap → YP w s₁.heap →
      s₁.heap.get? fa = some o → o.data = .func (docDef d.name d.params d.body d.scope pm cd doc) → s₁.heap.CodeRec cd d.name → mg d.name = some (.ref fa) →
      s₁.heap.get? a = some { cls := .type "list", data := .seq vs.toArray } → IntsAre vs ns → ns.length ≤ n → s₁.gens = #[] →
      codeAny (model l.prog w) callerA (.call (.ref fa) ⟨[.ref a], []⟩) (fun r s' => r = .ok (.ret (.bool true)) ∧ OldK s₁.heap s'.heap ∧ s'.os = s₁.os ∧ AllBare s'.gens) s₁) :
    WalkO q loose XP YP l.row.toRowW d [] (fun f vs => PySem.call f vs) := by
  intro w s₀ s₁ mg mb G Y fa o pm cd doc dV kV ho hd hcd hD hmg hg args vals as hpre hlay hrd hwl hlo
  obtain rfl : dV = .none := Dflts.none hD hdf
  obtain rfl : kV = .none := Dflts.noKw hD
  obtain ⟨a, vs, ns, rfl, rfl, hobj, hints, hlen⟩ := script_of hn hpre hwl
  refine enter_call (codeAny_mono (call w s₀ s₁ mg mb fa o pm cd doc a vs ns G Y ho (fd_plain hd) hcd hmg hobj hints hlen hg) fun r s' hq => ?_)
  obtain ⟨rfl, h2, h3, h4⟩ := hq
  exact ⟨.inl ⟨.bool true, .bool true, [], rfl, fun _ => rfl, .bool true, post_true l _, fun _ => ⟨List.Pairwise.nil, fun _ hm => (nomatch hm)⟩⟩, h2, h3, h4⟩

/-! ### rules over ANY heap (no ledger) from facts about the written part K: the library's own take a ledger (News) for what they write -/
section
variable {prog : Program} {w : World} {A : Around} {E : Value → Shared → Prop} {s : Shared} {K : Frag}

/-! the whole heap as the ledger: makes every rule that writes through a ledger a rule over any heap -/
end
end Att

namespace L2
open PySem PySem.Spec PyProof.Rows

theorem vals_ints : ∀ {vs : List Value} {ns : List Int}, IntsAre vs ns → Vals (ns.map V.int) vs
  | _, _, .nil => .nil
  | _, _, .cons n t h => .cons ⟨t, rfl⟩ (vals_ints h)

/-- nothing is tracked but the script, known to the object (or it is an object of the module) -/
def Only (H : Hp) : Prop := ∀ b, H b = none ∨ ∃ o xs, H b = some (.frz o (.lst xs))

/-- THE HEAD: the law's promise, at the heap behind the top. F, the promise of the law's def, may use that base is part of the heap (so K.In base, base.Ns mainGlobals mg stand in Mod) -/
theorem law_call {P : Program} {w : World} {K : PySem.W.Frag} {mg mb : Str → Option Value} {CX : CXT} {k : Nat} {fa a : Addr} {fd : FuncData} {x : Str} {sp : Sp} {s₁ : Shared} {vs : List Value} {ns : List Int}
    (KX : K.In s₁.heap) (hns : s₁.heap.Ns mainGlobals mg) (hb : s₁.heap.Ns builtinsNs mb) (hbb : ∀ x : Str, x ≠ "__name__" → mb x = bootBuiltins x) (hlim : s₁.heap.NoLimit) (hg : s₁.gens = #[])
    (ha : s₁.heap.get? a = some { cls := .type "list", data := .seq vs.toArray }) (hi : IntsAre vs ns) (hl : ns.length ≤ sizeLine) (hr : Room k callerA)
    (F : ∀ base : Heap, K.In base → base.Ns mainGlobals mg → FnOk P w K mg base CX k fa fd [x] sp) (hbind : ∀ (s : Shared) (u : Value), BindsTo s fd ⟨[u], []⟩ [(x, u)])
    (hsp : ∀ H : Hp, Only H → SqL K H a (ns.map V.int) → sp [.ref a] H (fun v _ => v = .bl true) fun _ _ _ => False)
    (hCX : ∀ H e s', CX [] H s₁ (fun _ _ _ => False) e s' → False) :
    codeAny (model P w) callerA (.call (.ref fa) ⟨[.ref a], []⟩) (fun r s' => r = .ok (.ret (.bool true)) ∧ OldK s₁.heap s'.heap ∧ s'.os = s₁.os ∧ AllBare s'.gens) s₁ := by
  have rv := vals_ints hi
  have lenV := hi.length
  -- from an abstract heap in which nothing but the script may be tracked
  have core : ∀ H : Hp, Only H → SqL K H a (ns.map V.int) → HOk P w H s₁.heap → (∀ b, H b ≠ none → b = a) → (H a ≠ none → K.lookup a = none) →
      codeAny (model P w) callerA (.call (.ref fa) ⟨[.ref a], []⟩) (fun r s' => r = .ok (.ret (.bool true)) ∧ OldK s₁.heap s'.heap ∧ s'.os = s₁.os ∧ AllBare s'.gens) s₁ := by
    intro H hO hS hok hA hK
    have base_of : ∀ {b : Addr} {o : Obj}, s₁.heap.get? b = some o → H b = none → (hidT s₁.heap H).get? b = some o := fun e n => hidT_get e n
    have noA : ∀ {b : Addr} {o : Obj} {es : Array DictEntry} {ep : Nat}, s₁.heap.get? b = some o → o.data = .dict es ep → H b = none := fun {b o es ep} e d => by
      cases q : H b with
      | none => rfl
      | some u =>
        have e' : b = a := hA b (by rw [q]; simp)
        subst e'
        rw [ha] at e; cases e
        have d' : Data.seq vs.toArray _ = Data.dict es ep := d
        cases d'
    have nsK : ∀ {b : Addr} {m : Str → Option Value}, s₁.heap.Ns b m → (hidT s₁.heap H).Ns b m := fun {b m} ⟨o, es, ep, e, d, r⟩ => ⟨o, es, ep, base_of e (noA e d), d, r⟩
    have hKb : K.In (hidT s₁.heap H) := fun b o e => base_of (KX b o e) (by
      cases q : H b with
      | none => rfl
      | some u =>
        have e' : b = a := hA b (by rw [q]; simp)
        subst e'
        rw [hK (by rw [q]; simp)] at e; cases e)
    have hM : Mod K mg (hidT s₁.heap H) := ⟨hKb, nsK hns, ⟨mb, nsK hb, hbb⟩, let ⟨mc, h1, h2⟩ := hlim; ⟨mc, nsK h1, h2⟩⟩
    have e0 : Env0 P w K mg (hidT s₁.heap H) callerA [] s₁ H := ⟨rfl, hM, fun b o e => of_hidT e, Nat.le_of_eq (hidT_size _ _), trivial, fun b hb => absurd (show b ∈ ([] : List Addr) from hb) (by simp), hok, .of_eq hg⟩
    refine codeAny_mono ((F _ hKb (nsK hns)).run callerA [] s₁ H ⟨[.ref a], []⟩ [.ref a] [.ref a] _ _ hr e0 (hbind s₁ (.ref a)) (.cons rfl .nil) (hsp H hO hS)) fun r s' h => ?_
    cases r with
    | error e => exact (hCX H e s' h).elim
    | ok fl =>
      cases fl with
      | next => exact False.elim h
      | brk => exact False.elim h
      | cont => exact False.elim h
      | ret u =>
        obtain ⟨v, H', os, bare, un, hok', r', q⟩ := h
        have q' : v = .bl true := q
        subst q'
        obtain rfl : u = Value.bool true := r'
        refine ⟨rfl, OldK.of_keep fun b o e => ?_, os, bare⟩
        cases q : H b with
        | none => exact un.keep b o e q (by intro z; exact absurd (show b ∈ ([] : List Addr) from z) (by simp)) (by simp)
        | some u =>
          rcases hO b with z | ⟨ob, xs, z⟩
          · rw [q] at z; cases z
          · have z2 := un.frzs b ob _ z
            obtain ⟨e1, _⟩ := hok b _ z
            obtain ⟨e2, _⟩ := hok' b _ z2
            rw [e] at e1; cases e1
            exact e2
  cases hk : K.lookup a with
  | some o =>
    -- the script is one of the module's own objects
    have e := KX a o hk
    rw [ha] at e
    cases e
    refine core (fun _ => none) (fun _ => .inl rfl) (.inr ⟨_, vs.toArray, _, hk, rfl, rfl, rfl, by rw [List.size_toArray, lenV]; exact hl, by simpa using rv⟩) (fun b u z => by have z' : (none : Option HO) = some u := z; cases z') (fun b z => absurd rfl z) fun z => absurd rfl z
  | none =>
    refine core (fun b => if b = a then some (.frz { cls := .type "list", data := .seq vs.toArray } (.lst (ns.map V.int))) else none) (fun b => ?_) (.inl (.inr ⟨{ cls := .type "list", data := .seq vs.toArray }, if_pos rfl⟩)) (fun b u z => ?_) (fun b z => ?_) fun _ => hk
    · by_cases hb : b = a
      · exact .inr ⟨_, _, if_pos hb⟩
      · exact .inl (if_neg hb)
    · by_cases hb : b = a
      · have z' := (if_pos hb).symm.trans z
        cases z'
        subst hb
        exact ⟨ha, by rw [List.length_map]; exact hl, vs, _, rv, ha⟩
      · have z' := (if_neg hb).symm.trans z
        cases z'
    · by_cases hb : b = a
      · exact hb
      · exact absurd (if_neg hb) z
end L2

namespace L2
open PySem PySem.Spec PyProof.Rows

abbrev KOf {K : PySem.W.Frag} {h : Heap} (_ : K.In h) : PySem.W.Frag := K

/-- the goal that k_head leaves (case hc), from the law's promise. F gives the function object fd (K's own) once, then the promise over every base -/
theorem walk_of {l : PySem.W.OpenLaw} {n k : Nat} {q : Program} {loose : List Str} {XP : (Str → Option Value) → Heap → Prop} {YP : World → Heap → Prop} {d : DefRec} {K : Params → PySem.W.Frag} {CX : World → CXT} {sp : World → Sp} {x : Str}
    (hn : l.most = some n) (hn2 : n ≤ sizeLine) (hdf : d.params.defaults = []) (hr : Room k callerA)
    (hY : ∀ (w : World) (h : Heap), YP w h → (K w.params).In h)
    (F : ∀ (w : World) (mg : Str → Option Value) (fa : Addr) (h : Heap), (K w.params).In h → h.Ns mainGlobals mg → mg d.name = some (.ref fa) →
      ∃ fd : FuncData, (∀ (s : Shared) (u : Value), BindsTo s fd ⟨[u], []⟩ [(x, u)]) ∧
        ∀ base : Heap, (K w.params).In base → base.Ns mainGlobals mg → FnOk l.prog w (K w.params) mg base (CX w) k fa fd [x] (sp w))
    (hsp : ∀ (w : World) (H : Hp) (a : Addr) (ns : List Int), ns.length ≤ n → Only H → SqL (K w.params) H a (ns.map V.int) → sp w [.ref a] H (fun v _ => v = .bl true) fun _ _ _ => False)
    (hCX : ∀ (w : World) (H : Hp) (s : Shared) (e : Value) (s' : Shared), CX w [] H s (fun _ _ _ => False) e s' → False) :
    PySem.W.WalkO q loose XP YP l.row.toRowW d [] (fun f vs => PySem.call f vs) := by
  refine Att.attach_call hn hdf fun w s₀ s₁ mg mb fa o pm cd doc a vs ns G Y ho hd hcd hmg hobj hints hlen hg => ?_
  have KX := hY w _ Y
  obtain ⟨fd, hb, hF⟩ := F w mg fa _ KX G.T.g hmg
  exact law_call KX G.T.g G.T.b G.T.builtins G.T.nolimit hg hobj hints (Nat.le_trans hlen hn2) hr hF hb (fun H hO hS => hsp w H a ns hlen hO hS) fun H e s' => hCX w H s₁ e s'
end L2

/- THE LAST THEOREM (shape; LID, My.* are yours):
   My.Adr: a structure of the addresses that your layer names (classes, functions); My.Txt K t: a structure (Prop) of the equations over K;
   My.txt_mk : {K} {implicit addresses ..} (e1 : nsIn K mainGlobals "law" = some (some (.ref f))) (e2 : K.lookup f = some ⟨oc, od, .func (fnOf "law" "law" params body scope dV kV doc pm an cdv ct), sl⟩) (e3 : codeIn K cdv "law" = true) .. : ∃ t, My.Txt K t

set_option maxRecDepth 100000 in
set_option maxHeartbeats 0 in
theorem PySem.Challenge.cw_LID_holds : PySem.Challenge.rw_LID.Holds := by
  w_on; o_law; k_head; (case hw => w_witness2)
  k_fill
  refine L2.walk_of (l := PySem.Challenge.rw_LID) (n := 63) (k := 40) (x := "script") (CX := fun w => ..) (sp := fun _ => My.sp_law) rfl (by decide) rfl ⟨rfl, by decide, by decide⟩ (fun w h Y => PySem.W.kIn_of Y) ?F ?S ?C
  case F =>
    intro w mg fa h KX G hmg
    have T : ∃ t, My.Txt (L2.KOf KX) t := by
      dsimp only [L2.KOf]                          -- K must stand as «<heap const> w.params» for k_is
      refine' My.txt_mk ?e1 ?e2 ?e3 ..
      (case e1 => PySem.W.k_is)                    -- in the order: a name -> its address -> its object -> its parts
      (case e2 => PySem.W.k_is)
      ..
    obtain ⟨t, T⟩ := T
    have e0 := hmg.symm.trans (PySem.W.mg_of KX G T.law)
    cases e0                                       -- fa is the law's own address
    exact ⟨_, fun s u => .of_eq rfl, fun base kb nb => My.law_fn T kb nb⟩     -- if «.of_eq rfl» comes too early: refine' ⟨_, ?b, fun base kb nb => My.law_fn T kb nb⟩; exact fun s u => .of_eq rfl
  case S => exact fun w H a ns hl hO hS => ..
  case C => exact ..
(the tactic k_is has no namespace: write k_is) -/

/-! SHORT WORDS over the layer: a def of the text, its body, what a loop and a test want. -/
namespace L2
open PySem PySem.Spec PyProof.Rows

/-! ### the text by places -/
def defArgs (s : Stmt) : Arguments := match s with
  | .FunctionDef _ a _ _ _ _ _ _ _ _ => a
  | _ => { posonlyargs := [], args := [], vararg := none, kwonlyargs := [], kw_defaults := [], kwarg := none, defaults := [] }
def defBody (s : Stmt) : List Stmt := match s with
  | .FunctionDef _ _ b _ _ _ _ _ _ _ => b
  | _ => []
def defScope (s : Stmt) : Scope := match s with
  | .FunctionDef _ _ _ _ _ _ sc _ _ _ => sc
  | _ => { kind := .function, names := [], isGenerator := false, isCoroutine := false }

/-! ### no exception leaves a def -/
abbrev CX0 : CXT := fun _ _ _ _ _ _ => False
abbrev E0 : XK := fun _ _ _ => False
theorem pass0 {X : Cx} : Passes CX0 X E0 := fun _ _ _ _ _ _ _ h => h.elim

/-! ### a def (or method) of the text as it stands behind the top -/
structure Fun (K : PySem.W.Frag) (x qual : Str) (st : Stmt) (f : Addr) (fd : FuncData) : Prop where
  ex : ∃ (oc : Value) (od : Option Addr) (kV doc pm : Value) (an : Option Addr) (cdv ct : Value) (osl : Array (Option Value)),
    fd = PySem.W.fnOf x qual (defArgs st) (defBody st) (defScope st) .none kV doc pm an cdv ct ∧ K.lookup f = some ⟨oc, od, .func fd, osl⟩ ∧ PySem.W.codeIn K cdv qual = true
  kp : PySem.W.keepIn K (.ref f) = true
section
variable {P : Program} {w : World} {K : PySem.W.Frag} {mg : Str → Option Value} {base : Heap}
/-- THE RULE for a def: its body as a term of rules, and the reading of that term -/
theorem Fun.ok {x qual : Str} {st : Stmt} {f : Addr} {fd : FuncData} {N ps : List Str} {k : Nat} {sp : Sp} (F : Fun K x qual st f fd) (S : FnScope N ps (defScope st)) (len : ∀ vs H Q E, sp vs H Q E → vs.length = ps.length)
    (hbody : ∀ (cdv : Value) (A : Around) (outer : List Env) (s : Shared) (H : Hp) (vs : List V) (Q : VK) (E : XK), Room k (A.deeper (envOfC qual (defScope st) s.heap.objs.size f cdv)) → sp vs H Q E →
      ∃ t, PSs (cxOf CX0 P w K mg base N qual (defScope st) f cdv A outer s H E).nox (defBody st) t ∧ t { nx := fun _ H' => Q .non H', rt := Q } (start N vs) H) : FnOk P w K mg base CX0 (k + 1) f fd ps sp := by
  obtain ⟨oc, od, kV, doc, pm, an, cdv, ct, osl, rfl, lk, hcd⟩ := F.ex
  refine fn_of lk hcd S len fun A outer s H vs Q E hr hsp => ?_
  obtain ⟨t, h, q⟩ := hbody cdv A outer s H vs Q E hr hsp
  exact ⟨t, h.nox, q⟩
/-- how its arguments bind (no defaults): h is «fun _ _ _ _ _ _ us hl => match us, hl with | [_, _], _ => rfl», one _ a parameter -/
theorem Fun.binds {x qual : Str} {st : Stmt} {f : Addr} {fd : FuncData} {ps : List Str} (F : Fun K x qual st f fd)
    (h : ∀ (kV doc pm : Value) (an : Option Addr) (cdv ct : Value) (us : List Value), us.length = ps.length → bindArgs (PySem.W.fnOf x qual (defArgs st) (defBody st) (defScope st) .none kV doc pm an cdv ct) ⟨us, []⟩ = pure (ps.zip us)) : Binds K fd ps [] := by
  obtain ⟨oc, od, kV, doc, pm, an, cdv, ct, osl, rfl, lk, hcd⟩ := F.ex
  exact .all (h kV doc pm an cdv ct)
theorem fun_mk {x qual : Str} {st : Stmt} {f : Addr} {oc : Value} {od an : Option Addr} {osl : Array (Option Value)} {kV doc pm cdv ct : Value} (l : K.lookup f = some ⟨oc, od, .func (PySem.W.fnOf x qual (defArgs st) (defBody st) (defScope st) .none kV doc pm an cdv ct), osl⟩)
    (c : PySem.W.codeIn K cdv qual = true) (k : PySem.W.keepIn K (.ref f) = true) : Fun K x qual st f (PySem.W.fnOf x qual (defArgs st) (defBody st) (defScope st) .none kV doc pm an cdv ct) := ⟨⟨oc, od, kV, doc, pm, an, cdv, ct, osl, rfl, l, c⟩, k⟩
end
/-! ### expressions in short: the name that stands in the i-th slot -/
section
variable {X : Cx}
theorem pv (i : Nat) {x : Str} {pos : Pos} (hN : X.N[i]? = some x := by rfl) (hv : Vis X.env.scope x := by first | exact Or.inl rfl | exact Or.inr (Or.inl rfl) | exact Or.inr (Or.inr rfl)) (hd : (x == ("__debug__" : Str)) = false := by decide)
    (hcd : (x == ("__classdict__" : Str)) = false := by decide) : PE X (.Name x pos) (tVar i) := pe_var hN hv hd hcd
end

/-! ### tests -/
theorem iteF {A B : Prop} (h : B) : if false = true then A else B := by
  rw [if_neg Bool.false_ne_true]
  exact h
theorem iteT {A B : Prop} (h : A) : if true = true then A else B := by
  rw [if_pos rfl]
  exact h
theorem ite2 {c A B : Prop} [Decidable c] (h1 : c → A) (h2 : ¬ c → B) : if c then A else B := by
  by_cases h : c
  · rw [if_pos h]
    exact h1 h
  · rw [if_neg h]
    exact h2 h
/-! ### heaps -/
/-- all that was tracked is as it was -/
def Same (H H' : Hp) : Prop := ∀ b o, H b = some o → H' b = some o
theorem Same.refl (H : Hp) : Same H H := fun _ _ h => h
theorem Same.trans {H H1 H2 : Hp} (a : Same H H1) (b : Same H1 H2) : Same H H2 := fun c o h => b c o (a c o h)
theorem Same.free {H H' : Hp} (e : Same H H') {l : Addr} (h : H' l = Option.none) : H l = Option.none := by
  cases q : H l with
  | none => rfl
  | some o =>
    rw [e l o q] at h
    cases h
theorem Same.seq {K : PySem.W.Frag} {H H' : Hp} {a : Addr} {xs : List V} (e : Same H H') (h : SqL K H a xs) : SqL K H' a xs := by
  rcases h with (h | ⟨o, h⟩) | h
  · exact .inl (.inl (e _ _ h))
  · exact .inl (.inr ⟨o, e _ _ h⟩)
  · exact .inr h

/-! ### len of a dict -/
/-! ### a dict's pairs: keys that differ -/
section
variable {κ : Type} [DecidableEq κ]
end
end L2

set_option Elab.async false
set_option linter.all false
set_option maxRecDepth 100000
namespace L2
open PySem PySem.Spec PyProof.Rows

/-! ### a list comprehension of one clause: the block's closure -/
def closOf (cells : List (Str × Addr)) : List (Str × NameKind) → List (Str × Addr) → List (Str × Addr)
  | [], acc => acc
  | (n, k) :: r, acc => closOf cells r (if k == .free then (n, (cells.lookup n).getD 0) :: acc else acc)
theorem clos_for {env : Env} {f : (Str × NameKind) → List (Str × Addr) → Sem (ForInStep (List (Str × Addr)))}
    (hf : ∀ n k cs, f (n, k) cs = if (k == NameKind.free) = true then (cellOf env n >>= fun c => pure (ForInStep.yield ((n, c) :: cs))) else pure (ForInStep.yield cs)) :
    ∀ (names : List (Str × NameKind)) (acc : List (Str × Addr)), (∀ x ∈ names, x.2 = .free → ∃ c, env.cells.lookup x.1 = some c) →
    forIn names acc f = (pure (closOf env.cells names acc) : Sem _)
  | [], acc, _ => rfl
  | (n, k) :: r, acc, h => by
    rw [List.forIn_cons, hf]
    have ih := fun acc => clos_for hf r acc fun x hx => h x (List.mem_cons_of_mem _ hx)
    by_cases hk : (k == NameKind.free) = true
    · rw [if_pos hk]
      obtain ⟨c, hc⟩ := h (n, k) List.mem_cons_self (by simpa using hk)
      have e : cellOf env n = pure c := by unfold cellOf; rw [hc]
      rw [e, pure_bind, pure_bind]
      show forIn r ((n, c) :: acc) f = _
      rw [ih]
      show _ = pure (closOf env.cells r (if (k == NameKind.free) = true then (n, (env.cells.lookup n).getD 0) :: acc else acc))
      rw [if_pos hk, hc]; rfl
    · rw [if_neg hk, pure_bind]
      show forIn r acc f = _
      rw [ih]
      show _ = pure (closOf env.cells r (if (k == NameKind.free) = true then (n, (env.cells.lookup n).getD 0) :: acc else acc))
      rw [if_neg hk]
theorem closureFor_eq {env : Env} {scope : Scope} (h : ∀ x ∈ scope.names, x.2 = .free → ∃ c, env.cells.lookup x.1 = some c) : closureFor scope env = pure (closOf env.cells scope.names []) := by
  unfold closureFor
  show (forIn scope.names ([] : List (Str × Addr)) _ >>= fun cs => pure cs) = _
  rw [clos_for (env := env) (fun n k cs => ?_) _ _ h]
  · rfl
  · rfl
theorem closOf_some {cells : List (Str × Addr)} : ∀ {names : List (Str × NameKind)} {acc : List (Str × Addr)} {x : Str} {c : Addr}, (∀ y ∈ names, y.2 = .free → ∃ c, cells.lookup y.1 = some c) →
    (∀ y c, acc.lookup y = some c → cells.lookup y = some c) → (closOf cells names acc).lookup x = some c → cells.lookup x = some c
  | [], acc, x, c, _, ha, h => ha x c h
  | (n, k) :: r, acc, x, c, hn, ha, h => by
    refine closOf_some (names := r) (fun y hy => hn y (List.mem_cons_of_mem _ hy)) ?_ h
    intro y d hy
    by_cases hk : (k == NameKind.free) = true
    · rw [if_pos hk] at hy
      obtain ⟨e, he⟩ := hn (n, k) List.mem_cons_self (by simpa using hk)
      have he' : cells.lookup n = some e := he
      rw [List.lookup_cons] at hy
      by_cases hyn : (y == n) = true
      · rw [hyn] at hy
        have hy' : (cells.lookup n).getD 0 = d := Option.some.inj hy
        rw [he'] at hy'
        have e1 : y = n := by simpa using hyn
        rw [e1, he', ← hy']; rfl
      · have hf : (y == n) = false := by simpa using hyn
        rw [hf] at hy
        exact ha y d hy
    · rw [if_neg hk] at hy
      exact ha y d hy
theorem closOf_acc {cells : List (Str × Addr)} : ∀ {names : List (Str × NameKind)} {acc : List (Str × Addr)} {x : Str}, (∃ c, acc.lookup x = some c) → ∃ c, (closOf cells names acc).lookup x = some c
  | [], _, _, h => h
  | (n, k) :: r, acc, x, h => by
    refine closOf_acc (names := r) ?_
    by_cases hk : (k == NameKind.free) = true
    · rw [if_pos hk, List.lookup_cons]
      cases hx : (x == n) with
      | true => exact ⟨_, rfl⟩
      | false => exact h
    · rw [if_neg hk]; exact h
theorem closOf_has {cells : List (Str × Addr)} : ∀ {names : List (Str × NameKind)} {acc : List (Str × Addr)} {x : Str}, (x, NameKind.free) ∈ names → ∃ c, (closOf cells names acc).lookup x = some c
  | (n, k) :: r, acc, x, h => by
    rcases List.mem_cons.mp h with e | h
    · have e1 : x = n := congrArg (·.1) e
      have e2 : NameKind.free = k := congrArg (·.2) e
      subst e1 e2
      refine closOf_acc (names := r) ?_
      rw [if_pos (by rfl), List.lookup_cons]
      rw [beq_self_eq_true]
      exact ⟨_, rfl⟩
    · exact closOf_has (names := r) h
/-- a name of the block that is no local is one of its free ones -/
theorem relabel_free {env : Env} : ∀ {names : List (Str × NameKind)} {x : Str} {k : NameKind}, (∀ y ∈ names, y.2 ≠ .cell) →
    (names.map fun (n, k) => if (k == NameKind.free && env.scope.kind == .function && env.kindOf n == some .cell) then (n, NameKind.cell) else (n, k)).lookup x = some k → (k = .cell ∨ k = .free) → (x, NameKind.free) ∈ names
  | [], _, _, _, h, _ => by simp at h
  | (n, k0) :: r, x, k, hc, h, hk => by
    have ih := @relabel_free env r x k (fun y hy => hc y (List.mem_cons_of_mem _ hy))
    rw [List.map_cons] at h
    by_cases hf : (k0 == NameKind.free && env.scope.kind == .function && env.kindOf n == some .cell) = true
    · have hk0 : k0 = .free := by
        have : (k0 == NameKind.free) = true := by
          rw [Bool.and_eq_true, Bool.and_eq_true] at hf; exact hf.1.1
        simpa using this
      dsimp only at h
      rw [if_pos hf, List.lookup_cons] at h
      cases hx : (x == n) with
      | true =>
        have : x = n := by simpa using hx
        rw [this, hk0]; exact List.mem_cons_self
      | false => rw [hx] at h; exact List.mem_cons_of_mem _ (ih h hk)
    · dsimp only at h
      rw [if_neg hf, List.lookup_cons] at h
      cases hx : (x == n) with
      | true =>
        rw [hx] at h
        have e : k0 = k := Option.some.inj h
        have : x = n := by simpa using hx
        rcases hk with z | z
        · exact absurd (e.trans z) (hc (n, k0) List.mem_cons_self)
        · rw [this, e, z]; exact List.mem_cons_self
      | false => rw [hx] at h; exact List.mem_cons_of_mem _ (ih h hk)

/-! ### the block's context -/
def cxComp (X : Cx) (N0 T : List Str) (scope : Scope) (C : Addr) (fp : List Addr) (s : Shared) (H : Hp) : Cx :=
  { X with N := N0 ++ T, s₀ := s, H₀ := H, env := compEnvC scope (closOf X.env.cells scope.names []) C X.env, outer := X.stack, stack := X.stack, ex := fp, fn := fun _ => false, pn := [], xe := fun _ _ => False }
/-- what the scope of a block must be: no cells of its own, its free names are the def's cells, its locals are none of the tracked names -/
structure CompScope (X : Cx) (N0 T : List Str) (scope : Scope) : Prop where
  kind : scope.kind = .function
  nocell : ∀ y ∈ scope.names, y.2 ≠ .cell
  names : ∀ y ∈ scope.names, y.2 = .local → scope.names.lookup y.1 = some .local
  free : ∀ y ∈ scope.names, y.2 = .free → X.env.kindOf y.1 = some .cell ∨ X.env.kindOf y.1 = some .free
  apart : ∀ y ∈ scope.names, y.2 = .local → y.1 ∉ N0
  len0 : N0.length = X.N.length
  same : ∀ (i : Nat) (x : Str) (k : NameKind), N0[i]? = some x → (x, k) ∈ scope.names → X.N[i]? = some x
/-- a loop of one clause, with what is done ahead of the store -/
theorem codeAny_compLoop_go {prog : Program} {w : World} {A : Around} {R : Result → Shared → Prop} {s : Shared} {elt target iter : Expr} {ifs : List Expr} {scope : Scope} {pos : Pos} {it acc : Value} {env : Env} (I : Nat → Shared → Prop)
    (turn : ∀ n s, I n s → wpAny (model prog w) A (pyNext it) (fun r s₁ => match r with
      | none => R (.ok .next) s₁
      | some v => wpAny (model prog w) A (letOwnedTupleGo target it v) (fun _ s₀ => wpAny (model prog w) A (assign target env v) (fun _ s₂ =>
          wpAny (model prog w) A (forIn ifs true fun c r => if r = true then do let ok ← isTrue c env (eval c env); pure (ForInStep.yield ok) else pure (ForInStep.yield r)) (fun ok s₃ =>
            if ok = true then wpAny (model prog w) A (eval elt env) (fun x s₄ =>
              wpAny (model prog w) A (call (.builtin "list.append") [acc, x]) (fun _ s₅ => ∃ m, m < n ∧ I m s₅) (fun _ _ => False) s₄) (fun _ _ => False) s₃
            else ∃ m, m < n ∧ I m s₃) (fun _ _ => False) s₂) (fun _ _ => False) s₀) (fun _ _ => False) s₁) (fun _ _ => False) s)
    (n : Nat) (h : I n s) :
    codeAny (model prog w) A (.compLoop (.ListComp elt [⟨target, iter, ifs, 0⟩] scope pos) 0 it acc env) R s := by
  refine codeAny_loop rfl I (fun n s hI => ?_) n h
  show wpAny _ A ((compTurn (.ListComp elt [⟨target, iter, ifs, 0⟩] scope pos) 0 it acc env).onRaise (fun x => do noteFrame x env; theTreesLotGoes x)) _ _ s
  refine wpAny_noted ?_
  rw [compTurn_list]
  refine wpAny_bind (wpAny_standAt (wpAny_bind (wpAny_mono (turn n s hI) (fun r s₁ h₁ => ?_) fun _ _ h' => h'.elim)))
  cases r with
  | none => exact wpAny_pure h₁
  | some v =>
    refine wpAny_bind (wpAny_mono h₁ (fun _ s₀ h₀ => ?_) fun _ _ h' => h'.elim)
    refine wpAny_bind (wpAny_mono h₀ (fun _ s₂ h₂ => wpAny_bind (wpAny_mono h₂ (fun ok s₃ h₃ => ?_) fun _ _ h' => h'.elim)) fun _ _ h' => h'.elim)
    cases ok with
    | false => exact wpAny_pure ⟨rfl, h₃⟩
    | true =>
      exact wpAny_bind (wpAny_bind (wpAny_mono h₃ (fun x s₄ h₄ => wpAny_bind (wpAny_mono h₄ (fun _ s₅ h₅ => wpAny_pure (wpAny_pure ⟨rfl, h₅⟩)) fun _ _ h' => h'.elim)) fun _ _ h' => h'.elim))

/-- tests of a clause: none, or one -/
def PIfs (X : Cx) (ifs : List Expr) (tc : TT) : Prop :=
  ∀ (pins : List (Addr × Obj)) (s : Shared) (σ : St) (H : Hp) (Q : Bool → Hp → Prop), Inv X pins σ H s → tc σ H Q →
    wpAny (model X.prog X.w) X.A (forIn ifs true fun c r => if r = true then do let ok ← isTrue c X.env (eval c X.env); pure (ForInStep.yield ok) else pure (ForInStep.yield r)) (TP X pins σ Q) X.xe s
def tYes : TT := fun _ H Q => Q true H
theorem pifs_nil {X : Cx} : PIfs X [] tYes := fun _ _ _ H _ I h => wpAny_tests_nil ⟨H, I, h⟩
theorem pifs_one {X : Cx} {c : Expr} {tc : TT} (hc : PT X c tc) : PIfs X [c] tc := fun pins s σ H Q I h => wpAny_tests_one (hc pins s σ H Q I h)

/-- a target that stores into the slots from n on alone -/
def GFr (g : TG) (n : Nat) : Prop := ∀ x σ H Q, g x σ H Q → g x σ H fun σ' H' => Q σ' H' ∧ σ'.length = σ.length ∧ ∀ k, k < n → σ'[k]? = σ[k]?
theorem gfr_name {i n : Nat} (h : n ≤ i) : GFr (gName i) n := fun x σ H Q q => ⟨q, by simp, fun k hk => by rw [List.getElem?_set_ne (by omega)]⟩
/-- the turns of a comprehension over J, its list at D: W by the turn, a measure, the items so far -/
def compW (J : It) (g : TG) (tc : TT) (te : TE) (nT : Nat) (σ : St) (D : Addr) (Q : VK) (H : Hp) : Prop :=
  ∃ W : Nat → Nat → List V → Hp → Prop, (∃ m, W 0 m [] H) ∧ ∀ i m ys H2, W i m ys H2 →
    (J.stop i H2 ∧ Q (.ref D) H2) ∨ (J.go i H2 ∧ ∀ x H', J.yld i H2 x H' → g x (σ ++ List.replicate nT none) H' fun σ2 H3 => tc σ2 H3 fun b H4 =>
      if b = true then te σ2 H4 fun y H5 => H5 D = some (.lst ys) ∧ ys.length < sizeLine ∧ ∃ m', m' < m ∧ W (i + 1) m' (ys ++ [y]) (upd H5 D (.lst (ys ++ [y]))) else ∃ m', m' < m ∧ W (i + 1) m' ys H4)
def tComp (wi : TI) (g : TG) (tc : TT) (te : TE) (nT : Nat) : TE := fun σ H Q => wi σ H fun J H1 => ∀ D, H1 D = none → compW J g tc te nT σ D Q (upd H1 D (.lst []))

theorem HOk.sameBut {P : Program} {w : World} {H : Hp} {h h' : Heap} {C : Addr} (x : HOk P w H h) (hs : Heap.SameBut C h h') (hC : H C = none) : HOk P w H h' := fun a o e =>
  (x a o e).stay (fun b u hb q => (hs.2 b (by
    rintro rfl
    rcases hb with z | z
    · rw [z] at hC; rw [hC] at e; cases e
    · rw [hC] at z; cases z)).trans q) (fun _ q => q) fun _ _ q => q

section
variable {X : Cx} {N0 T : List Str} {scope : Scope} {tg elt iter : Expr} {ifs : List Expr} {pos : Pos} {wi : TI} {g : TG} {tc : TT} {te : TE}

theorem comp_core {pins : List (Addr × Obj)} {σ : St} {H : Hp} {s : Shared} {E : Value → Shared → Prop} {it : Addr} {fp : List Addr} {tn : Nat → Heap → Prop} {J : It} {Q : VK} {RR : Value → Addr → Result → Shared → Prop}
    (S : CompScope X N0 T scope) (hc : X.calm = true)
    (hg : ∀ C fp s H, PG (cxComp X N0 T scope C fp s H) tg g) (hfr : GFr g X.N.length) (hi : ∀ C fp s H, PIfs (cxComp X N0 T scope C fp s H) ifs tc) (he : ∀ C fp s H, PE (cxComp X N0 T scope C fp s H) elt te)
    (I : Inv X pins σ H s) (Tn : Turn X.prog X.w X.K tg J fp it tn) (st : tn 0 s.heap) (hf : ∀ b ∈ fp, FpOk X pins H b)
    (h : ∀ D, H D = none → compW J g tc te T.length σ D Q (upd H D (.lst [])))
    (hRR : ∀ D C s' H' m, s'.heap.Ns C m → H' C = none → C ≠ X.env.locals → (∀ x c, X.env.cells.lookup x = some c → c ≠ C) → (∀ p ∈ X.pn ++ pins, p.1 ≠ C) → X.s₀.heap.objs.size ≤ C → Inv X pins σ H' s' →
      (∀ h', Heap.SameBut C s'.heap h' → Inv X pins σ H' { s' with heap := h' }) → Q (.ref D) H' → RR (.ref D) C (.ok .next) s') :
    wpAny (model X.prog X.w) X.A (newList []) (fun acc s₃ => wpAny (model X.prog X.w) X.A (newFunctionEnv scope X.env.globals (closOf X.env.cells scope.names []) [] X.env.qual none .none (some X.env)) (fun cenv s₄ =>
      codeAny (model X.prog X.w) X.A (.compStart (.ListComp elt [⟨tg, iter, ifs, 0⟩] scope pos) 0 (.ref it) acc { cenv with scope := relabel scope X.env }) (RR acc cenv.locals) s₄) E s₃) E s := by
  refine wpAny_newObj_type (wpAny_newFunctionEnv S.nocell (by intro y hy; simp at hy) (fun h₁ hns₁ hsb₁ => ?_) S.kind)
  dsimp only at hns₁ hsb₁ ⊢
  generalize hH2 : s.heap.push { cls := .type "list", dict := none, data := .seq ([] : List Value).toArray } = P2 at hns₁ hsb₁ ⊢
  have hC : P2.objs.size = s.heap.objs.size + 1 := by rw [← hH2, Heap.size_push]
  -- the new list D, the block's names C
  obtain ⟨D, hD⟩ : ∃ D : Nat, D = s.heap.objs.size := ⟨_, rfl⟩
  obtain ⟨C, hCC⟩ : ∃ C : Nat, C = P2.objs.size := ⟨_, rfl⟩
  rw [← hCC] at hns₁ hsb₁ hC ⊢
  rw [← hD] at hC ⊢
  have hDC : D ≠ C := by omega
  have hDlt : D < C := by omega
  have neD : ∀ b o, s.heap.get? b = some o → b ≠ D := fun b o e => hD ▸ Nat.ne_of_lt (Heap.lt_size e)
  have neC : ∀ b o, s.heap.get? b = some o → b ≠ C := fun b o e => Nat.ne_of_lt (Nat.lt_trans (hD ▸ Heap.lt_size e) hDlt)
  have old : ∀ b o, s.heap.get? b = some o → h₁.get? b = some o := fun b o e => hsb₁.extBut b o (neC b o e) (Heap.get?_push_of_some _ (hH2 ▸ Heap.get?_push_of_some _ e))
  have hHD : H D = none := I.hok.fresh (by omega)
  have hHC : H C = none := I.hok.fresh (by omega)
  have dat : h₁.get? D = some { cls := .type "list", data := .seq ([] : List Value).toArray 0 } := by
    refine hsb₁.extBut _ _ hDC (Heap.get?_push_of_some _ ?_)
    rw [← hH2, hD]
    exact Heap.get?_push_size _ rfl
  -- the block's context stands
  have hcl : ∀ x c, (closOf X.env.cells scope.names []).lookup x = some c → X.env.cells.lookup x = some c := fun x c e =>
    closOf_some (fun y hy hk => I.ok.has y.1 (S.free y hy hk)) (fun y c z => by simp at z) e
  have okC : (cxComp X N0 T scope C fp s H).Ok := by
    refine ⟨I.ok.mod, ?_, I.ok.glob, I.ok.blt, ?_, fun x y c e1 e2 => I.ok.inj x y c (hcl x c e1) (hcl y c e2), fun x hx => ?_, fun x c z _ => (by cases z), I.ok.hd, I.ok.frames, .inl rfl, fun b hb => ⟨?_, fun x c e => (hf b hb).2.2.2.2.1 x c (hcl x c e)⟩,
      I.bs, ?_, fun b o e hb => ?_, fun b hb z => ?_, I.stack, I.stkFree⟩
    · show (relabel scope X.env).kind = .function
      exact S.kind
    · show s.heap.objs.size ≤ C
      omega
    · have hx' : (relabel scope X.env).names.lookup x = some .cell ∨ (relabel scope X.env).names.lookup x = some .free := hx
      have m : (x, NameKind.free) ∈ scope.names := by
        rcases hx' with z | z
        · exact relabel_free S.nocell z (.inl rfl)
        · exact relabel_free S.nocell z (.inr rfl)
      exact closOf_has m
    · show b ≠ C
      obtain ⟨o, e, _⟩ := Tn.obj 0 _ st b hb
      exact neC b o e
    · exact Nat.le_trans I.ok.bsz I.sz
    · obtain ⟨_, _, _, z, _⟩ := hf b hb
      rcases z with z | z
      · exact I.ok.noex b o e z
      · exact absurd (Nat.lt_of_lt_of_le (Nat.lt_of_lt_of_le (Heap.lt_size e) I.ok.bsz) z) (Nat.lt_irrefl _)
    · obtain ⟨_, z1, z2, _⟩ := hf b hb
      rcases List.mem_cons.mp (I.stkSub b z) with q | q
      · exact z1 q
      · exact z2 q
  have I1 : Inv (cxComp X N0 T scope C fp s H) [] (σ ++ List.replicate T.length none) (upd H D (.lst [])) { s with heap := h₁, toks := s.toks + ([] : List (Str × Value)).length } := by
    refine ⟨okC, rfl, I.bare, Un.laid (h := s.heap) old (by omega) hHD, ⟨_, hns₁, fun i x v e1 e2 e3 => ?_⟩, fun x c e => ?_, ?_, fun x c e => ?_, fun p hp => (by simp [cxComp] at hp), I.hok.laid old (by omega) ?_, ?_⟩
    · have e1' : (N0 ++ T)[i]? = some x := e1
      have hl := I.len
      have hl0 := S.len0
      have hi : i < σ.length := by
        rcases Nat.lt_or_ge i σ.length with z | z
        · exact z
        · rw [List.getElem?_append_right z] at e2
          rw [List.getElem?_replicate] at e2
          split at e2 <;> cases e2
      rw [List.getElem?_append_left hi] at e2
      rw [List.getElem?_append_left (by omega)] at e1'
      have hxN : x ∈ N0 := List.mem_of_getElem? e1'
      have e3' : (relabel scope X.env).names.lookup x = some .local ∨ (relabel scope X.env).names.lookup x = some .cell ∨ (relabel scope X.env).names.lookup x = some .free := e3
      have fr : (relabel scope X.env).names.lookup x = some .cell ∨ (relabel scope X.env).names.lookup x = some .free := by
        rcases e3' with z | z | z
        · exfalso
          -- a local of the block is no tracked name
          have key : ∀ (names : List (Str × NameKind)), (names.map fun (n, k) => if (k == NameKind.free && X.env.scope.kind == .function && X.env.kindOf n == some .cell) then (n, NameKind.cell) else (n, k)).lookup x = some .local → (x, NameKind.local) ∈ names := by
            intro names
            induction names with
            | nil => intro z; simp at z
            | cons y r ih =>
              obtain ⟨n, k⟩ := y
              intro z
              rw [List.map_cons] at z
              dsimp only at z
              by_cases hfk : (k == NameKind.free && X.env.scope.kind == .function && X.env.kindOf n == some .cell) = true
              · rw [if_pos hfk, List.lookup_cons] at z
                cases hx : (x == n) with
                | true => rw [hx] at z; cases z
                | false => rw [hx] at z; exact List.mem_cons_of_mem _ (ih z)
              · rw [if_neg hfk, List.lookup_cons] at z
                cases hx : (x == n) with
                | true =>
                  rw [hx] at z
                  have ek : k = .local := Option.some.inj z
                  have en : x = n := by simpa using hx
                  rw [ek, en]; exact List.mem_cons_self
                | false => rw [hx] at z; exact List.mem_cons_of_mem _ (ih z)
          exact S.apart (x, .local) (key _ z) rfl hxN
        · exact .inl z
        · exact .inr z
      have m : (x, NameKind.free) ∈ scope.names := by
        rcases fr with z | z
        · exact relabel_free S.nocell z (.inl rfl)
        · exact relabel_free S.nocell z (.inr rfl)
      have kX := S.free _ m rfl
      obtain ⟨mm, hn, hl'⟩ := I.loc
      obtain ⟨u, r, lk⟩ := hl' i x v (S.same i x _ e1' m) e2 (.inr kX)
      refine ⟨u, r, .inr ⟨fr, ?_⟩⟩
      rcases lk with ⟨z, _⟩ | ⟨_, c, ec, cc⟩
      · rcases kX with q | q
        · rw [q] at z; cases z
        · rw [q] at z; cases z
      · obtain ⟨c', ec'⟩ := closOf_has (cells := X.env.cells) (acc := []) m
        have := hcl x c' ec'
        rw [ec] at this; cases this
        exact ⟨c, ec', cc.keeps old⟩
    · obtain ⟨v, z⟩ := I.cell x c (hcl x c e)
      exact ⟨v, z.keeps old⟩
    · show upd H D (.lst []) C = none
      rw [upd_ne (Ne.symm hDC)]; exact hHC
    · have q := I.freeC x c (hcl x c e)
      obtain ⟨v, o, z, _⟩ := I.cell x c (hcl x c e)
      rw [upd_ne (neD c o z)]; exact q
    · exact ⟨Nat.zero_le _, [], 0, .nil, dat⟩
    · show (σ ++ List.replicate T.length none).length = (N0 ++ T).length
      rw [List.length_append, List.length_append, List.length_replicate, I.len, S.len0]
  have st1 : tn 0 h₁ := Tn.keep _ _ _ st fun b _ o e => old b o e
  have fp1 : ∀ {H' : Hp}, (∀ b ∈ fp, H' b = none) → ∀ b ∈ fp, FpOk (cxComp X N0 T scope C fp s H) [] H' b := fun hn b hb =>
    ⟨hn b hb, (okC.exf b hb).1, okC.exfs b hb, .inl hb, (okC.exf b hb).2, fun p hp => (by simp [cxComp] at hp)⟩
  have fp0 : ∀ b ∈ fp, upd H D (.lst []) b = none := fun b hb => by
    obtain ⟨o, e, _⟩ := Tn.obj 0 _ st b hb
    rw [upd_ne (neD b o e)]; exact (hf b hb).1
  obtain ⟨W, ⟨m0, w0⟩, turn⟩ := h D hHD
  have loop : ∀ s₃ : Shared, s₃ = { s with heap := h₁, toks := s.toks + ([] : List (Str × Value)).length } →
      codeAny (model X.prog X.w) X.A (.compLoop (.ListComp elt [⟨tg, iter, ifs, 0⟩] scope pos) 0 (.ref it) (.ref D) (compEnvC scope (closOf X.env.cells scope.names []) C X.env)) (RR (.ref D) C) s₃ := by
    rintro s₃ rfl
    refine codeAny_compLoop_go (fun n s' => ∃ i H' ys, Inv (cxComp X N0 T scope C fp s H) [] (σ ++ List.replicate T.length none) H' s' ∧ tn i s'.heap ∧ (∀ b ∈ fp, H' b = none) ∧ W i n ys H') ?_ m0 ⟨0, _, [], I1, st1, fp0, w0⟩
    rintro n s3 ⟨i, H3, ys, I3, st3, fr3, w3⟩
    rcases turn i n ys H3 w3 with ⟨stop, qn⟩ | ⟨go, step⟩
    · refine thn (Tn.done (cxComp X N0 T scope C fp s H) rfl rfl rfl hc i [] s3 _ H3 (fun _ _ => False) I3 (fp1 fr3) st3 stop) fun r s4 ⟨hr, I4⟩ => ?_
      subst hr
      obtain ⟨m, hm, _⟩ := I4.loc
      have hch : ∀ b ∈ fp, (b ∈ X.ex ∨ X.s₀.heap.objs.size ≤ b) ∧ b ≠ X.env.locals ∧ (∀ x c, X.env.cells.lookup x = some c → c ≠ b) ∧ ∀ p ∈ X.pn ++ pins, p.1 ≠ b := fun b hb =>
        ⟨(hf b hb).2.2.2.1, (hf b hb).2.1, (hf b hb).2.2.2.2.1, (hf b hb).2.2.2.2.2⟩
      have u4 : Un (frs X.stack) fp H H3 s.heap s4.heap := I4.base
      refine hRR D C s4 H3 m hm I4.free (Ne.symm (Nat.ne_of_lt (Nat.lt_trans (hD ▸ I.lt) hDlt))) (fun x c e => ?_) (fun p hp => ?_) (Nat.le_trans (hD ▸ I.sz) (Nat.le_of_lt hDlt)) (I.call' (ch := fp) I4.os u4 I4.hok I4.bare hch) (fun h' hs' => ?_) qn
      · obtain ⟨v, o, q, _⟩ := I.cell x c e
        exact neC c o q
      · exact neC _ _ (I.pin p hp).1
      · refine I.call' (ch := fp) (s' := { s4 with heap := h' }) I4.os ⟨fun b o q n' hb hx => (hs'.2 b (neC b o q)).trans (u4.keep b o q n' hb hx), fun b o q n' hb hx => ?_, u4.free, fun b o q hx => ?_, u4.tups, u4.frzs, u4.tbls⟩ (I4.hok.sameBut hs' I4.free) I4.bare hch
        · obtain ⟨sl, e⟩ := u4.slot b o q n' hb hx
          exact ⟨sl, (hs'.2 b (neC b o q)).trans e⟩
        · obtain ⟨o', e⟩ := u4.there b o q hx
          exact ⟨o', (hs'.2 b (neC b o q)).trans e⟩
    · refine thn (Tn.item (cxComp X N0 T scope C fp s H) rfl rfl rfl hc i [] s3 _ H3 (fun _ _ => False) I3 (fp1 fr3) st3 go) fun r s4 ⟨u, hr, h4⟩ => ?_
      subst hr
      refine thn h4 fun _ s5 ⟨x, H5, I5, r5, y5, st5, fr5⟩ => ?_
      have I5' := I5.pinned (fp1 fr5) (Tn.obj _ _ st5)
      refine thn (hg C fp s H _ s5 _ H5 x u _ I5' r5 (hfr _ _ _ _ (step x H5 y5))) fun _ s6 ⟨σ6, H6, I6, q6, l6, k6⟩ => ?_
      have back : ∀ {H7 : Hp} {s7 : Shared}, Inv (cxComp X N0 T scope C fp s H) ([] ++ pinsAt fp s5.heap) σ6 H7 s7 → (∀ {m' : Nat} {zs : List V}, m' < n → W (i + 1) m' zs H7 → ∃ m, m < n ∧ ∃ i H' ys, Inv (cxComp X N0 T scope C fp s H) [] (σ ++ List.replicate T.length none) H' s7 ∧ tn i s7.heap ∧ (∀ b ∈ fp, H' b = none) ∧ W i m ys H') := fun {H7 s7} I7 {m' zs} hm w7 => by
        refine ⟨m', hm, i + 1, H7, zs, I7.unpinned.weak (by rw [l6]) (fun j v e => ?_), Tn.keep _ _ _ st5 fun b hb o e => (I7.pin (b, o) (List.mem_append_right _ (List.mem_append_right _ (mem_pinsAt hb e)))).1, fun b hb => ?_, w7⟩
        · have hj : j < σ.length := by
            rcases Nat.lt_or_ge j σ.length with z | z
            · exact z
            · rw [List.getElem?_append_right z, List.getElem?_replicate] at e
              split at e <;> cases e
          rw [k6 j (by rw [← I.len]; exact hj)]
          exact e
        · obtain ⟨o, e, d⟩ := Tn.obj _ _ st5 b hb
          exact (I7.pin (b, o) (List.mem_append_right _ (List.mem_append_right _ (mem_pinsAt hb e)))).2.1
      refine thn (hi C fp s H _ s6 σ6 H6 _ I6 q6) fun b s7 ⟨H7, I7, q7⟩ => ?_
      cases b with
      | false =>
        obtain ⟨m', hm, w7⟩ := (show ∃ m', m' < n ∧ W (i + 1) m' ys H7 from by simpa using q7)
        exact back I7 hm w7
      | true =>
        rw [if_pos rfl] at q7
        refine thn (he C fp s H _ s7 σ6 H7 _ I7 q7) fun v s8 ⟨y, H8, I8, r8, hD8, hz, m', hm, w8⟩ => ?_
        refine thn (mt_append (X := cxComp X N0 T scope C fp s H) _ s8 σ6 H8 (.ref D) [y] (.ref D) [v] (fun _ H9 => H9 = upd H8 D (.lst (ys ++ [y]))) I8 rfl (.cons r8 .nil) ⟨D, ys, y, rfl, rfl, hD8, hz, rfl⟩) fun v9 s9 ⟨y9, H9, I9, _, e9⟩ => ?_
        subst e9
        exact back I9 hm w8
  exact codeAny_compStart_list (loop _ rfl) (Tn.self X.A 0 _ _ _ st1 (loop _ rfl))

/-- [elt for tg in iter] -/
theorem pe_comp (S : CompScope X N0 T scope) (hc : X.calm = true) (hI : PI X tg iter wi)
    (hg : ∀ C fp s H, PG (cxComp X N0 T scope C fp s H) tg g) (hfr : GFr g X.N.length) (hi : ∀ C fp s H, PIfs (cxComp X N0 T scope C fp s H) ifs tc) (he : ∀ C fp s H, PE (cxComp X N0 T scope C fp s H) elt te)
    (hs : ∀ x, foldedSetIterable iter X.env x = pure x := by intro _; rfl) : PE X (.ListComp elt [⟨tg, iter, ifs, 0⟩] scope pos) (tComp wi g tc te T.length) := by
  intro pins s σ H Q I h
  rw [eval_ListComp]
  refine wpAny_comprehension_free (use := none) rfl hs (closureFor_eq fun x hx hk => I.ok.has x.1 (S.free x hx hk)) S.kind S.names (thn (hI pins s σ H _ I h) fun v s1 h1 => thn h1 fun itv s2 h2 => ?_)
  obtain ⟨it, fp, tn, J, H2, e, I2, Tn, st2, f2, q2⟩ := h2
  subst e
  refine comp_core (RR := fun acc C => compPost (model X.prog X.w) X.A X.xe none (EP X pins σ Q) acc C) S hc hg hfr hi he I2 Tn st2 f2 q2 ?_
  intro D C s' H' m hn hC hL hcells hpins hfresh I' hI' q
  exact ⟨m, hn, fun h' hs' => ⟨.ref D, H', hI' h' hs', rfl, q⟩⟩

end
end L2

set_option Elab.async false
set_option linter.all false
set_option maxRecDepth 100000
namespace L2
open PySem PySem.Spec PyProof.Rows

/-! ### items of a list of values, the other way about -/
theorem Vals.of : ∀ {xs : List V} {us : List Value} {i : Nat} {u : Value}, Vals xs us → us[i]? = some u → ∃ x, xs[i]? = some x ∧ RelV x u
  | _, _, 0, u, .cons r _, e => ⟨_, rfl, by simp at e; subst e; exact r⟩
  | _, _, i + 1, u, .cons _ rr, e => by
    obtain ⟨x, hx, r⟩ := Vals.of (i := i) rr (by simpa using e)
    exact ⟨x, by simpa using hx, r⟩
theorem vals_strs : ∀ {ss : List Str} {us : List Value}, Vals (ss.map V.str) us → StrsAre us ss
  | [], _, .nil => .nil
  | s :: ss, _, .cons r rr => by
    obtain ⟨t, rfl⟩ := r
    exact .cons s t (vals_strs rr)
theorem strs_vals : ∀ {us : List Value} {ss : List Str}, StrsAre us ss → Vals (ss.map V.str) us
  | _, _, .nil => .nil
  | _, _, .cons y t h => .cons ⟨t, rfl⟩ (strs_vals h)

/-! ### all, any of a list of bools -/
theorem range_all (bs : List Bool) : (List.range bs.length).all (fun i => bs.getD i false) = bs.all id := by
  rw [Bool.eq_iff_iff, List.all_eq_true, List.all_eq_true]
  constructor
  · intro h b hb
    obtain ⟨i, hi, rfl⟩ := List.mem_iff_getElem.mp hb
    have := h i (List.mem_range.mpr hi)
    rw [List.getD_eq_getElem?_getD, List.getElem?_eq_getElem hi] at this
    exact this
  · intro h i hi
    have hi' := List.mem_range.mp hi
    rw [List.getD_eq_getElem?_getD, List.getElem?_eq_getElem hi']
    exact h _ (List.getElem_mem hi')
theorem bools_at {bs : List Bool} {us : List Value} (r : Vals (bs.map V.bl) us) {i : Nat} {v : Value} (e : us.toArray[i]? = some v) : v = .bool (bs.getD i false) := by
  obtain ⟨x, hx, rx⟩ := r.of (i := i) (by simpa using e)
  rw [List.getElem?_map] at hx
  cases hb : bs[i]? with
  | none => rw [hb] at hx; cases hx
  | some b =>
    rw [hb] at hx
    have hx' : V.bl b = x := Option.some.inj hx
    subst hx'
    rw [List.getD_eq_getElem?_getD, hb]
    exact rx
section
variable {X : Cx}
def rAll (K : PySem.W.Frag) : List V → Hp → VK → Prop := fun xs H Q => ∃ (p : Addr) (bs : List Bool), xs = [.ref p] ∧ SqL K H p (bs.map V.bl) ∧ Q (.bl (bs.all id)) H
theorem rAll_at {K : PySem.W.Frag} {H : Hp} {Q : VK} (p : Addr) : rAll K [.ref p] H Q = ∃ bs : List Bool, SqL K H p (bs.map V.bl) ∧ Q (.bl (bs.all id)) H := propext ⟨fun ⟨_, bs, e, q⟩ => by cases e; exact ⟨bs, q⟩, fun ⟨bs, q⟩ => ⟨p, bs, rfl, q⟩⟩
theorem call_allL (hc : X.calm = true) : CallR X (.builtin "all") (rAll X.K) := by
  intro pins s σ H xs us Q I r h
  obtain ⟨p, bs, rfl, hq, q⟩ := h
  obtain ⟨u, rfl, ru⟩ := vals1 r
  cases ru
  obtain ⟨its, rv, pl, hz⟩ := I.list hq
  have hlen : its.length = bs.length := by rw [← rv.length, List.length_map]
  refine call_all_walk (wpAny_pyIter_list pl.isList ?_)
  refine ⟨_, _, _, _, _, _, fun i => bs.getD i false, rfl, Walks.list (A := X.A.in1) (I.ok.hd hc) s.heap.objs.size p (Nat.ne_of_lt pl.lt) its.toArray, ⟨⟨_, Heap.get?_push_size _ rfl, rfl, rfl⟩, (pl.keeps fun b o e => Heap.get?_push_of_some _ e).isList⟩, ?_, fun h' tk hk => ?_⟩
  · intro i v s' Q' E' hP hQ
    rw [bools_at rv hP]
    exact wpAny_truthy_bool hQ
  · refine ⟨.bl (bs.all id), H, I.kept (t' := tk) fun b o e => hk b o (fun z => ?_) (Heap.get?_push_of_some _ e), ?_, q⟩
    · exact Nat.ne_of_lt (Heap.lt_size e) (by simpa using z)
    · have e : (List.range its.toArray.size).all (fun i => bs.getD i false) = bs.all id := by rw [List.size_toArray, hlen, range_all]
      show Value.bool ((List.range its.toArray.size).all fun i => bs.getD i false) = Value.bool (bs.all id)
      rw [e]
/-! ### isinstance -/
/-- the built-in type that a value is of -/
def tyName (H : Hp) : V → Option String
  | .non => some "NoneType"
  | .bl _ => some "bool"
  | .int _ => some "int"
  | .str _ => some "str"
  | .ref a => match H a with
    | some (.lst _) => some "list"
    | some (.frz _ (.lst _)) => some "list"
    | some (.tup _) => some "tuple"
    | some (.dK _) => some "dict"
    | some (.dT _) => some "dict"
    | _ => none
  | _ => none
theorem tyOf_name {K : PySem.W.Frag} {H : Hp} : ∀ {x : V} {T : String}, tyName H x = some T → TyOf K H x (.type T)
  | .non, T, h => by cases h; exact .non
  | .bl b, T, h => by cases h; exact .bl b
  | .int i, T, h => by cases h; exact .int i
  | .str y, T, h => by cases h; exact .str y
  | .byt _, T, h => by cases h
  | .flt _, T, h => by cases h
  | .ty _, T, h => by cases h
  | .ref a, T, h => by
    cases e : H a with
    | none => simp [tyName, e] at h
    | some o =>
      cases o with
      | lst xs => simp [tyName, e] at h; subst h; exact .lst e
      | tup xs => simp [tyName, e] at h; subst h; exact .tup e
      | dK xs => simp [tyName, e] at h; subst h; exact .dK e
      | dT xs => simp [tyName, e] at h; subst h; exact .dT e
      | frz ob u =>
        cases u with
        | lst xs => simp [tyName, e] at h; subst h; exact .frz e
        | _ => simp [tyName, e] at h
      | _ => simp [tyName, e] at h
def isT (T C : String) : Bool := T == C || (T == "bool" && C == "int")
theorem kit_name (K : PySem.W.Frag) {T C : String} (hT : T ∈ ["NoneType", "bool", "int", "str", "list", "tuple", "dict"]) (hC : C ∈ ["bool", "int", "str", "list", "tuple"]) : PySem.W.kitOne K (.type T) (.type C) = some (isT T C) := by
  simp only [List.mem_cons, List.mem_nil_iff, or_false] at hT hC
  rcases hT with rfl | rfl | rfl | rfl | rfl | rfl | rfl <;> rcases hC with rfl | rfl | rfl | rfl | rfl <;> (with_unfolding_all rfl)
theorem tyName_mem {H : Hp} {x : V} {T : String} (h : tyName H x = some T) : T ∈ ["NoneType", "bool", "int", "str", "list", "tuple", "dict"] := by
  cases x with
  | ref a =>
    cases e : H a with
    | none => simp [tyName, e] at h
    | some o =>
      cases o with
      | frz ob u => cases u <;> simp [tyName, e] at h <;> subst h <;> decide
      | _ => simp [tyName, e] at h <;> subst h <;> decide
  | _ => first | (cases h; decide) | cases h
def rIsT : List V → Hp → VK → Prop := fun xs H Q => ∃ (x : V) (T C : String), xs = [x, .ty C] ∧ tyName H x = some T ∧ C ∈ ["bool", "int", "str", "list", "tuple"] ∧ Q (.bl (isT T C)) H
theorem rIsT_at {H : Hp} {Q : VK} (x : V) (C : String) : rIsT [x, .ty C] H Q = ∃ T, tyName H x = some T ∧ C ∈ ["bool", "int", "str", "list", "tuple"] ∧ Q (.bl (isT T C)) H :=
  propext ⟨fun ⟨_, T, _, e, q⟩ => by cases e; exact ⟨T, q⟩, fun ⟨T, q⟩ => ⟨x, T, C, rfl, q⟩⟩
theorem call_isT : CallR X (.builtin "isinstance") rIsT := by
  intro pins s σ H xs us Q I r h
  obtain ⟨x, T, C, rfl, hT, hC, q⟩ := h
  obtain ⟨u, w', rfl, ru, rw'⟩ := vals2 r
  cases rw'
  exact isinst_ok I ru (tyOf_name hT) (kit_name X.K (tyName_mem hT) hC) fun tk => ⟨.bl (isT T C), H, I.tok tk, rfl, q⟩

/-! ### sep.join(texts) -/
/-! ### a loop over a text's signs -/
def Its (x : Str) : It := ⟨fun i _ => i < x.length, fun i H v H' => H' = H ∧ ∃ c, x.cps[i]? = some c ∧ v = .str ⟨#[c]⟩, fun i _ => x.length ≤ i⟩
theorem turn_str {P : Program} {w : World} {K : PySem.W.Frag} {tg : Expr} {it : Addr} {cls : String} {x : Str} {t : Tok} (hn : ["enumerate", "zip", "dict_itemiterator", "dict_reverseitemiterator", "odict_iterator", "itertools.zip_longest", "itertools.pairwise"].contains cls = false)
    (W : ∀ A : Around, A.handled = none → Walks P w A it [it] [it] x.cps.size (SignAt x) (fun i h => h.IsStrIter it cls x t i))
    (hself : ∀ (A : Around) (i : Nat) (s : Shared) (Q : Value → Shared → Prop) (E : Value → Shared → Prop), s.heap.IsStrIter it cls x t i → Q (.ref it) s → wpAny (model P w) A (pyIter (.ref it)) Q E s) : Turn P w K tg (Its x) [it] it (fun i h => h.IsStrIter it cls x t i ∧ i ≤ x.length) where
  mem := by simp
  obj := fun i h st b hb => by
    have e : b = it := by simpa using hb
    subst e
    obtain ⟨⟨o, e, c, d⟩, _⟩ := st
    exact ⟨o, e, fun v z => by rw [d] at z; cases z⟩
  keep := fun i h h' st k => by
    obtain ⟨⟨o, e, c, d⟩, z⟩ := st
    exact ⟨⟨o, k it (by simp) o e, c, d⟩, z⟩
  item := by
    intro X hP hw hK hc i pins s σ H E I hf st hg
    subst hP hw hK
    obtain ⟨f0, f1, f2, f3, f4, f5⟩ := hf it (by simp)
    have hg' : i < x.length := hg
    refine (W X.A (I.ok.hd hc)).item i s _ _ hg st.1 fun v h' tk hv st' kk => ?_
    obtain ⟨c, u, hcc, rfl⟩ := hv
    have I1 : Inv X pins σ H { s with heap := h', toks := tk } := I.turned (fun b o hb e => kk b o (by simpa using hb) e) f0 f1 f3 f4 f5
    obtain ⟨o, e, c', d⟩ := id st'
    exact ⟨_, rfl, go_of (s := { s with heap := h', toks := tk }) e c' d hn ⟨.str ⟨#[c]⟩, H, I1, ⟨u, rfl⟩, ⟨rfl, c, hcc, rfl⟩, ⟨st', hg'⟩, fun b hb => (hf b hb).1⟩⟩
  done := by
    intro X hP hw hK hc i pins s σ H E I hf st hg
    subst hP hw hK
    obtain ⟨f0, f1, f2, f3, f4, f5⟩ := hf it (by simp)
    have hg' : x.length ≤ i := hg
    have e : i = x.cps.size := Nat.le_antisymm st.2 hg'
    subst e
    exact (W X.A (I.ok.hd hc)).done s _ _ st.1 fun h' tk kk => ⟨rfl, I.turned (fun b o hb e => kk b o (by simpa using hb) e) f0 f1 f3 f4 f5⟩
  self := fun A i s Q E st h => hself A i s Q E st.1 h
def iStr (te : TE) : TI := fun σ H R => te σ H fun x H1 => ∃ y, x = .str y ∧ R (Its y) H1
theorem pi_str {tg e : Expr} {te : TE} (he : PE X e te) : PI X tg e (iStr te) := by
  intro pins s σ H R I h
  refine thn (he pins s σ H _ I h) fun v s1 ⟨x, H1, I1, r1, q1⟩ => ?_
  obtain ⟨y, e, q⟩ := q1
  subst e
  obtain ⟨t, rfl⟩ := r1
  have fin : ∀ (cls : String), PIE X pins σ tg R (.ref s1.heap.objs.size) { s1 with heap := s1.heap.push { cls := .type cls, data := .fields #[.str y t, .int 0 0] } } ∨ True := fun _ => .inr trivial
  cases ha : y.cps.all (· < 128)
  · refine wpAny_pyIter_wide ha ?_
    refine ⟨s1.heap.objs.size, [s1.heap.objs.size], _, Its y, H1, rfl, I1.kept (t' := s1.toks) fun b o e => Heap.get?_push_of_some _ e, turn_str (cls := "str_iterator") (by decide) (fun A hA => Walks.strWide hA _ y t) (fun A i s Q E st h => wpAny_pyIter_striter_wide st h), ⟨⟨_, Heap.get?_push_size _ rfl, rfl, rfl⟩, Nat.zero_le _⟩, fun b hb => ?_, q⟩
    have e : b = s1.heap.objs.size := by simpa using hb
    subst e
    exact I1.fpOk (Nat.le_refl _) (I1.hok.fresh (Nat.le_refl _))
  · refine wpAny_pyIter_ascii ha ?_
    refine ⟨s1.heap.objs.size, [s1.heap.objs.size], _, Its y, H1, rfl, I1.kept (t' := s1.toks) fun b o e => Heap.get?_push_of_some _ e, turn_str (cls := "str_ascii_iterator") (by decide) (fun A hA => Walks.strAscii hA _ y t) (fun A i s Q E st h => wpAny_pyIter_striter_ascii st h), ⟨⟨_, Heap.get?_push_size _ rfl, rfl, rfl⟩, Nat.zero_le _⟩, fun b hb => ?_, q⟩
    have e : b = s1.heap.objs.size := by simpa using hb
    subst e
    exact I1.fpOk (Nat.le_refl _) (I1.hok.fresh (Nat.le_refl _))
end

/-! ### the turns of a comprehension, of a loop, over what is walked -/
/-- a for's turns -/
def forW (J : It) (g : TG) (tb : TS) (D : Ends) (σ : St) (H : Hp) : Prop := ∃ W : Nat → Nat → St → Hp → Prop, (∃ m, W 0 m σ H) ∧ ∀ i m σ H, W i m σ H →
  (J.stop i H ∧ D.nx σ H) ∨ (J.go i H ∧ ∃ N : St → Hp → Prop, (∀ σ' H', N σ' H' → ∃ m', m' < m ∧ W (i + 1) m' σ' H') ∧ ∀ x H', J.yld i H x H' → g x σ H' fun σ2 H2 => tb { D with nx := N, ct := N, bk := D.nx } σ2 H2)
theorem tFor_at (wi : TI) (g : TG) (tb : TS) (D : Ends) (σ : St) (H : Hp) : tFor wi g tb D σ H = wi σ H fun J H1 => forW J g tb D σ H1 := rfl
theorem forW_list {K : PySem.W.Frag} {a : Addr} {xs : List V} {g : TG} {tb : TS} {D : Ends} {σ : St} {H : Hp} (Pv : Nat → St → Hp → Prop) (h0 : Pv 0 σ H) (hl : ∀ i σ H, i ≤ xs.length → Pv i σ H → SqL K H a xs)
    (hs : ∀ i x σ H, xs[i]? = some x → Pv i σ H → g x σ H fun σ2 H2 => tb { D with nx := Pv (i + 1), ct := Pv (i + 1), bk := D.nx } σ2 H2) (hd : ∀ σ H, Pv xs.length σ H → D.nx σ H) : forW (Itl K a) g tb D σ H :=
  for_list Pv h0 hl hs hd
theorem forW_range {lo : Int} {n : Nat} {g : TG} {tb : TS} {D : Ends} {σ : St} {H : Hp} (Pv : Nat → St → Hp → Prop) (h0 : Pv 0 σ H)
    (hs : ∀ i σ H, i < n → Pv i σ H → g (.int (lo + i)) σ H fun σ2 H2 => tb { D with nx := Pv (i + 1), ct := Pv (i + 1), bk := D.nx } σ2 H2) (hd : ∀ σ H, Pv n σ H → D.nx σ H) : forW (Itr lo n) g tb D σ H :=
  for_range Pv h0 hs hd
/-- behind the i-th item y of n: it goes onto the list at D -/
def CStep (n i : Nat) (Pv : Nat → List V → Hp → Prop) (D : Addr) (ys : List V) (y : V) (H : Hp) : Prop :=
  H D = some (.lst ys) ∧ ys.length < sizeLine ∧ ∃ m', m' < n - i ∧ (m' = n - (i + 1) ∧ i + 1 ≤ n ∧ Pv (i + 1) (ys ++ [y]) (upd H D (.lst (ys ++ [y]))))
theorem cstep {n i : Nat} {Pv : Nat → List V → Hp → Prop} {D : Addr} {ys : List V} {y : V} {H : Hp} (hi : i < n) (hlen : ys.length = i) (hz : n ≤ sizeLine) (h1 : H D = some (.lst ys)) (h2 : Pv (i + 1) (ys ++ [y]) (upd H D (.lst (ys ++ [y])))) : CStep n i Pv D ys y H :=
  ⟨h1, by omega, n - (i + 1), by omega, rfl, hi, h2⟩
def compK (n i : Nat) (Pv : Nat → List V → Hp → Prop) (D : Addr) (ys : List V) (te : TE) (σ : St) (H : Hp) : Prop :=
  if true = true then te σ H (CStep n i Pv D ys) else ∃ m', m' < n - i ∧ (m' = n - (i + 1) ∧ i + 1 ≤ n ∧ Pv (i + 1) ys H)
theorem compK_at {n i : Nat} {Pv : Nat → List V → Hp → Prop} {D : Addr} {ys : List V} {te : TE} {σ : St} {H : Hp} : compK n i Pv D ys te σ H = te σ H (CStep n i Pv D ys) := by
  unfold compK; rw [if_pos rfl]
/-- a comprehension without a test: n turns -/
theorem compW_by {J : It} {g : TG} {te : TE} {nT : Nat} {σ : St} {D : Addr} {Q : VK} {H : Hp} (n : Nat) (Pv : Nat → List V → Hp → Prop) (h0 : Pv 0 [] H) (hgo : ∀ i ys H, i < n → Pv i ys H → J.go i H) (hst : ∀ ys H, Pv n ys H → J.stop n H)
    (hs : ∀ i ys H x H', i < n → Pv i ys H → J.yld i H x H' → g x (σ ++ List.replicate nT none) H' (compK n i Pv D ys te))
    (hd : ∀ ys H, Pv n ys H → Q (.ref D) H) : compW J g tYes te nT σ D Q H := by
  refine ⟨fun i m ys H => m = n - i ∧ i ≤ n ∧ Pv i ys H, ⟨n, by simp, Nat.zero_le _, h0⟩, ?_⟩
  rintro i m ys H ⟨rfl, hi, p⟩
  by_cases hlt : i < n
  · exact .inr ⟨hgo i ys H hlt p, fun x H' y => hs i ys H x H' hlt p y⟩
  · have e : i = n := by omega
    subst e
    exact .inl ⟨hst ys H p, hd ys H p⟩
theorem compW_list {K : PySem.W.Frag} {a : Addr} {xs : List V} {g : TG} {te : TE} {nT : Nat} {σ : St} {D : Addr} {Q : VK} {H : Hp} (Pv : Nat → List V → Hp → Prop) (h0 : Pv 0 [] H) (hl : ∀ i ys H, i ≤ xs.length → Pv i ys H → SqL K H a xs)
    (hs : ∀ i ys H x, xs[i]? = some x → i < xs.length → Pv i ys H → g x (σ ++ List.replicate nT none) H (compK xs.length i Pv D ys te))
    (hd : ∀ ys H, Pv xs.length ys H → Q (.ref D) H) : compW (Itl K a) g tYes te nT σ D Q H := by
  refine compW_by xs.length Pv h0 (fun i ys H hi p => ⟨xs, xs[i], hl i ys H (Nat.le_of_lt hi) p, by simp [hi]⟩) (fun ys H p => ⟨xs, hl _ ys H (Nat.le_refl _) p, Nat.le_refl _⟩) (fun i ys H x H' hi p yl => ?_) hd
  obtain ⟨rfl, y⟩ := yl
  exact hs i ys _ x (y xs (hl i ys _ (Nat.le_of_lt hi) p)) hi p
theorem compW_range {lo : Int} {n : Nat} {g : TG} {te : TE} {nT : Nat} {σ : St} {D : Addr} {Q : VK} {H : Hp} (Pv : Nat → List V → Hp → Prop) (h0 : Pv 0 [] H)
    (hs : ∀ i ys H, i < n → Pv i ys H → g (.int (lo + i)) (σ ++ List.replicate nT none) H (compK n i Pv D ys te))
    (hd : ∀ ys H, Pv n ys H → Q (.ref D) H) : compW (Itr lo n) g tYes te nT σ D Q H := by
  refine compW_by n Pv h0 (fun i ys H hi p => hi) (fun ys H p => Nat.le_refl _) (fun i ys H x H' hi p yl => ?_) hd
  obtain ⟨rfl, rfl⟩ := yl
  exact hs i ys _ hi p
theorem compW_str {y : Str} {g : TG} {te : TE} {nT : Nat} {σ : St} {D : Addr} {Q : VK} {H : Hp} (Pv : Nat → List V → Hp → Prop) (h0 : Pv 0 [] H)
    (hs : ∀ i ys H c, y.cps[i]? = some c → i < y.length → Pv i ys H → g (.str ⟨#[c]⟩) (σ ++ List.replicate nT none) H (compK y.length i Pv D ys te))
    (hd : ∀ ys H, Pv y.length ys H → Q (.ref D) H) : compW (Its y) g tYes te nT σ D Q H := by
  refine compW_by y.length Pv h0 (fun i ys H hi p => hi) (fun ys H p => Nat.le_refl _) (fun i ys H x H' hi p yl => ?_) hd
  obtain ⟨rfl, c, hc, rfl⟩ := yl
  exact hs i ys _ c hc hi p
end L2

set_option Elab.async false
set_option linter.all false
set_option maxRecDepth 100000
namespace L2
open PySem PySem.Spec PyProof.Rows

/-! ### readings, applied -/
/-- the rest of a block, not yet read -/
def Rest (u : TS) (D : Ends) (σ : St) (H : Hp) : Prop := u D σ H
section
variable {D : Ends} {σ : St} {H : Hp} {Q : VK} {B : Bool → Hp → Prop} {L : List V → Hp → Prop} {R : It → Hp → Prop} {G : St → Hp → Prop}
theorem tSeq_at (t u : TS) : tSeq t u D σ H = t { D with nx := Rest u D } σ H := rfl
theorem rest_at (u : TS) : Rest u D σ H = u D σ H := rfl
theorem tNext_at : tNext D σ H = D.nx σ H := rfl
theorem tIfS_at (c : TT) (t u : TS) : tIfS c t u D σ H = c σ H fun b H1 => if b = true then t D σ H1 else u D σ H1 := rfl
theorem tRet_at (t : TE) : tRet t D σ H = t σ H D.rt := rfl
theorem tDrop_at (t : TE) : tDrop t D σ H = t σ H fun _ H1 => D.nx σ H1 := rfl
theorem tAsg_at (t : TE) (g : TG) : tAsg t g D σ H = t σ H fun x H1 => g x σ H1 D.nx := rfl
theorem gName_at (i : Nat) (v : V) : gName i v σ H G = G (σ.set i (some v)) H := rfl
theorem gSub_at (to ti : TE) (t : TSet) (v : V) : gSub to ti t v σ H G = to σ H fun o H1 => ti σ H1 fun i H2 => t o i v H2 fun H3 => G σ H3 := rfl
theorem tVar_at (i : Nat) : tVar i σ H Q = ∃ v, σ[i]? = some (some v) ∧ Q v H := rfl
theorem tC_at (v : V) : tC v σ H Q = Q v H := rfl
theorem tOp_at (r : R2) (ta tb : TE) : tOp r ta tb σ H Q = ta σ H fun x H1 => tb σ H1 fun y H2 => r x y H2 Q := rfl
theorem tUn_at (r : V → Hp → VK → Prop) (ta : TE) : tUn r ta σ H Q = ta σ H fun x H1 => r x H1 Q := rfl
theorem tTest_at (t : TE) : tTest t σ H B = t σ H fun x H' => ∃ k, x = .bl k ∧ B k H' := rfl
theorem tB_at (t : TE) : tB t σ H B = t σ H fun x H' => ∃ k, x = .bl k ∧ B k H' := rfl
theorem tAnd_at (t u : TT) : tAnd t u σ H B = t σ H fun c H1 => if c = true then u σ H1 B else B false H1 := rfl
theorem tOr_at (t u : TT) : tOr t u σ H B = t σ H fun c H1 => if c = true then B true H1 else u σ H1 B := rfl
theorem tNot_at (t : TT) : tNot t σ H B = t σ H fun c H1 => B (!c) H1 := rfl
theorem tAndV_at (ta tb : TE) : tAndV ta tb σ H Q = ta σ H fun x H1 => ∃ c, x = .bl c ∧ if c = true then tb σ H1 Q else Q (.bl false) H1 := rfl
theorem tOrV_at (ta tb : TE) : tOrV ta tb σ H Q = ta σ H fun x H1 => ∃ c, x = .bl c ∧ if c = true then Q (.bl true) H1 else tb σ H1 Q := rfl
theorem tNotV_at (ta : TE) : tNotV ta σ H Q = ta σ H fun x H1 => ∃ c, x = .bl c ∧ Q (.bl (!c)) H1 := rfl
theorem tCB_at (r : List V → Hp → VK → Prop) (t : TA) : tCB r t σ H Q = t σ H fun vs H1 => r vs H1 Q := rfl
theorem tCons_at (ta : TE) (tr : TA) : tCons ta tr σ H L = ta σ H fun x H1 => tr σ H1 fun xs H2 => L (x :: xs) H2 := rfl
theorem tNil_at : tNil σ H L = L [] H := rfl
theorem tTup_at (t : TA) : tTup t σ H Q = t σ H fun xs H1 => xs.length ≤ sizeLine ∧ ∀ p, H1 p = none → Q (.ref p) (upd H1 p (.tup xs)) := rfl
theorem tLst_at (t : TA) : tLst t σ H Q = t σ H fun xs H1 => xs.length ≤ sizeLine ∧ ∀ p, H1 p = none → Q (.ref p) (upd H1 p (.lst xs)) := rfl
theorem tCall_at (sp : Sp) (dvs : List V) (E : XK) (t : TA) : tCall sp dvs E t σ H Q = t σ H fun vs H1 => sp (vs ++ dvs) H1 Q E := rfl
theorem tBM_at (K : PySem.W.Frag) (T : String) (r : V → List V → Hp → VK → Prop) (to : TE) (t : TA) : tBM K T r to t σ H Q = to σ H fun x H1 => tyV K T x H1 ∧ t σ H1 fun xs H2 => r x xs H2 Q := rfl
theorem tChain_at (r r' : R2) (ta tb tc : TE) : tChain r r' ta tb tc σ H Q = ta σ H fun x H1 => tb σ H1 fun y H2 => r x y H2 fun z H3 => ∃ k, z = .bl k ∧ (if k = true then tc σ H3 fun w' H4 => r' y w' H4 Q else Q (.bl false) H3) := rfl
theorem tSl_at (r : V → Option Int → Option Int → Hp → VK → Prop) (te : TE) (tl th : TO) : tSl r te tl th σ H Q = te σ H fun x H1 => tl σ H1 fun l H2 => th σ H2 fun u H3 => r x l u H3 Q := rfl
theorem tPart_at (t : TE) (O : Option Int → Hp → Prop) : tPart t σ H O = t σ H fun x H1 => ∃ i, x = .int i ∧ O (some i) H1 := rfl
theorem tNoPart_at (O : Option Int → Hp → Prop) : tNoPart σ H O = O none H := rfl
theorem tComp_at (wi : TI) (g : TG) (tc : TT) (te : TE) (nT : Nat) : tComp wi g tc te nT σ H Q = wi σ H fun J H1 => ∀ D, H1 D = none → compW J g tc te nT σ D Q (upd H1 D (.lst [])) := rfl
theorem tYes_at : tYes σ H B = B true H := rfl
theorem iList_at (K : PySem.W.Frag) (tl : TE) : iList K tl σ H R = tl σ H fun x H1 => ∃ a, x = .ref a ∧ (∃ xs, SqL K H1 a xs) ∧ R (Itl K a) H1 := rfl
theorem iStr_at (te : TE) : iStr te σ H R = te σ H fun x H1 => ∃ y, x = .str y ∧ R (Its y) H1 := rfl
theorem iRng1_at (ta : TA) : iRng1 ta σ H R = ta σ H fun vs H1 => ∃ j : Int, vs = [.int j] ∧ -(2 ^ 62) ≤ j ∧ j < 2 ^ 62 ∧ R (Itr 0 j.toNat) H1 := rfl
theorem iRng2_at (ta : TA) : iRng2 ta σ H R = ta σ H fun vs H1 => ∃ i j : Int, vs = [.int i, .int j] ∧ (-(2 ^ 62) ≤ i ∧ i < 2 ^ 62 ∧ -(2 ^ 62) ≤ j ∧ j < 2 ^ 62) ∧ R (Itr i (j - i).toNat) H1 := rfl
theorem rI0_at (g : Int → Int → V) (i j : Int) : rI0 g (.int i) (.int j) H Q = Q (g i j) H := propext ⟨fun ⟨_, _, e1, e2, q⟩ => by cases e1; cases e2; exact q, fun q => ⟨i, j, rfl, rfl, q⟩⟩
theorem rI_at (C : Int → Int → Prop) (g : Int → Int → V) (i j : Int) : rI C g (.int i) (.int j) H Q = (C i j ∧ Q (g i j) H) := propext ⟨fun ⟨_, _, e1, e2, q⟩ => by cases e1; cases e2; exact q, fun q => ⟨i, j, rfl, rfl, q⟩⟩
end

/-! ### a def of the text that may be called; a name that the module binds -/
structure DefAt (K : PySem.W.Frag) (mg : Str → Option Value) (x : Str) (st : Stmt) : Prop where
  ex : ∃ f fd, Fun K x x st f fd ∧ mg x = some (.ref f)
structure Cal (P : Program) (w : World) (K : PySem.W.Frag) (mg : Str → Option Value) (base : Heap) (k : Nat) (x : Str) (ps : List Str) (sp : Sp) : Prop where
  ex : ∃ f fd, FnOk P w K mg base CX0 k f fd ps sp ∧ Binds K fd ps [] ∧ PySem.W.keepIn K (.ref f) = true ∧ mg x = some (.ref f)
section
variable {P : Program} {w : World} {K : PySem.W.Frag} {mg : Str → Option Value} {base : Heap}
theorem DefAt.cal {x : Str} {st : Stmt} {N ps : List Str} {k : Nat} {sp : Sp} (D : DefAt K mg x st) (S : FnScope N ps (defScope st))
    (hb : ∀ (kV doc pm : Value) (an : Option Addr) (cdv ct : Value) (us : List Value), us.length = ps.length → bindArgs (PySem.W.fnOf x x (defArgs st) (defBody st) (defScope st) .none kV doc pm an cdv ct) ⟨us, []⟩ = pure (ps.zip us))
    (len : ∀ vs H Q E, sp vs H Q E → vs.length = ps.length)
    (hbody : ∀ (f : Addr) (cdv : Value) (A : Around) (outer : List Env) (s : Shared) (H : Hp) (vs : List V) (Q : VK) (E : XK), Room k (A.deeper (envOfC x (defScope st) s.heap.objs.size f cdv)) → sp vs H Q E →
      ∃ t, PSs (cxOf CX0 P w K mg base N x (defScope st) f cdv A outer s H E).nox (defBody st) t ∧ t { nx := fun _ H' => Q .non H', rt := Q } (start N vs) H) : Cal P w K mg base (k + 1) x ps sp := by
  obtain ⟨f, fd, F, m⟩ := D.ex
  exact ⟨f, fd, F.ok S len fun cdv A outer s H vs Q E hr h => hbody f cdv A outer s H vs Q E hr h, F.binds hb, F.kp, m⟩
end
section
variable {X : Cx}
theorem pe_cal {j k : Nat} {x : Str} {ps : List Str} {sp : Sp} {p pos : Pos} {e : Expr} {es : List Expr} {t : TA} (c : Cal X.prog X.w X.K X.mg X.base j x ps sp) (hr : Room k X.A) (ha : PA X (e :: es) t) (hle : j ≤ k := by decide) (hg : Gl X x := by rfl)
    (hdb : (x == ("__debug__" : Str)) = false := by decide) (he : starEach (e :: es) X.env = (false, eval e X.env) :: starEach es X.env := by rfl) (hpl : (backTo pos (starEach es X.env)).any (·.1) = false := by rfl) :
    PE X (.Call (.Name x p) (e :: es) [] pos) (tCall sp [] E0 t) := by
  obtain ⟨f, fd, F, b, kp, m⟩ := c.ex
  exact pe_call F (hr.mono hle) hg m kp b .nil pass0 ha hdb he hpl
theorem pe_gstr {x : Str} {y : Str} {pos : Pos} (h : ∃ t, X.mg x = some (.str y t)) (hg : Gl X x := by rfl) (hd : (x == ("__debug__" : Str)) = false := by decide) : PE X (.Name x pos) (tC (.str y)) := by
  obtain ⟨t, h⟩ := h
  exact pe_glob hg h ⟨t, rfl⟩ hd
theorem pe_gint {x : Str} {i : Int} {pos : Pos} (h : ∃ t, X.mg x = some (.int i t)) (hg : Gl X x := by rfl) (hd : (x == ("__debug__" : Str)) = false := by decide) : PE X (.Name x pos) (tC (.int i)) := by
  obtain ⟨t, h⟩ := h
  exact pe_glob hg h ⟨t, rfl⟩ hd
/-- a built-in type's name as a value -/
theorem pe_gty {x : Str} {T : String} {pos : Pos} (hm : X.mg x = none) (hv : bootBuiltins x = some (.type T)) (hg : Gl X x := by rfl) (hn : x ≠ "__name__" := by decide) (hd : (x == ("__debug__" : Str)) = false := by decide) : PE X (.Name x pos) (tC (.ty T)) :=
  pe_bltn hg hm hv rfl hn hd
/-- a call of a built-in -/
theorem pe_blt {x : Str} {p pos : Pos} {e : Expr} {es : List Expr} {t : TA} {id : String} {r : List V → Hp → VK → Prop} (hc : CallR X (.builtin id) r) (hm : X.mg x = none) (hv : bootBuiltins x = some (.builtin id)) (ha : PA X (e :: es) t) (hg : Gl X x := by rfl)
    (hn : x ≠ "__name__" := by decide) (hdb : (x == ("__debug__" : Str)) = false := by decide) (he : starEach (e :: es) X.env = (false, eval e X.env) :: starEach es X.env := by rfl) (hpl : (backTo pos (starEach es X.env)).any (·.1) = false := by rfl) :
    PE X (.Call (.Name x p) (e :: es) [] pos) (tCB r t) := pe_callB hc hg hm hv ha hn hdb he hpl
theorem pe_bty {x : Str} {p pos : Pos} {e : Expr} {es : List Expr} {t : TA} {T : String} {r : List V → Hp → VK → Prop} (hc : CallR X (.type T) r) (hm : X.mg x = none) (hv : bootBuiltins x = some (.type T)) (ha : PA X (e :: es) t) (hg : Gl X x := by rfl)
    (hn : x ≠ "__name__" := by decide) (hdb : (x == ("__debug__" : Str)) = false := by decide) (he : starEach (e :: es) X.env = (false, eval e X.env) :: starEach es X.env := by rfl) (hpl : (backTo pos (starEach es X.env)).any (·.1) = false := by rfl) :
    PE X (.Call (.Name x p) (e :: es) [] pos) (tCB r t) := pe_callTy hc hg hm hv ha hn hdb he hpl
end

/-! ### operations by the values' kinds -/
section
variable {X : Cx}
def rAddA : R2 := fun x y H Q => match x, y with
  | .int i, .int j => Q (.int (i + j)) H
  | .str a, .str b => a.length + b.length ≤ sizeLine ∧ Q (.str (a ++ b)) H
  | .ref l, .ref b => ∃ xs zs, H l = some (.lst xs) ∧ H b = some (.lst zs) ∧ xs.length + zs.length ≤ sizeLine ∧ ∀ p, H p = none → Q (.ref p) (upd H p (.lst (xs ++ zs)))
  | _, _ => False
theorem op_addA : OpR X (binaryOp .Add) rAddA := by
  intro pins s σ H x y v u Q I rx ry h
  cases x <;> cases y <;> first
    | exact (show False from h).elim
    | exact op_add pins s σ H _ _ v u Q I rx ry ⟨_, _, rfl, rfl, h⟩
    | exact op_add_str pins s σ H _ _ v u Q I rx ry ⟨_, _, rfl, rfl, h⟩
    | (obtain ⟨xs, zs, h1, h2, h3, h4⟩ := h; exact op_cat pins s σ H _ _ v u Q I rx ry ⟨_, _, xs, zs, rfl, rfl, h1, h2, h3, h4⟩)
def rLtA : R2 := fun x y H Q => match x, y with
  | .int i, .int j => Q (.bl (decide (i < j))) H
  | .str i, .str j => Q (.bl (decide (i.cps.toList < j.cps.toList))) H
  | _, _ => False
theorem op_ltA : OpR X (compareOp .Lt) rLtA := by
  intro pins s σ H x y v u Q I rx ry h
  cases x <;> cases y <;> first
    | exact (show False from h).elim
    | exact op_lt pins s σ H _ _ v u Q I rx ry ⟨_, _, rfl, rfl, h⟩
    | exact op_lt_str pins s σ H _ _ v u Q I rx ry ⟨_, _, rfl, rfl, h⟩
def rInA (K : PySem.W.Frag) : R2 := fun x y H Q => match x, y with
  | .str i, .str j => Q (.bl (!(Builtin.Str.occurrences j i 0 j.length 1).isEmpty)) H
  | x, .ref p => ∃ xs, (SqL K H p xs ∨ SqT K H p xs) ∧ flatV x = true ∧ xs.all flatV = true ∧ Q (.bl (inV x xs)) H
  | _, _ => False
theorem op_inA : OpR X (compareOp .In) (rInA X.K) := by
  intro pins s σ H x y v u Q I rx ry h
  cases y with
  | str j =>
    cases x with
    | str i => exact op_in_str pins s σ H _ _ v u Q I rx ry ⟨i, j, rfl, rfl, h⟩
    | _ => exact (show False from h).elim
  | ref p =>
    have h' : ∃ xs, (SqL X.K H p xs ∨ SqT X.K H p xs) ∧ flatV x = true ∧ xs.all flatV = true ∧ Q (.bl (inV x xs)) H := by cases x <;> exact h
    obtain ⟨xs, h1, h2, h3, h4⟩ := h'
    exact op_in_seq pins s σ H _ _ v u Q I rx ry ⟨p, xs, rfl, h1, h2, h3, h4⟩
  | _ => cases x <;> exact (show False from h).elim
def rNotInA (K : PySem.W.Frag) : R2 := fun x y H Q => match x, y with
  | .str i, .str j => Q (.bl (!(!(Builtin.Str.occurrences j i 0 j.length 1).isEmpty))) H
  | x, .ref p => ∃ xs, (SqL K H p xs ∨ SqT K H p xs) ∧ flatV x = true ∧ xs.all flatV = true ∧ Q (.bl (!inV x xs)) H
  | _, _ => False
theorem op_notInA : OpR X (compareOp .NotIn) (rNotInA X.K) := by
  intro pins s σ H x y v u Q I rx ry h
  cases y with
  | str j =>
    cases x with
    | str i => exact op_notin_str pins s σ H _ _ v u Q I rx ry ⟨i, j, rfl, rfl, h⟩
    | _ => exact (show False from h).elim
  | ref p =>
    have h' : ∃ xs, (SqL X.K H p xs ∨ SqT X.K H p xs) ∧ flatV x = true ∧ xs.all flatV = true ∧ Q (.bl (!inV x xs)) H := by cases x <;> exact h
    obtain ⟨xs, h1, h2, h3, h4⟩ := h'
    exact op_notIn_seq pins s σ H _ _ v u Q I rx ry ⟨p, xs, rfl, h1, h2, h3, h4⟩
  | _ => cases x <;> exact (show False from h).elim
def rLenA (K : PySem.W.Frag) : List V → Hp → VK → Prop := fun xs H Q => match xs with
  | [.str z] => z.length ≤ sizeLine ∧ Q (.int z.length) H
  | [.ref p] => ∃ ys, (SqL K H p ys ∨ SqT K H p ys) ∧ Q (.int ys.length) H
  | _ => False
theorem call_lenA : CallR X (.builtin "len") (rLenA X.K) := by
  intro pins s σ H xs us Q I r h
  match xs, h with
  | [.str z], h => exact call_len_str pins s σ H _ us Q I r ⟨z, rfl, h⟩
  | [.ref p], h => obtain ⟨ys, h1, h2⟩ := h; exact call_len_seq pins s σ H _ us Q I r ⟨p, ys, rfl, h1, h2⟩
/-- a[b], a a list, a tuple or a text -/
def rIxA (K : PySem.W.Frag) : R2 := fun x y H Q => match x, y with
  | .ref p, .int i => ∃ xs v, (SqL K H p xs ∨ SqT K H p xs) ∧ atI xs i = some v ∧ Q v H
  | .str z, .int i => ∃ c, z.length ≤ sizeLine ∧ atI z.cps.toList i = some c ∧ Q (.str ⟨#[c]⟩) H
  | _, _ => False
theorem ix_A : IxR X (rIxA X.K) := by
  intro value slice pins s σ H x y v u Q I rx ry h hs
  refine ix_seq value slice pins s σ H x y v u Q I rx ry ?_ hs
  match x, y, h with
  | .ref p, .int i, h =>
    obtain ⟨xs, v', h1, h2, h3⟩ := h
    rcases h1 with h1 | h1
    · exact .inl ⟨p, xs, i, v', rfl, rfl, h1, h2, h3⟩
    · exact .inr (.inl ⟨p, xs, i, v', rfl, rfl, h1, h2, h3⟩)
  | .str z, .int i, h =>
    obtain ⟨c, h1, h2, h3⟩ := h
    exact .inr (.inr ⟨z, i, c, rfl, rfl, h1, h2, h3⟩)
end
section
variable {K : PySem.W.Frag} {H : Hp} {Q : VK}
theorem rAddA_int (i j : Int) : rAddA (.int i) (.int j) H Q = Q (.int (i + j)) H := rfl
theorem rAddA_str (a b : Str) : rAddA (.str a) (.str b) H Q = (a.length + b.length ≤ sizeLine ∧ Q (.str (a ++ b)) H) := rfl
theorem rAddA_ref (l b : Addr) : rAddA (.ref l) (.ref b) H Q = ∃ xs zs, H l = some (.lst xs) ∧ H b = some (.lst zs) ∧ xs.length + zs.length ≤ sizeLine ∧ ∀ p, H p = none → Q (.ref p) (upd H p (.lst (xs ++ zs))) := rfl
theorem rLtA_int (i j : Int) : rLtA (.int i) (.int j) H Q = Q (.bl (decide (i < j))) H := rfl
theorem rLtA_str (i j : Str) : rLtA (.str i) (.str j) H Q = Q (.bl (decide (i.cps.toList < j.cps.toList))) H := rfl
theorem rInA_str (i j : Str) : rInA K (.str i) (.str j) H Q = Q (.bl (!(Builtin.Str.occurrences j i 0 j.length 1).isEmpty)) H := rfl
theorem rInA_ref (x : V) (p : Addr) : rInA K x (.ref p) H Q = ∃ xs, (SqL K H p xs ∨ SqT K H p xs) ∧ flatV x = true ∧ xs.all flatV = true ∧ Q (.bl (inV x xs)) H := by cases x <;> rfl
theorem rNotInA_str (i j : Str) : rNotInA K (.str i) (.str j) H Q = Q (.bl (!(!(Builtin.Str.occurrences j i 0 j.length 1).isEmpty))) H := rfl
theorem rNotInA_ref (x : V) (p : Addr) : rNotInA K x (.ref p) H Q = ∃ xs, (SqL K H p xs ∨ SqT K H p xs) ∧ flatV x = true ∧ xs.all flatV = true ∧ Q (.bl (!inV x xs)) H := by cases x <;> rfl
theorem rLenA_str (z : Str) : rLenA K [.str z] H Q = (z.length ≤ sizeLine ∧ Q (.int z.length) H) := rfl
theorem rLenA_ref (p : Addr) : rLenA K [.ref p] H Q = ∃ ys, (SqL K H p ys ∨ SqT K H p ys) ∧ Q (.int ys.length) H := rfl
theorem rIxA_ref (p : Addr) (i : Int) : rIxA K (.ref p) (.int i) H Q = ∃ xs v, (SqL K H p xs ∨ SqT K H p xs) ∧ atI xs i = some v ∧ Q v H := rfl
theorem rIxA_str (z : Str) (i : Int) : rIxA K (.str z) (.int i) H Q = ∃ c, z.length ≤ sizeLine ∧ atI z.cps.toList i = some c ∧ Q (.str ⟨#[c]⟩) H := rfl
theorem rSetL_at (p : Addr) (k : Int) (v : V) (G : Hp → Prop) : rSetL (.ref p) (.int k) v H G = ∃ xs j, H p = some (.lst xs) ∧ ixN xs.length k = some j ∧ G (upd H p (.lst (xs.set j v))) :=
  propext ⟨fun ⟨_, xs, _, j, e1, e2, q⟩ => by cases e1; cases e2; exact ⟨xs, j, q⟩, fun ⟨xs, j, q⟩ => ⟨p, xs, k, j, rfl, rfl, q⟩⟩
theorem rAppend_at (p : Addr) (y : V) : rAppend (.ref p) [y] H Q = ∃ xs, H p = some (.lst xs) ∧ xs.length < sizeLine ∧ Q .non (upd H p (.lst (xs ++ [y]))) :=
  propext ⟨fun ⟨_, xs, _, e1, e2, q⟩ => by cases e1; cases e2; exact ⟨xs, q⟩, fun ⟨xs, q⟩ => ⟨p, xs, y, rfl, rfl, q⟩⟩
theorem tyV_str (y : Str) : tyV K "str" (.str y) H = True := eq_true rfl
theorem tyV_lst (p : Addr) : (tyV K "list" (.ref p) H) = ∃ xs, SqL K H p xs := by
  refine propext ⟨fun h => ?_, fun h => .inl ⟨rfl, h⟩⟩
  rcases h with ⟨_, h⟩ | ⟨h, _⟩ | ⟨h, _⟩ | ⟨h, _⟩
  · exact h
  · exact absurd h (by decide)
  · exact absurd h (by decide)
  · exact absurd h (by decide)
end
theorem bt_len : bootBuiltins "len" = some (.builtin "len") := by decide +kernel
theorem bt_isinstance : bootBuiltins "isinstance" = some (.builtin "isinstance") := by decide +kernel
theorem bt_all : bootBuiltins "all" = some (.builtin "all") := by decide +kernel
theorem bt_min : bootBuiltins "min" = some (.builtin "min") := by decide +kernel
theorem bt_sorted : bootBuiltins "sorted" = some (.builtin "sorted") := by decide +kernel
theorem bt_str : bootBuiltins "str" = some (.type "str") := by decide +kernel
theorem bt_int : bootBuiltins "int" = some (.type "int") := by decide +kernel
theorem bt_bool : bootBuiltins "bool" = some (.type "bool") := by decide +kernel
theorem bt_list : bootBuiltins "list" = some (.type "list") := by decide +kernel
theorem bt_tuple : bootBuiltins "tuple" = some (.type "tuple") := by decide +kernel
/-- name = value -/
theorem ps_let {X : Cx} (i : Nat) {x : Str} {e : Expr} {te : TE} {pos pos' : Pos} (hN : X.N.Nodup) (he : PE X e te) (hi : X.N[i]? = some x := by rfl) (hx : Loc X.env.scope x := by first | exact Or.inl rfl | exact Or.inr rfl) (hs : swapsWith e (some (.Name x pos')) pos.line X.env = pure false := by rfl)
    (hf : X.fn x = true ∨ X.env.scope.names.lookup x = some .local := by first | exact .inl rfl | exact .inr rfl | assumption) : PS X (.Assign [.Name x pos'] e pos) (tAsg te (gName i)) := ps_set hN hi hx he hs hf
theorem pg_let {X : Cx} (i : Nat) {x : Str} {pos : Pos} (hN : X.N.Nodup) (hi : X.N[i]? = some x := by rfl) (hx : Loc X.env.scope x := by first | exact Or.inl rfl | exact Or.inr rfl)
    (hf : X.fn x = true ∨ X.env.scope.names.lookup x = some .local := by first | exact .inl rfl | exact .inr rfl | assumption) : PG X (.Name x pos) (gName i) := pg_name hN hi hx hf
/-- what the scope of a block must be, by closed parts -/
structure CompSc (fsc : Scope) (N N0 T : List Str) (scope : Scope) : Prop where
  kind : scope.kind = .function
  nocell : ∀ y ∈ scope.names, y.2 ≠ .cell
  names : ∀ y ∈ scope.names, y.2 = .local → scope.names.lookup y.1 = some .local
  free : ∀ y ∈ scope.names, y.2 = .free → fsc.names.lookup y.1 = some .cell ∨ fsc.names.lookup y.1 = some .free
  apart : ∀ y ∈ scope.names, y.2 = .local → y.1 ∉ N0
  len0 : N0.length = N.length
  same : ((N0.zip N).all fun p => p.1 == p.2 || !(scope.names.any fun y => y.1 == p.1)) = true
theorem CompSc.to {X : Cx} {fsc : Scope} {N N0 T : List Str} {scope : Scope} (S : CompSc fsc N N0 T scope) (h1 : X.env.scope = fsc) (h2 : X.N = N) : CompScope X N0 T scope := by
  subst h1 h2
  refine ⟨S.kind, S.nocell, S.names, S.free, S.apart, S.len0, fun i x k e m => ?_⟩
  have hl := S.len0
  have hi : i < N0.length := (List.getElem?_eq_some_iff.mp e).1
  have hN : X.N[i]? = some X.N[i] := List.getElem?_eq_getElem (by omega)
  have hz : (x, X.N[i]) ∈ N0.zip X.N := List.mem_of_getElem? (i := i) (by rw [List.getElem?_zip_eq_some]; exact ⟨e, hN⟩)
  have q := List.all_eq_true.mp S.same _ hz
  simp only [Bool.or_eq_true, beq_iff_eq, Bool.not_eq_true'] at q
  rcases q with q | q
  · rw [hN, ← q]
  · have : (scope.names.any fun y => y.1 == x) = true := List.any_eq_true.mpr ⟨_, m, by simp⟩
    rw [this] at q; cases q
/-! ### == of scalars (deep: elsewhere) -/
def rEqA : R2 := rEq
def rNeA : R2 := rNe
theorem op_eqA {X : Cx} : OpR X (compareOp .Eq) rEqA := op_eq
theorem op_neA {X : Cx} : OpR X (compareOp .NotEq) rNeA := op_ne
section
variable {K : PySem.W.Frag} {H : Hp} {Q : VK}
theorem rEqA_int (i j : Int) : rEqA (.int i) (.int j) H Q = Q (.bl (decide (i = j))) H := by
  have e : decide (V.int i = V.int j) = decide (i = j) := by by_cases h : i = j <;> simp [h]
  show (scal (.int i) (.int j) = true ∧ Q (.bl (decide (V.int i = V.int j))) H) = _
  rw [e]; exact propext ⟨fun h => h.2, fun h => ⟨rfl, h⟩⟩
theorem rEqA_bl (i j : Bool) : rEqA (.bl i) (.bl j) H Q = Q (.bl (i == j)) H := by
  show (scal (.bl i) (.bl j) = true ∧ Q (.bl (decide (V.bl i = V.bl j))) H) = _
  rw [dec_bl]; exact propext ⟨fun h => h.2, fun h => ⟨rfl, h⟩⟩
theorem rEqA_str (i j : Str) : rEqA (.str i) (.str j) H Q = Q (.bl (decide (i = j))) H := by
  have e : decide (V.str i = V.str j) = decide (i = j) := by by_cases h : i = j <;> simp [h]
  show (scal (.str i) (.str j) = true ∧ Q (.bl (decide (V.str i = V.str j))) H) = _
  rw [e]; exact propext ⟨fun h => h.2, fun h => ⟨rfl, h⟩⟩
theorem rNeA_int (i j : Int) : rNeA (.int i) (.int j) H Q = Q (.bl (!decide (i = j))) H := by
  have e : decide (V.int i = V.int j) = decide (i = j) := by by_cases h : i = j <;> simp [h]
  show (scal (.int i) (.int j) = true ∧ Q (.bl (!decide (V.int i = V.int j))) H) = _
  rw [e]; exact propext ⟨fun h => h.2, fun h => ⟨rfl, h⟩⟩
theorem rNeA_str (i j : Str) : rNeA (.str i) (.str j) H Q = Q (.bl (!decide (i = j))) H := by
  have e : decide (V.str i = V.str j) = decide (i = j) := by by_cases h : i = j <;> simp [h]
  show (scal (.str i) (.str j) = true ∧ Q (.bl (!decide (V.str i = V.str j))) H) = _
  rw [e]; exact propext ⟨fun h => h.2, fun h => ⟨rfl, h⟩⟩
end
theorem set_A {X : Cx} : PSet X rSetL := set_list
/-! ### the same rules with the text's part K named (inside a comprehension the context is a letter) -/
section
variable {X : Cx} (K : PySem.W.Frag)
theorem op_inK (hK : X.K = K := by rfl) : OpR X (compareOp .In) (rInA K) := hK ▸ op_inA
theorem op_notInK (hK : X.K = K := by rfl) : OpR X (compareOp .NotIn) (rNotInA K) := hK ▸ op_notInA
theorem call_lenK (hK : X.K = K := by rfl) : CallR X (.builtin "len") (rLenA K) := hK ▸ call_lenA
theorem ix_K (hK : X.K = K := by rfl) : IxR X (rIxA K) := hK ▸ ix_A
theorem call_allK (hK : X.K = K := by rfl) (hc : X.calm = true := by rfl) : CallR X (.builtin "all") (rAll K) := hK ▸ call_allL hc
theorem sl_listK (hK : X.K = K := by rfl) : SlR X (rSlL K) := hK ▸ sl_list
theorem pi_listK {tg l : Expr} {tl : TE} (hl : PE X l tl) (hK : X.K = K := by rfl) : PI X tg l (iList K tl) := hK ▸ pi_list hl
theorem pe_bmK {o e : Expr} {es : List Expr} {to : TE} {t : TA} {name : Str} {apos cpos : Pos} {T id : String} {r : V → List V → Hp → VK → Prop} (pa : PlainAttrs T) (slot : Slot T name id) (hty : typeOf (.builtin id) = pure (.type "method_descriptor")) (hm : MtR X id r) (ho : PE X o to) (ha : PA X (e :: es) t)
    (hbase : attributeBase o name X.env (eval o X.env) = eval o X.env := by rfl)
    (hfew : ((backTo cpos (starEach (e :: es) X.env)).all (fun x => !x.1) && (backToKw cpos (keywordEach [] X.env)).all (fun x => x.1.isSome) && decide ((e :: es).length + ([] : List Keyword).length + (if ([] : List Keyword).isEmpty then 0 else 1) < 30)) = true := by rfl)
    (hline : (apos.endLine == cpos.line) = true := by rfl) (hs : starEach (e :: es) X.env = (false, eval e X.env) :: starEach es X.env := by rfl) (hplain : (backTo cpos (starEach es X.env)).any (·.1) = false := by rfl) (hK : X.K = K := by rfl) :
    PE X (.Call (.Attribute o name apos) (e :: es) [] cpos) (tBM K T r to t) := hK ▸ pe_bm pa slot hty hm ho ha hbase hfew hline hs hplain
theorem call_listK (hK : X.K = K := by rfl) : CallR X (.type "list") (fun xs H Q => ∃ p ys, xs = [.ref p] ∧ (SqL K H p ys ∨ SqT K H p ys) ∧ ∀ l, H l = none → Q (.ref l) (upd H l (.lst ys))) := hK ▸ call_list_of
theorem call_tupleK (hK : X.K = K := by rfl) : CallR X (.type "tuple") (fun xs H Q => ∃ p ys, xs = [.ref p] ∧ ((SqL K H p ys ∧ ∀ l, H l = none → Q (.ref l) (upd H l (.tup ys))) ∨ (SqT K H p ys ∧ Q (.ref p) H))) := hK ▸ call_tuple_of
end
theorem ex_one (n : Int) (P : Int → Prop) : (∃ j, [V.int n] = [V.int j] ∧ P j) = P n := propext ⟨fun ⟨_, e, h⟩ => by cases e; exact h, fun h => ⟨n, rfl, h⟩⟩
theorem ex_two (n m : Int) (P : Int → Int → Prop) : (∃ i j, [V.int n, V.int m] = [V.int i, V.int j] ∧ P i j) = P n m := propext ⟨fun ⟨_, _, e, h⟩ => by cases e; exact h, fun h => ⟨n, m, rfl, h⟩⟩
theorem ex_cons (x : V) (xs : List V) (P : V → List V → Prop) : (∃ v r, x :: xs = v :: r ∧ P v r) = P x xs := propext ⟨fun ⟨_, _, e, h⟩ => by cases e; exact h, fun h => ⟨x, xs, rfl, h⟩⟩
theorem ex_nil (P : Prop) : (([] : List V) = [] ∧ P) = P := propext ⟨fun h => h.2, fun h => ⟨rfl, h⟩⟩
/-! ### names of a block, by closed parts -/
def relabelS (scope fsc : Scope) : Scope := { scope with names := scope.names.map fun (n, k) => if (k == .free && fsc.kind == .function && fsc.names.lookup n == some .cell) then (n, .cell) else (n, k) }
section
variable {X : Cx} {N0 T : List Str} {scope : Scope} {C : Addr} {fp : List Addr} {s : Shared} {H : Hp} {x : Str}
theorem glC (fsc : Scope) (h : (relabelS scope fsc).names.lookup x = some .globalImplicit) (e : X.env.scope = fsc := by rfl) : Gl (cxComp X N0 T scope C fp s H) x := by subst e; exact h
theorem visC (fsc : Scope) (h : ((relabelS scope fsc).names.lookup x = some .local || (relabelS scope fsc).names.lookup x = some .cell || (relabelS scope fsc).names.lookup x = some .free) = true) (e : X.env.scope = fsc := by rfl) : Vis (cxComp X N0 T scope C fp s H).env.scope x := by
  subst e
  simp only [Bool.or_eq_true, decide_eq_true_eq] at h
  rcases h with (h | h) | h
  · exact .inl h
  · exact .inr (.inl h)
  · exact .inr (.inr h)
theorem locC (fsc : Scope) (h : (relabelS scope fsc).names.lookup x = some .local) (e : X.env.scope = fsc := by rfl) : Loc (cxComp X N0 T scope C fp s H).env.scope x := by subst e; exact .inl h
theorem fnC (fsc : Scope) (h : (relabelS scope fsc).names.lookup x = some .local) (e : X.env.scope = fsc := by rfl) : (cxComp X N0 T scope C fp s H).fn x = true ∨ (cxComp X N0 T scope C fp s H).env.scope.names.lookup x = some .local := by subst e; exact .inr h
end
theorem mt_appendA {X : Cx} : MtR X "list.append" rAppend := mt_append
theorem PW.pt' {X : Cx} {e : Expr} {t : TT} (h : PW X e t) : PT X e t := h.pt
/-- a block by what holds between two of its statements -/
theorem seq_by {t u : TS} {D : Ends} {σ : St} {H : Hp} (I : St → Hp → Prop) (h : ∀ k : St → Hp → Prop, (∀ σ' H', I σ' H' → k σ' H') → t { D with nx := k } σ H) (hu : ∀ σ' H', I σ' H' → Rest u D σ' H') : Rest (tSeq t u) D σ H := h _ hu
theorem tPairs_nil {σ : St} {H : Hp} {Q : List (V × V) → Hp → Prop} : tPairs [] σ H Q = Q [] H := rfl
theorem tPairs_cons {σ : St} {H : Hp} {Q : List (V × V) → Hp → Prop} (tk tv : TE) (r : List (TE × TE)) : tPairs ((tk, tv) :: r) σ H Q = tk σ H fun x H1 => tv σ H1 fun y H2 => tPairs r σ H2 fun ps H3 => Q ((x, y) :: ps) H3 := rfl
theorem Same.upd {H H' : Hp} {p : Addr} (sm : Same H H') (h : H p = none) (o : HO) : Same H (upd H' p o) := fun b u q => by rw [upd_ne (ne_of_none q h)]; exact sm b u q
theorem same_new {H : Hp} {p : Addr} (h : H p = none) (o : HO) : Same H (upd H p o) := fun b u q => by rw [upd_ne (ne_of_none q h)]; exact q
end L2

set_option Elab.async false
set_option linter.all false
set_option maxRecDepth 100000
namespace L2
open PySem PySem.Spec PyProof.Rows PySem.SeqAt

/-! ### == of lists and tuples, as deep as n -/
def EqN (K : PySem.W.Frag) (H : Hp) : Nat → V → V → Bool → Prop
  | 0, x, y, b => flatV x = true ∧ flatV y = true ∧ b = eqV x y
  | n + 1, x, y, b => (flatV x = true ∧ flatV y = true ∧ b = eqV x y) ∨ ∃ a c xs ys, x = .ref a ∧ y = .ref c ∧ ((SqL K H a xs ∧ SqL K H c ys) ∨ (SqT K H a xs ∧ SqT K H c ys)) ∧
      ((∃ e : Nat → Bool, xs.length = ys.length ∧ (∀ (i : Nat) x y, xs[i]? = some x → ys[i]? = some y → EqN K H n x y (e i)) ∧ b = (List.range xs.length).all e) ∨
        (SqL K H a xs ∧ SqL K H c ys ∧ xs.length ≠ ys.length ∧ b = false))
theorem eqV_self : ∀ {x : V}, flatV x = true → eqV x x = true
  | .non, _ => rfl
  | .bl b, _ => by simp [eqV]
  | .int i, _ => by simp [eqV]
  | .str y, _ => by simp [eqV]
section
variable {X : Cx} {pins : List (Addr × Obj)} {σ : St} {H : Hp} {s : Shared}
theorem EqN.self (I : Inv X pins σ H s) : ∀ {n : Nat} {x : V} {b : Bool}, EqN X.K H n x x b → b = true
  | 0, x, b, h => by obtain ⟨h1, _, rfl⟩ := h; exact eqV_self h1
  | n + 1, x, b, h => by
    rcases h with ⟨h1, _, rfl⟩ | ⟨a, c, xs, ys, rfl, e, hq, h⟩
    · exact eqV_self h1
    · cases e
      have exy : xs = ys := by
        rcases hq with ⟨q1, q2⟩ | ⟨q1, q2⟩
        · exact I.list_inj q1 q2
        · exact I.tuple_inj q1 q2
      subst exy
      rcases h with ⟨e, _, he, rfl⟩ | ⟨_, _, z, _⟩
      · rw [List.all_eq_true]
        intro i hi
        have hi' := List.mem_range.mp hi
        have q := he i xs[i] xs[i] (List.getElem?_eq_getElem hi') (List.getElem?_eq_getElem hi')
        exact EqN.self I q
      · exact absurd rfl z
theorem EqN.rc (I : Inv X pins σ H s) {n : Nat} (ih : ∀ {A : Around} {x y : V} {b : Bool} {u v : Value}, A.units + n < cLine → EqN X.K H n x y b → RelV x u → RelV y v → EqAt A s u v b)
    {A : Around} {a c : Addr} {xs ys : List V} {b : Bool} (hu : A.units + (n + 1) < cLine) (hq : (SqL X.K H a xs ∧ SqL X.K H c ys) ∨ (SqT X.K H a xs ∧ SqT X.K H c ys))
    (h : (∃ e : Nat → Bool, xs.length = ys.length ∧ (∀ (i : Nat) x y, xs[i]? = some x → ys[i]? = some y → EqN X.K H n x y (e i)) ∧ b = (List.range xs.length).all e) ∨ (SqL X.K H a xs ∧ SqL X.K H c ys ∧ xs.length ≠ ys.length ∧ b = false)) :
    RcAt A s (.ref a) (.ref c) b ∧ RcNeAt A s (.ref a) (.ref c) (!b) := by
  have hin : A.in1.units + n < cLine := by
    have : A.in1.units = A.units + 1 := rfl
    omega
  rcases h with ⟨e, hl, he, rfl⟩ | ⟨q1, q2, hl, rfl⟩
  · rcases hq with ⟨q1, q2⟩ | ⟨q1, q2⟩
    · obtain ⟨i1, r1, p1, z1⟩ := I.list q1
      obtain ⟨i2, r2, p2, z2⟩ := I.list q2
      have l1 := r1.length
      have l2 := r2.length
      have hit : ∀ j (h1 : j < i1.toArray.size) (h2 : j < i2.toArray.size), EqAt A.in1 s i1.toArray[j] i2.toArray[j] (e j) := fun j h1 h2 => by
        obtain ⟨x, hx, rx⟩ := r1.of (i := j) (u := i1.toArray[j]) (by simp at h1 ⊢)
        obtain ⟨y, hy, ry⟩ := r2.of (i := j) (u := i2.toArray[j]) (by simp at h2 ⊢)
        exact ih hin (he j x y hx hy) rx ry
      have ez : xs.length = i1.toArray.size := by simp; omega
      rw [ez]
      exact ⟨RcAt.lists p1.isList p2.isList (by simp; omega) (by omega) hit, RcNeAt.lists p1.isList p2.isList (by simp; omega) (by omega) hit⟩
    · obtain ⟨i1, r1, p1, z1⟩ := I.tuple q1
      obtain ⟨i2, r2, p2, z2⟩ := I.tuple q2
      have l1 := r1.length
      have l2 := r2.length
      have hit : ∀ j (h1 : j < i1.toArray.size) (h2 : j < i2.toArray.size), EqAt A.in1 s i1.toArray[j] i2.toArray[j] (e j) := fun j h1 h2 => by
        obtain ⟨x, hx, rx⟩ := r1.of (i := j) (u := i1.toArray[j]) (by simp at h1 ⊢)
        obtain ⟨y, hy, ry⟩ := r2.of (i := j) (u := i2.toArray[j]) (by simp at h2 ⊢)
        exact ih hin (he j x y hx hy) rx ry
      have ez : (List.range xs.length).all e = ((List.range (min i1.toArray.size i2.toArray.size)).all e && i1.toArray.size == i2.toArray.size) := by
        have e1 : i1.toArray.size = xs.length := by simp; omega
        have e2 : i2.toArray.size = xs.length := by simp; omega
        rw [e1, e2, Nat.min_self]; simp
      rw [ez]
      exact ⟨RcAt.tuples (show s.heap.IsTuple a i1.toArray from p1) (show s.heap.IsTuple c i2.toArray from p2) (by omega) hit, RcNeAt.tuples (show s.heap.IsTuple a i1.toArray from p1) (show s.heap.IsTuple c i2.toArray from p2) (by omega) hit⟩
  · obtain ⟨i1, r1, p1, z1⟩ := I.list q1
    obtain ⟨i2, r2, p2, z2⟩ := I.list q2
    have l1 := r1.length
    have l2 := r2.length
    have hne : (i1.toArray.size != i2.toArray.size) = true := by
      rw [bne_iff_ne]; simp; omega
    exact ⟨RcAt.lists_lengths p1.isList p2.isList hne (by omega), RcNeAt.lists_lengths p1.isList p2.isList hne (by omega)⟩
theorem EqN.at (I : Inv X pins σ H s) : ∀ {n : Nat} {A : Around} {x y : V} {b : Bool} {u v : Value}, A.units + n < cLine → EqN X.K H n x y b → RelV x u → RelV y v → EqAt A s u v b
  | 0, A, x, y, b, u, v, _, h, rx, ry => by obtain ⟨h1, h2, rfl⟩ := h; exact eqAt_V rx ry h1 h2
  | n + 1, A, x, y, b, u, v, hu, h, rx, ry => by
    have h0 := h
    rcases h with ⟨h1, h2, rfl⟩ | ⟨a, c, xs, ys, rfl, rfl, hq, h⟩
    · exact eqAt_V rx ry h1 h2
    · cases rx
      cases ry
      by_cases hac : a = c
      · subst hac
        rw [EqN.self I h0]
        exact EqAt.same _
      · exact EqAt.of_refs hac (EqN.rc I (fun hu' q rx ry => EqN.at I hu' q rx ry) hu hq h).1
end
section
variable {X : Cx}
def rEqD (K : PySem.W.Frag) : R2 := fun x y H Q => ∃ (a c : Addr) (n : Nat) (b : Bool), x = .ref a ∧ y = .ref c ∧ n ≤ 100 ∧ EqN K H (n + 1) x y b ∧ Q (.bl b) H
def rNeD (K : PySem.W.Frag) : R2 := fun x y H Q => ∃ (a c : Addr) (n : Nat) (b : Bool), x = .ref a ∧ y = .ref c ∧ n ≤ 100 ∧ EqN K H (n + 1) x y b ∧ Q (.bl (!b)) H
theorem op_eqD (hu : X.A.units + 101 < cLine) : OpR X (compareOp .Eq) (rEqD X.K) := by
  intro pins s σ H x y v u Q I rx ry h
  obtain ⟨a, c, n, b, rfl, rfl, hn, he, q⟩ := h
  cases rx
  cases ry
  rcases he with ⟨h1, _⟩ | ⟨a', c', xs, ys, e1, e2, hq, h⟩
  · cases h1
  · cases e1
    cases e2
    exact (EqN.rc I (fun hu' q rx ry => EqN.at I hu' q rx ry) (by omega) hq h).1 _ _ _ _ ⟨.bl b, H, I, rfl, q⟩
theorem op_neD (hu : X.A.units + 101 < cLine) : OpR X (compareOp .NotEq) (rNeD X.K) := by
  intro pins s σ H x y v u Q I rx ry h
  obtain ⟨a, c, n, b, rfl, rfl, hn, he, q⟩ := h
  cases rx
  cases ry
  rcases he with ⟨h1, _⟩ | ⟨a', c', xs, ys, e1, e2, hq, h⟩
  · cases h1
  · cases e1
    cases e2
    exact (EqN.rc I (fun hu' q rx ry => EqN.at I hu' q rx ry) (by omega) hq h).2 _ _ _ _ ⟨.bl (!b), H, I, rfl, q⟩
theorem op_eqKD (K : PySem.W.Frag) {k : Nat} (hr : Room k X.A) (hK : X.K = K := by rfl) : OpR X (compareOp .Eq) (rEqD K) := by subst hK; exact op_eqD (by have := hr.un; omega)
theorem op_neKD (K : PySem.W.Frag) {k : Nat} (hr : Room k X.A) (hK : X.K = K := by rfl) : OpR X (compareOp .NotEq) (rNeD K) := by subst hK; exact op_neD (by have := hr.un; omega)
end
section
variable {K : PySem.W.Frag} {H : Hp} {Q : VK}
theorem rEqD_at (a c : Addr) : rEqD K (.ref a) (.ref c) H Q = ∃ (n : Nat) (b : Bool), n ≤ 100 ∧ EqN K H (n + 1) (.ref a) (.ref c) b ∧ Q (.bl b) H :=
  propext ⟨fun ⟨_, _, n, b, e1, e2, q⟩ => ⟨n, b, q⟩, fun ⟨n, b, q⟩ => ⟨a, c, n, b, rfl, rfl, q⟩⟩
theorem rNeD_at (a c : Addr) : rNeD K (.ref a) (.ref c) H Q = ∃ (n : Nat) (b : Bool), n ≤ 100 ∧ EqN K H (n + 1) (.ref a) (.ref c) b ∧ Q (.bl (!b)) H :=
  propext ⟨fun ⟨_, _, n, b, e1, e2, q⟩ => ⟨n, b, q⟩, fun ⟨n, b, q⟩ => ⟨a, c, n, b, rfl, rfl, q⟩⟩
theorem EqN.flat {n : Nat} {x y : V} (hx : flatV x = true) (hy : flatV y = true) : EqN K H n x y (eqV x y) := by
  cases n with
  | zero => exact ⟨hx, hy, rfl⟩
  | succ n => exact .inl ⟨hx, hy, rfl⟩
theorem EqN.refl {n : Nat} {x : V} (hx : flatV x = true) : EqN K H n x x true := by
  have q : EqN K H n x x (eqV x x) := EqN.flat hx hx
  rwa [eqV_self hx] at q
/-- two lists (tuples) whose items are equal -/
theorem EqN.seq {n : Nat} {a c : Addr} {xs ys : List V} (hq : (SqL K H a xs ∧ SqL K H c ys) ∨ (SqT K H a xs ∧ SqT K H c ys)) (hl : xs.length = ys.length) (he : ∀ (i : Nat) x y, xs[i]? = some x → ys[i]? = some y → EqN K H n x y true) : EqN K H (n + 1) (.ref a) (.ref c) true :=
  .inr ⟨a, c, xs, ys, rfl, rfl, hq, .inl ⟨fun _ => true, hl, he, by simp⟩⟩
theorem EqN.seqFlat {n : Nat} {a c : Addr} {xs : List V} (hq : (SqL K H a xs ∧ SqL K H c xs) ∨ (SqT K H a xs ∧ SqT K H c xs)) (hf : ∀ x ∈ xs, flatV x = true) : EqN K H (n + 1) (.ref a) (.ref c) true :=
  EqN.seq hq rfl fun i x y e1 e2 => by
    rw [e1] at e2; cases e2
    exact EqN.refl (hf x (List.mem_of_getElem? e1))
theorem EqN.strs {n : Nat} {a c : Addr} {ss ts : List Str} (h1 : SqL K H a (ss.map V.str)) (h2 : SqL K H c (ts.map V.str)) : EqN K H (n + 1) (.ref a) (.ref c) (decide (ss = ts)) := by
  refine .inr ⟨a, c, _, _, rfl, rfl, .inl ⟨h1, h2⟩, ?_⟩
  by_cases hl : ss.length = ts.length
  · refine .inl ⟨fun i => ss.getD i default == ts.getD i default, by simp [hl], fun i x y e1 e2 => ?_, ?_⟩
    · rw [List.getElem?_map] at e1 e2
      cases q1 : ss[i]? with
      | none => rw [q1] at e1; cases e1
      | some u =>
        cases q2 : ts[i]? with
        | none => rw [q2] at e2; cases e2
        | some v =>
          rw [q1] at e1; rw [q2] at e2
          cases e1; cases e2
          dsimp only
          rw [List.getD_eq_getElem?_getD, List.getD_eq_getElem?_getD, q1, q2]
          exact EqN.flat rfl rfl
    · rw [List.length_map]
      by_cases e : ss = ts
      · subst e
        rw [decide_eq_true rfl]
        symm
        rw [List.all_eq_true]
        intro i _
        simp
      · rw [decide_eq_false e]
        symm
        rw [List.all_eq_false]
        have : ∃ i : Nat, ss[i]? ≠ ts[i]? := by
          refine Classical.byContradiction fun hn => e (List.ext_getElem? fun i => ?_)
          exact Classical.byContradiction fun h => hn ⟨i, h⟩
        obtain ⟨i, hi⟩ := this
        have hlt : i < ss.length := by
          refine Classical.byContradiction fun hn => hi ?_
          rw [List.getElem?_eq_none (by omega), List.getElem?_eq_none (by omega)]
        refine ⟨i, List.mem_range.mpr hlt, ?_⟩
        rw [List.getD_eq_getElem?_getD, List.getD_eq_getElem?_getD, List.getElem?_eq_getElem hlt, List.getElem?_eq_getElem (by omega)]
        rw [List.getElem?_eq_getElem hlt, List.getElem?_eq_getElem (by omega)] at hi
        simpa using hi
  · have e : ss ≠ ts := fun e => hl (by rw [e])
    rw [decide_eq_false e]
    exact .inr ⟨h1, h2, by simpa using hl, rfl⟩
end

/-! ### sorted texts -/
section
variable {X : Cx}
def rSortS (K : PySem.W.Frag) : List V → Hp → VK → Prop := fun xs H Q => ∃ (p : Addr) (ss : List Str), xs = [.ref p] ∧ SqL K H p (ss.map V.str) ∧ ss.length < 64 ∧ ∀ (l : Addr) (ts : List Str), H l = none → ts.Perm ss → sortedS ts = true → Q (.ref l) (upd H l (.lst (ts.map V.str)))
theorem rSortS_at {K : PySem.W.Frag} {H : Hp} {Q : VK} (p : Addr) : rSortS K [.ref p] H Q = ∃ ss : List Str, SqL K H p (ss.map V.str) ∧ ss.length < 64 ∧ ∀ (l : Addr) (ts : List Str), H l = none → ts.Perm ss → sortedS ts = true → Q (.ref l) (upd H l (.lst (ts.map V.str))) :=
  propext ⟨fun ⟨_, ss, e, q⟩ => by cases e; exact ⟨ss, q⟩, fun ⟨ss, q⟩ => ⟨p, ss, rfl, q⟩⟩
theorem call_sortS (K : PySem.W.Frag) (hK : X.K = K := by rfl) : CallR X (.builtin "sorted") (rSortS K) := by
  subst hK
  intro pins s σ H xs us Q I r h
  obtain ⟨p, ss, rfl, hq, h64, q⟩ := h
  obtain ⟨u, rfl, ru⟩ := vals1 r
  cases ru
  obtain ⟨its, rv, pl, hz⟩ := I.list hq
  have hlen : its.length = ss.length := by rw [← rv.length, List.length_map]
  refine sorted_strs pl.isList (vals_strs rv) (by omega) fun out ts h1 h2 h3 => ?_
  obtain ⟨e, he⟩ := sortedAll_at s.heap its out
  have hl : ts.length = ss.length := h2.length_eq
  have hs : sizeLine = 16777216 := sizeLine_eq
  exact ⟨.ref (s.heap.objs.size + 1), _, I.laid (t' := s.toks) (fun b o e => sortedAll_old e) (Nat.le_succ _) (show ObjOk X.prog X.w _ _ _ (.lst (ts.map V.str)) from ⟨by rw [List.length_map]; omega, out.toList, e, strs_vals h1, by simpa using he⟩), rfl,
    q _ ts (I.hok.fresh (Nat.le_succ _)) h2 h3⟩

/-! ### words.index(text) -/
end

/-! ### more readings by name -/
section
variable {X : Cx}
def rIsN : R2 := fun x y H Q => y = .non ∧ Q (.bl (decide (x = .non))) H
theorem op_isNA : OpR X (compareOp .Is) rIsN := op_isN
def rStrI : List V → Hp → VK → Prop := fun xs H Q => ∃ i, xs = [.int i] ∧ i.natAbs.log2 < 1920 ∧ Q (.str (toString i)) H
theorem call_strI : CallR X (.type "str") rStrI := call_str_int
def rInt1 : List V → Hp → VK → Prop := fun xs H Q => (∃ i, xs = [.int i] ∧ Q (.int i) H) ∨ ∃ k, xs = [.bl k] ∧ Q (.int (if k then 1 else 0)) H
theorem call_intA : CallR X (.type "int") rInt1 := call_int1
def rListOf (K : PySem.W.Frag) : List V → Hp → VK → Prop := fun xs H Q => ∃ p ys, xs = [.ref p] ∧ (SqL K H p ys ∨ SqT K H p ys) ∧ ∀ l, H l = none → Q (.ref l) (upd H l (.lst ys))
theorem call_listA (K : PySem.W.Frag) (hK : X.K = K := by rfl) : CallR X (.type "list") (rListOf K) := call_listK K hK
def rTupOf (K : PySem.W.Frag) : List V → Hp → VK → Prop := fun xs H Q => ∃ p ys, xs = [.ref p] ∧ ((SqL K H p ys ∧ ∀ l, H l = none → Q (.ref l) (upd H l (.tup ys))) ∨ (SqT K H p ys ∧ Q (.ref p) H))
theorem call_tupA (K : PySem.W.Frag) (hK : X.K = K := by rfl) : CallR X (.type "tuple") (rTupOf K) := call_tupleK K hK
def rMin2 : List V → Hp → VK → Prop := fun xs H Q => ∃ i j, xs = [.int i, .int j] ∧ Q (.int (if j < i then j else i)) H
theorem call_minA (hc : X.calm = true := by rfl) : CallR X (.builtin "min") rMin2 := call_min2 hc
/-- an int times an int, a text times an int -/
def rMulB : R2 := fun x y H Q => match x, y with
  | .int i, .int j => CMul i j ∧ Q (.int (i * j)) H
  | .str z, .int n => 0 ≤ n ∧ n ≤ 4096 ∧ z.length ≤ 4096 ∧ Q (.str (Txt.mul z n)) H
  | _, _ => False
theorem op_mulB : OpR X (binaryOp .Mult) rMulB := by
  intro pins s σ H x y v u Q I rx ry h
  match x, y, h with
  | .int i, .int j, h => exact op_mul pins s σ H _ _ v u Q I rx ry ⟨_, _, rfl, rfl, h⟩
  | .str z, .int n, h =>
    obtain ⟨t, rfl⟩ := rx
    obtain ⟨t', rfl⟩ := ry
    obtain ⟨h0, h1, h2, q⟩ := h
    exact SB.mul (mulOk_of 4096 4096 h2 (by omega) (by omega) (by decide) (by decide)) fun t' k => ⟨.str (Txt.mul z n), H, I.tok k, ⟨t', rfl⟩, q⟩
end
section
variable {K : PySem.W.Frag} {H : Hp} {Q : VK}
theorem rIsN_at (x : V) : rIsN x .non H Q = Q (.bl (decide (x = .non))) H := propext ⟨fun h => h.2, fun h => ⟨rfl, h⟩⟩
theorem rStrI_at (i : Int) : rStrI [.int i] H Q = (i.natAbs.log2 < 1920 ∧ Q (.str (toString i)) H) := propext ⟨fun ⟨_, e, q⟩ => by cases e; exact q, fun q => ⟨i, rfl, q⟩⟩
theorem rInt1_int (i : Int) : rInt1 [.int i] H Q = Q (.int i) H := propext ⟨fun h => by rcases h with ⟨_, e, q⟩ | ⟨_, e, q⟩ <;> cases e; exact q, fun q => .inl ⟨i, rfl, q⟩⟩
theorem rInt1_bl (k : Bool) : rInt1 [.bl k] H Q = Q (.int (if k then 1 else 0)) H := propext ⟨fun h => by rcases h with ⟨_, e, q⟩ | ⟨_, e, q⟩ <;> cases e; exact q, fun q => .inr ⟨k, rfl, q⟩⟩
theorem rListOf_at (p : Addr) : rListOf K [.ref p] H Q = ∃ ys, (SqL K H p ys ∨ SqT K H p ys) ∧ ∀ l, H l = none → Q (.ref l) (upd H l (.lst ys)) := propext ⟨fun ⟨_, ys, e, q⟩ => by cases e; exact ⟨ys, q⟩, fun ⟨ys, q⟩ => ⟨p, ys, rfl, q⟩⟩
theorem rTupOf_at (p : Addr) : rTupOf K [.ref p] H Q = ∃ ys, ((SqL K H p ys ∧ ∀ l, H l = none → Q (.ref l) (upd H l (.tup ys))) ∨ (SqT K H p ys ∧ Q (.ref p) H)) := propext ⟨fun ⟨_, ys, e, q⟩ => by cases e; exact ⟨ys, q⟩, fun ⟨ys, q⟩ => ⟨p, ys, rfl, q⟩⟩
theorem rMin2_at (i j : Int) : rMin2 [.int i, .int j] H Q = Q (.int (if j < i then j else i)) H := propext ⟨fun ⟨_, _, e, q⟩ => by cases e; exact q, fun q => ⟨i, j, rfl, q⟩⟩
theorem rMulB_int (i j : Int) : rMulB (.int i) (.int j) H Q = (CMul i j ∧ Q (.int (i * j)) H) := rfl
theorem rMulB_str (z : Str) (n : Int) : rMulB (.str z) (.int n) H Q = (0 ≤ n ∧ n ≤ 4096 ∧ z.length ≤ 4096 ∧ Q (.str (Txt.mul z n)) H) := rfl
theorem rSlL_at (a : Addr) (lo hi : Option Int) : rSlL K (.ref a) lo hi H Q = ∃ xs, SqL K H a xs ∧ ∀ p, H p = none → Q (.ref p) (upd H p (.lst (cutV xs lo hi))) := propext ⟨fun ⟨_, xs, e, q⟩ => by cases e; exact ⟨xs, q⟩, fun ⟨xs, q⟩ => ⟨a, xs, rfl, q⟩⟩
theorem rU_at (g : Int → V) (i : Int) : rU g (.int i) H Q = Q (g i) H := propext ⟨fun ⟨_, e, q⟩ => by cases e; exact q, fun q => ⟨i, rfl, q⟩⟩
end
/-! ### small facts of use everywhere -/
theorem small' {n : Nat} (h : n ≤ 1000000) : n < sizeLine := by
  have : sizeLine = 16777216 := sizeLine_eq
  omega
theorem smallL {n : Nat} (h : n ≤ 1000000) : n ≤ sizeLine := Nat.le_of_lt (small' h)
/-- an item of a list of ints -/
theorem at_map {α : Type} {f : α → V} {xs : List α} {i : Int} {x : α} (h0 : 0 ≤ i) (h : xs[i.toNat]? = some x) : atI (xs.map f) i = some (f x) := by
  have q : (xs.map f)[i.toNat]? = some (f x) := by rw [List.getElem?_map, h]; rfl
  have q' := atI_nat q
  rwa [show ((i.toNat : Nat) : Int) = i by omega] at q'
theorem at_lst {α : Type} {xs : List α} {i : Int} (h0 : 0 ≤ i) (h : i < xs.length) : ∃ x, xs[i.toNat]? = some x ∧ atI xs i = some x := by
  have hk : i.toNat < xs.length := by omega
  refine ⟨xs[i.toNat], List.getElem?_eq_getElem hk, ?_⟩
  have q := atI_nat (List.getElem?_eq_getElem hk)
  rwa [show ((i.toNat : Nat) : Int) = i by omega] at q
theorem al_same {H H' : Hp} {p : Addr} {o : HO} (h : upd H p o = H') (hp : H p = none) : Same H H' := h ▸ same_new hp o
theorem al_at {H H' : Hp} {p : Addr} {o : HO} (h : upd H p o = H') : H' p = some o := h ▸ upd_same
theorem map_push {α β : Type} {f : α → β} (xs : List α) (x : α) : xs.map f ++ [f x] = (xs ++ [x]).map f := by rw [List.map_append]; rfl
theorem all_push {α : Type} {P : α → Prop} {xs : List α} {x : α} (h : ∀ y ∈ xs, P y) (hx : P x) : ∀ y ∈ xs ++ [x], P y := fun y hy => (List.mem_append.mp hy).elim (h y) fun z => by rw [List.mem_singleton.mp z]; exact hx
theorem len_push {α : Type} {xs : List α} {x : α} {n : Nat} (h : xs.length = n) : (xs ++ [x]).length = n + 1 := by simp [h]
end L2

set_option Elab.async false
set_option linter.all false
set_option maxRecDepth 100000
namespace L2
open PySem PySem.Spec PyProof.Rows

/-! ### several untracked records of ours have turned -/
/-! ### zip of two lists -/
structure ZApart (z TI TO i1 i2 : Addr) : Prop where
  TIz : TI ≠ z
  TOz : TO ≠ z
  i1z : i1 ≠ z
  i2z : i2 ≠ z
  TITO : TI ≠ TO
  TIi1 : TI ≠ i1
  TIi2 : TI ≠ i2
  TOi1 : TO ≠ i1
  TOi2 : TO ≠ i2
  i12 : i1 ≠ i2
theorem ex_refs2 (n m : Addr) (P : Addr → Addr → Prop) : (∃ i j, [V.ref n, V.ref m] = [V.ref i, V.ref j] ∧ P i j) = P n m := propext ⟨fun ⟨_, _, e, h⟩ => by cases e; exact h, fun h => ⟨n, m, rfl, h⟩⟩
/-! ### f-strings of plain fields -/
section
variable {X : Cx}
end
section
variable {σ : St} {H : Hp} {Q : VK}
end
end L2

set_option Elab.async false
set_option linter.all false
set_option maxRecDepth 100000
namespace L2
open PySem PySem.Spec PyProof.Rows

/-! ### enumerate of a list -/
theorem ex_ref1 (n : Addr) (P : Addr → Prop) : (∃ i, [V.ref n] = [V.ref i] ∧ P i) = P n := propext ⟨fun ⟨_, e, h⟩ => by cases e; exact h, fun h => ⟨n, rfl, h⟩⟩
section
variable {K : PySem.W.Frag} {a b : Addr} {xs ys : List V} {g : TG} {te : TE} {nT : Nat} {σ : St} {D : Addr} {Q : VK} {H : Hp}
/-- a comprehension with a test: n turns; behind the i-th item: it goes onto the list where the test holds -/
def CSkip (n i : Nat) (Pv : Nat → List V → Hp → Prop) (ys : List V) (H : Hp) : Prop := ∃ m', m' < n - i ∧ (m' = n - (i + 1) ∧ i + 1 ≤ n ∧ Pv (i + 1) ys H)
theorem cskip {n i : Nat} {Pv : Nat → List V → Hp → Prop} {ys : List V} {H : Hp} (hi : i < n) (h : Pv (i + 1) ys H) : CSkip n i Pv ys H := ⟨n - (i + 1), by omega, rfl, hi, h⟩
def compT (n i : Nat) (Pv : Nat → List V → Hp → Prop) (D : Addr) (ys : List V) (tc : TT) (te : TE) (σ : St) (H : Hp) : Prop :=
  tc σ H fun b H4 => if b = true then te σ H4 (CStep n i Pv D ys) else CSkip n i Pv ys H4
theorem compT_at {n i : Nat} {Pv : Nat → List V → Hp → Prop} {D : Addr} {ys : List V} {tc : TT} {te : TE} {σ : St} {H : Hp} : compT n i Pv D ys tc te σ H = tc σ H fun b H4 => if b = true then te σ H4 (CStep n i Pv D ys) else CSkip n i Pv ys H4 := rfl
theorem compT_by {J : It} {tc : TT} (n : Nat) (Pv : Nat → List V → Hp → Prop) (h0 : Pv 0 [] H) (hgo : ∀ i ys H, i < n → Pv i ys H → J.go i H) (hst : ∀ ys H, Pv n ys H → J.stop n H)
    (hs : ∀ i ys H x H', i < n → Pv i ys H → J.yld i H x H' → g x (σ ++ List.replicate nT none) H' (compT n i Pv D ys tc te))
    (hd : ∀ ys H, Pv n ys H → Q (.ref D) H) : compW J g tc te nT σ D Q H := by
  refine ⟨fun i m ys H => m = n - i ∧ i ≤ n ∧ Pv i ys H, ⟨n, by simp, Nat.zero_le _, h0⟩, ?_⟩
  rintro i m ys H ⟨rfl, hi, p⟩
  by_cases hlt : i < n
  · exact .inr ⟨hgo i ys H hlt p, fun x H' y => hs i ys H x H' hlt p y⟩
  · have e : i = n := by omega
    subst e
    exact .inl ⟨hst ys H p, hd ys H p⟩
theorem compT_list {tc : TT} (Pv : Nat → List V → Hp → Prop) (h0 : Pv 0 [] H) (hl : ∀ i ys H, i ≤ xs.length → Pv i ys H → SqL K H a xs)
    (hs : ∀ i ys H x, xs[i]? = some x → i < xs.length → Pv i ys H → g x (σ ++ List.replicate nT none) H (compT xs.length i Pv D ys tc te))
    (hd : ∀ ys H, Pv xs.length ys H → Q (.ref D) H) : compW (Itl K a) g tc te nT σ D Q H := by
  refine compT_by xs.length Pv h0 (fun i ys H hi p => ⟨xs, xs[i], hl i ys H (Nat.le_of_lt hi) p, by simp [hi]⟩) (fun ys H p => ⟨xs, hl _ ys H (Nat.le_refl _) p, Nat.le_refl _⟩) (fun i ys H x H' hi p yl => ?_) hd
  obtain ⟨rfl, y⟩ := yl
  exact hs i ys _ x (y xs (hl i ys _ (Nat.le_of_lt hi) p)) hi p
end
end L2

set_option Elab.async false
set_option linter.all false
set_option maxRecDepth 100000
namespace L2
open PySem PySem.Spec PyProof.Rows

/-! ### a text's slice -/
def rSlS : V → Option Int → Option Int → Hp → VK → Prop := fun x lo hi H Q => ∃ y, x = .str y ∧ y.length ≤ sizeLine ∧ Q (.str (Txt.slice y lo hi)) H
theorem sl_str {X : Cx} : SlR X rSlS := by
  intro pins s σ H x v vl vu lo hi sl Q I rx hs pl pu h
  obtain ⟨y, rfl, hz, q⟩ := h
  obtain ⟨t, rfl⟩ := rx
  obtain ⟨l, hl, el⟩ : ∃ l : Option (Int × Tok), vl = partValue l ∧ l.map (·.1) = lo := by
    cases pl with
    | none => exact ⟨none, rfl, rfl⟩
    | int i t => exact ⟨some (i, t), rfl, rfl⟩
  obtain ⟨u, hu, eu⟩ : ∃ l : Option (Int × Tok), vu = partValue l ∧ l.map (·.1) = hi := by
    cases pu with
    | none => exact ⟨none, rfl, rfl⟩
    | int i t => exact ⟨some (i, t), rfl, rfl⟩
  subst hl hu el eu
  refine ⟨"str", _, PySem.F.slot_str_getitem.lookup, typeIs_str _ _ _, wpAny_getItem_str_slice (l := l) (u := u) (st := none) hs rfl (post_val_or_str ⟨Nat.le_trans (Txt.slice_le y _ _) hz, fun t' k => ⟨.str _, H, I.tok k, ⟨t', rfl⟩, q⟩⟩)⟩
theorem rSlS_at {H : Hp} {Q : VK} (y : Str) (lo hi : Option Int) : rSlS (.str y) lo hi H Q = (y.length ≤ sizeLine ∧ Q (.str (Txt.slice y lo hi)) H) := propext ⟨fun ⟨_, e, h⟩ => by cases e; exact h, fun h => ⟨y, rfl, h⟩⟩
end L2

set_option Elab.async false
set_option linter.all false
set_option maxRecDepth 100000
namespace L2
open PySem PySem.Spec PyProof.Rows

/-! ### what may stand in a tuple that is a dict's key, tuples too -/
structure IK (prog : Program) (w : World) (κ : Type) [DecidableEq κ] where
  is : Heap → κ → Value → Prop
  hash : κ → Int
  draws : κ → Nat
  deep : Nat
  inj : ∀ {h : Heap} {v : Value} {x y : κ}, is h x v → is h y v → x = y
  keeps : ∀ {h h' : Heap} {k : κ} {v : Value} {d : Addr} {o : Obj} {es ep}, is h k v → h.get? d = some o → o.data = .dict es ep → Heap.SameBut d h h' → is h' k v
  pyHash : ∀ {A : Around} {E : Value → Shared → Prop} {s : Shared} {k : κ} {v : Value} {Q : Int → Shared → Prop}, A.units + deep < cLine → is s.heap k v → Q (hash k) { s with toks := s.toks + draws k } →
    wpAny (model prog w) A (PySem.pyHash v) Q E s
  eqBool : ∀ {A : Around} {E : Value → Shared → Prop} {s : Shared} {x y : κ} {u v : Value} {Q : Bool → Shared → Prop}, A.units + deep < cLine → is s.heap x u → is s.heap y v → Q (decide (x = y)) s →
    wpAny (model prog w) A (PySem.eqBool u v) Q E s
  quiet : ∀ {A : Around} {E : Value → Shared → Prop} {s : Shared} {k : κ} {v : Value} {n : Nat} {Q : Bool → Shared → Prop}, is s.heap k v → Q true s → wpAny (model prog w) A (eqIsQuiet (n + deep) v) Q E s
section
variable {prog : Program} {w : World} {κ : Type} [DecidableEq κ] (K : IK prog w κ)
inductive IsItems (h : Heap) : List κ → List Value → Prop
  | nil : IsItems h [] []
  | cons {k : κ} {v : Value} {ks : List κ} {vs : List Value} : K.is h k v → IsItems h ks vs → IsItems h (k :: ks) (v :: vs)
def IsTupK (h : Heap) (ks : List κ) (v : Value) : Prop := ∃ a o items n, v = .ref a ∧ h.get? a = some o ∧ o.cls = .type "tuple" ∧ o.data = .seq items n ∧ IsItems K h ks items.toList
variable {K}
theorem IsItems.inj {h : Heap} : ∀ {x y : List κ} {vs : List Value}, IsItems K h x vs → IsItems K h y vs → x = y
  | _, _, _, .nil, .nil => rfl
  | _, _, _, .cons a b, .cons c d => by rw [K.inj a c, IsItems.inj b d]
theorem IsItems.keeps {h h' : Heap} {d : Addr} {o : Obj} {es ep} (ho : h.get? d = some o) (hd : o.data = .dict es ep) (hs : Heap.SameBut d h h') : ∀ {x : List κ} {vs : List Value}, IsItems K h x vs → IsItems K h' x vs
  | _, _, .nil => .nil
  | _, _, .cons a b => .cons (K.keeps a ho hd hs) (b.keeps ho hd hs)
theorem IsItems.len {h : Heap} : ∀ {x : List κ} {vs : List Value}, IsItems K h x vs → x.length = vs.length
  | _, _, .nil => rfl
  | _, _, .cons _ b => by rw [List.length_cons, List.length_cons, b.len]
def sumD (K : IK prog w κ) (ks : List κ) : Nat := (ks.map K.draws).sum
def tupH (K : IK prog w κ) (ks : List κ) : Int := reduceHash (Builtin.Tuple.tupleHashOf (ks.map K.hash))
theorem hash_tupK {A : Around} {E : Value → Shared → Prop} {s : Shared} {ks : List κ} {v : Value} {Q : Int → Shared → Prop} (hu : A.units + (K.deep + 1) < cLine) (hk : IsTupK K s.heap ks v) (h : Q (tupH K ks) { s with toks := s.toks + (sumD K ks + 1) }) :
    wpAny (model prog w) A (PySem.pyHash v) Q E s := by
  obtain ⟨a, o, items, n, rfl, ho, hc, hd, hi⟩ := hk
  have hT : s.TypeIs (.ref a) "tuple" := ⟨o, ho, hc⟩
  unfold PySem.pyHash
  first | unfold pyHashByItsType | skip
  first | refine wpAny_bind (wpAny_cRoomFor_or (.inr (by omega)) ?_) | skip
  refine wpAny_bind (wpAny_specialOf hT PySem.F.slot_tuple_hash.lookup ?_)
  rw [if_neg (by rw [beq_builtin_none]; exact Bool.false_ne_true)]
  refine wpAny_bind (wpAny_specialOf hT PySem.F.slot_tuple_hash.lookup ?_)
  show wpAny _ _ (callSpecialIfBoundUnlessNone? (.ref a) "__hash__" _ >>= _) Q E s
  refine wpAny_bind (wpAny_callSpecialIfBoundUnlessNone?_slot hT PySem.F.slot_tuple_hash (wpAny_call_entry PySem.F.slot_tuple_hash hT
    PySem.F.entry_tuple_hash ?_ (PySem.F.args_tuple_hash_1 _)))
  show wpAny _ _ (Builtin.Tuple.tupleItemsOf (.ref a) >>= _) _ _ s
  refine wpAny_bind (wpAny_tupleItemsOf ho hd (wpAny_bind ?_))
  rw [← Array.forIn_toList]
  refine wpAny_forIn_list _ (fun rest (b : Array Int) s' => ∃ done left, ks = done ++ left ∧ IsItems K s.heap left rest ∧ b.toList = done.map K.hash ∧ s' = { s with toks := s.toks + sumD K done }) _ ?_ ?_ _ _ ⟨[], ks, rfl, hi, rfl, rfl⟩
  · rintro x rest b s' ⟨done, left, rfl, hl, hb, rfl⟩
    cases hl with
    | @cons k _ ks' _ h1 hl' =>
      have e : sumD K (done ++ [k]) = sumD K done + K.draws k := by simp [sumD]
      refine wpAny_bind (K.pyHash (show A.in1.units + K.deep < cLine from by show A.units + 1 + K.deep < cLine; omega) h1 ?_)
      have fin : ∃ done' left', done ++ k :: ks' = done' ++ left' ∧ IsItems K s.heap left' rest ∧ (b.push (K.hash k)).toList = done'.map K.hash ∧ ({ s with toks := s.toks + sumD K done + K.draws k } : Shared) = { s with toks := s.toks + sumD K done' } :=
        ⟨done ++ [k], ks', by simp, hl', by simp [hb], by rw [e, Nat.add_assoc]⟩
      first
        | exact wpAny_pure fin
        | exact wpAny_bind (wpAny_pure (wpAny_pure fin))
  · rintro b s' ⟨done, left, rfl, hl, hb, rfl⟩
    cases hl
    rw [List.append_nil] at h
    show wpAny _ _ (retInt (Builtin.Tuple.tupleHashOf b.toList)) _ _ _
    rw [hb]
    refine wpAny_ret_mkInt ?_
    unfold tupH reduceHash at h
    show wpAny _ _ (if (decide (-(2 : Int) ^ 63 ≤ Builtin.Tuple.tupleHashOf (done.map K.hash)) && decide (Builtin.Tuple.tupleHashOf (done.map K.hash) < 2 ^ 63)) = true then _ else _) Q E _
    by_cases hr : (decide (-(2 : Int) ^ 63 ≤ Builtin.Tuple.tupleHashOf (done.map K.hash)) && decide (Builtin.Tuple.tupleHashOf (done.map K.hash) < 2 ^ 63)) = true
    · rw [if_pos hr] at h ⊢
      exact wpAny_pure (by simpa [Nat.add_assoc] using h)
    · rw [if_neg hr] at h ⊢
      exact wpAny_bind (wpAny_rule (wpAny_pure (by simpa [Nat.add_assoc] using h)))
theorem eq_tupTree {A : Around} {E : Value → Shared → Prop} {s : Shared} {x y : List κ} {a b : Addr} {P : Fin → Shared → Prop} (hu : A.units + K.deep < cLine) (hx : IsTupK K s.heap x (.ref a)) (hy : IsTupK K s.heap y (.ref b)) (h : P (.done (.ret (.bool (decide (x = y))))) s) :
    wpAny (model prog w) A (Builtin.«tuple.__eq__» ⟨[.ref a, .ref b], []⟩) P E s := by
  obtain ⟨_, oa, xs, na, e1, hoa, ca, hda, hia⟩ := hx
  obtain ⟨_, ob, ys, nb, e2, hob, cb, hdb, hib⟩ := hy
  cases e1
  cases e2
  show wpAny _ _ (isInstance (.ref b) (.type "tuple") >>= _) _ _ s
  refine wpAny_bind (wpAny_isInstance ⟨ob, hob, cb⟩ isSubtype_tuple_tuple ?_)
  simp only [Bool.not_true, Bool.false_eq_true, if_false]
  refine wpAny_bind (wpAny_tupleItemsOf hoa hda (wpAny_bind (wpAny_tupleItemsOf hob hdb (wpAny_bind ?_))))
  refine wpAny_forIn_list _ (fun rest r s' => r.1 = none ∧ s' = s ∧ ∃ x' y' xs' ys', rest = List.zip xs' ys' ∧ IsItems K s.heap x' xs' ∧ IsItems K s.heap y' ys' ∧ decide (x' = y') = decide (x = y) ∧ (xs'.length == ys'.length) = (xs.size == ys.size)) _ ?_ ?_ _ _
    ⟨rfl, rfl, x, y, xs.toList, ys.toList, rfl, hia, hib, rfl, by simp⟩
  · rintro ⟨u, v⟩ rest r s' ⟨hr, rfl, x', y', xs', ys', hz, hx', hy', hdec, hlen⟩
    cases hx' with
    | nil => simp at hz
    | @cons k1 u' x'' xs'' h1 hx'' =>
      cases hy' with
      | nil => simp at hz
      | @cons k2 v' y'' ys'' h2 hy'' =>
        simp only [List.zip_cons_cons, List.cons.injEq, Prod.mk.injEq] at hz
        obtain ⟨⟨rfl, rfl⟩, rfl⟩ := hz
        refine wpAny_bind (K.eqBool (x := k1) (y := k2) hu h1 h2 ?_)
        by_cases hk : k1 = k2
        · subst hk
          rw [decide_eq_true rfl]
          simp only [Bool.not_true, Bool.false_eq_true, if_false]
          refine wpAny_pure ⟨rfl, rfl, x'', y'', xs'', ys'', rfl, hx'', hy'', ?_, by simpa using hlen⟩
          rw [← hdec]
          by_cases hxy : x'' = y'' <;> simp [hxy]
        · rw [decide_eq_false hk]
          simp only [Bool.not_false, if_true]
          have hf : decide (x = y) = false := by rw [← hdec]; simp [hk]
          rw [hf] at h
          exact wpAny_bind (wpAny_pure (wpAny_pure (wpAny_pure h)))
  · rintro ⟨r1, r2⟩ s' ⟨hr, rfl, x', y', xs', ys', hz, hx', hy', hdec, hlen⟩
    simp only at hr
    subst hr
    refine wpAny_pure ?_
    have hfin : (xs.size == ys.size) = decide (x = y) := by
      rw [← hdec, ← hlen]
      cases hx' with
      | nil => cases hy' <;> simp
      | cons _ _ =>
        cases hy' with
        | nil => simp
        | cons _ _ => simp at hz
    show P (.done (.ret (.bool (xs.size == ys.size)))) s'
    rw [hfin]; exact h
theorem eq_tupK {A : Around} {E : Value → Shared → Prop} {s : Shared} {x y : List κ} {u v : Value} {Q : Bool → Shared → Prop} (hu : A.units + (K.deep + 1) < cLine) (hx : IsTupK K s.heap x u) (hy : IsTupK K s.heap y v) (h : Q (decide (x = y)) s) :
    wpAny (model prog w) A (PySem.eqBool u v) Q E s := by
  have hx0 := hx
  have hy0 := hy
  obtain ⟨a, oa, xs, na, rfl, hoa, ca, hda, hia⟩ := hx
  obtain ⟨b, ob, ys, nb, rfl, hob, cb, hdb, hib⟩ := hy
  unfold PySem.eqBool
  try with_reducible refine wpAny_holding ?_
  show wpAny _ _ (if (Value.ref a == Value.ref b) = true then _ else _) Q E s
  by_cases hab : (Value.ref a == Value.ref b) = true
  · rw [if_pos hab]
    have e : a = b := by have := eq_of_beq hab; injection this
    subst e
    rw [hoa] at hob
    cases hob
    rw [hda] at hdb
    injection hdb with e1 _
    subst e1
    rw [decide_eq_true (hia.inj hib)] at h
    exact wpAny_bind (wpAny_rule (wpAny_pure h))
  · rw [if_neg hab]
    have ta : s.TypeIs (.ref a) "tuple" := ⟨oa, hoa, ca⟩
    have tb : s.TypeIs (.ref b) "tuple" := ⟨ob, hob, cb⟩
    refine wpAny_bind (wpAny_richCompare_same_room (op := .Eq) ta tb PySem.F.slot_tuple_eq (wpAny_call_entry PySem.F.slot_tuple_eq ta PySem.F.entry_tuple_eq ?_ (PySem.F.args_tuple_eq_2 _ _)) (by omega))
    refine eq_tupTree (K := K) ?_ hx0 hy0 ⟨_, rfl, (fun e => nomatch e), wpAny_truthy_bool h⟩
    show A.units + 1 + K.deep < cLine
    omega
theorem quiet_tupK {A : Around} {E : Value → Shared → Prop} {s : Shared} {ks : List κ} {v : Value} {n : Nat} {Q : Bool → Shared → Prop} (hk : IsTupK K s.heap ks v) (h : Q true s) : wpAny (model prog w) A (eqIsQuiet (n + (K.deep + 1)) v) Q E s := by
  obtain ⟨a, o, items, m, rfl, ho, hc, hd, hi⟩ := hk
  have hT : s.TypeIs (.ref a) "tuple" := ⟨o, ho, hc⟩
  rw [show n + (K.deep + 1) = (n + K.deep) + 1 from rfl]
  unfold eqIsQuiet
  refine wpAny_bind (wpAny_specialOf hT PySem.F.slot_tuple_eq.lookup ?_)
  show wpAny _ _ (isInstance (.ref a) (.type "tuple") >>= _) _ _ s
  refine wpAny_bind (wpAny_isInstance hT isSubtype_tuple_tuple ?_)
  simp only [Bool.not_true, Bool.false_eq_true, if_false]
  refine wpAny_bind (wpAny_seqItems ho hd (wpAny_bind ?_))
  show wpAny _ _ (forIn items _ _) _ _ s
  rw [← Array.forIn_toList]
  refine wpAny_forIn_list _ (fun rest r s' => r.1 = none ∧ s' = s ∧ ∃ ks', IsItems K s.heap ks' rest) _ ?_ ?_ _ _ ⟨rfl, rfl, ks, hi⟩
  · rintro v rest r s' ⟨hr, rfl, ks', hall⟩
    cases hall with
    | cons h1 h2 =>
      refine wpAny_bind (K.quiet h1 ?_)
      simp only [Bool.not_true, Bool.false_eq_true, if_false]
      exact wpAny_pure ⟨rfl, rfl, _, h2⟩
  · rintro ⟨r1, r2⟩ s' ⟨hr, rfl, _⟩
    simp only at hr
    subst hr
    exact wpAny_pure h
/-- tuples of such -/
def tupK (K : IK prog w κ) : IK prog w (List κ) where
  is := IsTupK K
  hash := tupH K
  draws := fun ks => sumD K ks + 1
  deep := K.deep + 1
  inj := by
    rintro h v x y ⟨a, oa, xs, na, rfl, hoa, ca, hda, hia⟩ ⟨b, ob, ys, nb, e, hob, cb, hdb, hib⟩
    cases e
    rw [hoa] at hob
    cases hob
    rw [hda] at hdb
    injection hdb with e1 _
    subst e1
    exact hia.inj hib
  keeps := by
    rintro h h' k v d o es ep ⟨a, oa, xs, na, rfl, hoa, ca, hda, hia⟩ ho hd hs
    have hne : a ≠ d := by
      rintro rfl
      rw [hoa] at ho
      cases ho
      rw [hd] at hda; cases hda
    exact ⟨a, oa, xs, na, rfl, (hs.2 a hne).trans hoa, ca, hda, hia.keeps ho hd hs⟩
  pyHash := fun hu hk h => hash_tupK hu hk h
  eqBool := fun hu hx hy h => eq_tupK hu hx hy h
  quiet := fun hk h => quiet_tupK hk h
/-- a dict's keys -/
def heapK (K : IK prog w κ) (hd : K.deep ≤ 7) : HeapKind prog w (List κ) where
  is := fun h k a => IsTupK K h k (.ref a)
  hash := tupH K
  draws := fun ks => sumD K ks + 1
  room := fun A => A.units + (K.deep + 1) < cLine
  inj := (tupK K).inj
  keeps := (tupK K).keeps
  pyHash := fun hu hk h => hash_tupK hu hk h
  eqBool := fun hu hx hy h => eq_tupK hu hx hy h
  quiet := fun {A E s k a Q} hk h => by
    have q := quiet_tupK (n := 7 - K.deep) (A := A) (E := E) hk h
    rwa [show 7 - K.deep + (K.deep + 1) = 8 by omega] at q
end
end L2

set_option Elab.async false
set_option linter.all false
set_option maxRecDepth 100000
namespace L2
open PySem PySem.Spec PyProof.Rows

/-! ### None or an int; an int or a tuple of these -/
def optV : Option Int → V
  | none => .non
  | some i => .int i
theorem optV_inj {x y : Option Int} {v : Value} (a : RelV (optV x) v) (b : RelV (optV y) v) : x = y := by
  have e := a.inj b
  cases x <;> cases y <;> simp_all [optV]
theorem optV_flat (x : Option Int) : flatV (optV x) = true := by cases x <;> rfl
theorem optV_eq (x y : Option Int) : eqV (optV x) (optV y) = decide (x = y) := by
  cases x with
  | none => cases y <;> rfl
  | some i =>
    cases y with
    | none => rfl
    | some j =>
      show (i == j) = _
      by_cases h : i = j <;> simp [h]
theorem hash_none {prog : Program} {w : World} {A : Around} {E : Value → Shared → Prop} {s : Shared} {Q : Int → Shared → Prop} (h : Q 0xFCA86420 { s with toks := s.toks + 1 }) : wpAny (model prog w) A (PySem.pyHash .none) Q E s := by
  have hT : s.TypeIs .none "NoneType" := rfl
  unfold PySem.pyHash
  first | unfold pyHashByItsType | skip
  refine wpAny_bind ?_
  rw [cRoomFor, if_neg (by decide)]
  refine wpAny_pure (wpAny_bind (wpAny_specialOf hT PySem.F.slot_NoneType_hash.lookup ?_))
  rw [if_neg (by rw [beq_builtin_none]; exact Bool.false_ne_true)]
  refine wpAny_bind (wpAny_specialOf hT PySem.F.slot_NoneType_hash.lookup ?_)
  show wpAny _ _ (callSpecialIfBoundUnlessNone? .none "__hash__" _ >>= _) Q E s
  refine wpAny_bind (wpAny_callSpecialIfBoundUnlessNone?_slot hT PySem.F.slot_NoneType_hash (wpAny_call_entry PySem.F.slot_NoneType_hash hT
    PySem.F.entry_NoneType_hash ?_ (PySem.F.args_NoneType_hash_1 _)))
  show wpAny _ _ (retInt 0xFCA86420) _ _ s
  refine wpAny_ret_mkInt ?_
  exact wpAny_pure h
def optK (prog : Program) (w : World) : IK prog w (Option Int) where
  is := fun _ k v => RelV (optV k) v
  hash := fun k => match k with
    | none => 0xFCA86420
    | some i => hashInt i
  draws := fun _ => 1
  deep := 0
  inj := fun a b => optV_inj a b
  keeps := fun a _ _ _ => a
  pyHash := fun {A E s k v Q} _ hk h => by
    cases k with
    | none =>
      obtain rfl : v = Value.none := hk
      exact hash_none h
    | some i =>
      obtain ⟨t, rfl⟩ := (show ∃ t, v = Value.int i t from hk)
      exact wpAny_pyHash_int h
  eqBool := fun {A E s x y u v Q} _ hx hy h => by
    have q := eqAt_V (A := A) (s := s) hx hy (optV_flat x) (optV_flat y)
    rw [optV_eq] at q
    exact q prog w E Q h
  quiet := fun {A E s k v n Q} hk h => by
    have e : carriedByValue v = true := by
      cases k with
      | none => obtain rfl : v = Value.none := hk; rfl
      | some i => obtain ⟨t, rfl⟩ := (show ∃ t, v = Value.int i t from hk); rfl
    rw [eqIsQuiet_byValue _ e]
    exact wpAny_pure h
abbrev NI := Sum Int (List (Option Int))
def IsNI (prog : Program) (w : World) (h : Heap) : NI → Value → Prop
  | .inl i, v => ∃ t, v = Value.int i t
  | .inr l, v => IsTupK (optK prog w) h l v
theorem IsTupK.tup {prog : Program} {w : World} {κ : Type} [DecidableEq κ] {K : IK prog w κ} {h : Heap} {l : List κ} {v : Value} (x : IsTupK K h l v) : ∃ a its, v = .ref a ∧ h.IsTuple a its := by
  obtain ⟨a, o, items, n, rfl, ho, hc, hd, hi⟩ := x
  exact ⟨a, items, rfl, o, ho, hc, n, hd⟩
theorem ni_room {A : Around} {prog : Program} {w : World} (hu : A.units + 1 < cLine) : A.units + ((optK prog w).deep + 1) < cLine := hu
theorem ni_ll (i j : Int) : (i == j) = decide ((Sum.inl i : NI) = Sum.inl j) := by
  by_cases z : i = j
  · subst z; simp
  · have z' : ¬ ((Sum.inl i : NI) = Sum.inl j) := fun q => z (Sum.inl.inj q)
    rw [decide_eq_false z']; simpa using z
theorem ni_rr (l l' : List (Option Int)) : decide (l = l') = decide ((Sum.inr l : NI) = Sum.inr l') := by
  by_cases z : l = l'
  · subst z; simp
  · have z' : ¬ ((Sum.inr l : NI) = Sum.inr l') := fun q => z (Sum.inr.inj q)
    rw [decide_eq_false z', decide_eq_false z]
theorem ni_lr (i : Int) (l : List (Option Int)) : decide ((Sum.inl i : NI) = Sum.inr l) = false := decide_eq_false (fun q => nomatch q)
theorem ni_rl (i : Int) (l : List (Option Int)) : decide ((Sum.inr l : NI) = Sum.inl i) = false := decide_eq_false (fun q => nomatch q)
theorem ni_eq {prog : Program} {w : World} {A : Around} {E : Value → Shared → Prop} {s : Shared} {u v : Value} {Q : Bool → Shared → Prop} (hu : A.units + 1 < cLine) : ∀ (x y : NI), IsNI prog w s.heap x u → IsNI prog w s.heap y v → Q (decide (x = y)) s →
    wpAny (model prog w) A (PySem.eqBool u v) Q E s
  | .inl i, .inl j, ⟨t, e1⟩, ⟨t', e2⟩, h => by
    subst e1 e2
    rw [← ni_ll] at h
    exact wpAny_eqBool_int h
  | .inl i, .inr l, ⟨t, e1⟩, hy, h => by
    subst e1
    obtain ⟨b, its, rfl, ht⟩ := IsTupK.tup (K := optK prog w) hy
    rw [ni_lr] at h
    exact SeqAt.EqAt.int_tuple i t ht (Nat.lt_of_succ_lt hu) prog w E Q h
  | .inr l, .inl j, hx, ⟨t, e1⟩, h => by
    subst e1
    obtain ⟨b, its, rfl, ht⟩ := IsTupK.tup (K := optK prog w) hx
    rw [ni_rl] at h
    exact SeqAt.EqAt.tuple_int j t ht (Nat.lt_of_succ_lt hu) prog w E Q h
  | .inr l, .inr l', hx, hy, h => by
    rw [← ni_rr] at h
    exact eq_tupK (K := optK prog w) (ni_room hu) hx hy h
def niK (prog : Program) (w : World) : IK prog w NI where
  is := IsNI prog w
  hash := fun k => match k with
    | .inl i => hashInt i
    | .inr l => tupH (optK prog w) l
  draws := fun k => match k with
    | .inl _ => 1
    | .inr l => sumD (optK prog w) l + 1
  deep := 1
  inj := fun {h v x y} a b => by
    cases x with
    | inl i =>
      obtain ⟨t, rfl⟩ := (show ∃ t, v = Value.int i t from a)
      cases y with
      | inl j => obtain ⟨t', e⟩ := (show ∃ t', Value.int i t = Value.int j t' from b); injection e with e1 _; rw [e1]
      | inr l => obtain ⟨a, _, e, _⟩ := IsTupK.tup (show IsTupK (optK prog w) h l _ from b); cases e
    | inr l =>
      cases y with
      | inl j =>
        obtain ⟨t, rfl⟩ := (show ∃ t, v = Value.int j t from b)
        obtain ⟨a, _, e, _⟩ := IsTupK.tup (show IsTupK (optK prog w) h l _ from a); cases e
      | inr l' => rw [(tupK (optK prog w)).inj (show IsTupK (optK prog w) h l v from a) (show IsTupK (optK prog w) h l' v from b)]
  keeps := fun {h h' k v d o es ep} a ho hd hs => by
    cases k with
    | inl i => exact a
    | inr l => exact (tupK (optK prog w)).keeps (show IsTupK (optK prog w) h l v from a) ho hd hs
  pyHash := fun {A E s k v Q} hu hk h => by
    cases k with
    | inl i =>
      obtain ⟨t, rfl⟩ := (show ∃ t, v = Value.int i t from hk)
      exact wpAny_pyHash_int h
    | inr l => exact hash_tupK (K := optK prog w) (ni_room hu) hk h
  eqBool := fun {A E s x y u v Q} hu hx hy h => ni_eq hu x y hx hy h
  quiet := fun {A E s k v n Q} hk h => by
    cases k with
    | inl i =>
      obtain ⟨t, rfl⟩ := (show ∃ t, v = Value.int i t from hk)
      rw [eqIsQuiet_byValue _ rfl]
      exact wpAny_pure h
    | inr l => exact quiet_tupK (K := optK prog w) hk h
end L2

set_option Elab.async false
set_option linter.all false
set_option maxRecDepth 100000
namespace L2
open PySem PySem.Spec PyProof.Rows

/-! ### dicts whose keys are pairs of an int and a tuple -/
abbrev NKey := Int × List (Option Int)
def nk (k : NKey) : List NI := [.inl k.1, .inr k.2]
theorem nk_inj {k k' : NKey} (h : nk k = nk k') : k = k' := by
  obtain ⟨a, b⟩ := k
  obtain ⟨c, d⟩ := k'
  unfold nk at h
  simp at h
  rw [h.1, h.2]
def MK (P : Program) (w : World) : HeapKind P w (List NI) := heapK (niK P w) (show 1 ≤ 7 by decide)
def NDict (P : Program) (w : World) (a : Addr) (xs : List (List NI × Addr × Value)) : HO :=
  .ext fun h => ∃ o es ep, h.get? a = some o ∧ o.ExactDict ∧ o.data = .dict es ep ∧ es.toList = xs.map (entryOfKey (MK P w)) ∧ (xs.map (·.1)).Nodup
def KeyAt (H : Hp) (k : NKey) (b : Addr) : Prop := ∃ t, H b = some (.tup [.int k.1, .ref t]) ∧ H t = some (.tup (k.2.map optV))
def NRow (H : Hp) (p : NKey × V) (q : List NI × Addr × Value) : Prop := q.1 = nk p.1 ∧ KeyAt H p.1 q.2.1 ∧ RelV p.2 q.2.2
def DN (P : Program) (w : World) (H : Hp) (a : Addr) (kvs : List (NKey × V)) : Prop :=
  ∃ xs, H a = some (NDict P w a xs) ∧ (a == sysModules) = false ∧ xs.length ≤ sizeLine ∧ Paired (NRow H) kvs xs
theorem KeyAt.mono {H H' : Hp} {k : NKey} {b : Addr} (h : KeyAt H k b) (sm : ∀ c xs, H c = some (.tup xs) → H' c = some (.tup xs)) : KeyAt H' k b := by
  obtain ⟨t, h1, h2⟩ := h
  exact ⟨t, sm _ _ h1, sm _ _ h2⟩
theorem DN.mono {P : Program} {w : World} {H H' : Hp} {a : Addr} {kvs : List (NKey × V)} (h : DN P w H a kvs) (sm : Same H H') : DN P w H' a kvs := by
  obtain ⟨xs, h1, h2, h3, h4⟩ := h
  exact ⟨xs, sm _ _ h1, h2, h3, Paired.imp' (fun p q z => ⟨z.1, z.2.1.mono fun c ys e => sm _ _ e, z.2.2⟩) h4⟩
theorem DN.len {P : Program} {w : World} {H : Hp} {a : Addr} {kvs : List (NKey × V)} (h : DN P w H a kvs) : kvs.length ≤ sizeLine := by
  obtain ⟨xs, h1, h2, h3, h4⟩ := h
  rw [Paired.length h4]; exact h3
section
variable {P : Program} {w : World} {H : Hp}
theorem NRow.val : ∀ {kvs : List (NKey × V)} {xs : List (List NI × Addr × Value)} (k : NKey), Paired (NRow H) kvs xs → RelO (valV kvs k) ((atKey xs (nk k)).map (·.2))
  | _, _, k, .nil => True.intro
  | _, _, k, @Paired.cons _ _ _ p q kvs xs r t => by
    have ih := NRow.val k t
    obtain ⟨e1, e2, e3⟩ := r
    by_cases h : p.1 = k
    · have h1 : valV (p :: kvs) k = some p.2 := by simp [valV, h]
      have h2 : atKey (q :: xs) (nk k) = some q.2 := by simp [atKey, e1, h]
      rw [h1, h2]; exact e3
    · have hn : ¬ q.1 = nk k := fun z => h (nk_inj (e1.symm.trans z))
      have h1 : valV (p :: kvs) k = valV kvs k := by simp [valV, h]
      have h2 : atKey (q :: xs) (nk k) = atKey xs (nk k) := by simp [atKey, hn]
      rw [h1, h2]; exact ih
theorem items_of_vals {h : Heap} : ∀ {l : List (Option Int)} {us : List Value}, Vals (l.map optV) us → IsItems (optK P w) h l us
  | [], _, .nil => .nil
  | x :: l, _, .cons r t => .cons r (items_of_vals t)
end
section
variable {X : Cx} {pins : List (Addr × Obj)} {σ : St} {H : Hp} {s : Shared} {a b : Addr} {k : NKey} {kvs : List (NKey × V)}
theorem Inv.key (I : Inv X pins σ H s) (h : KeyAt H k b) : (MK X.prog X.w).is s.heap (nk k) b := by
  obtain ⟨t, h1, h2⟩ := h
  obtain ⟨_, its, r, o, e, c, n, d⟩ : ([V.int k.1, V.ref t] : List V).length ≤ sizeLine ∧ ∃ its : List Value, Vals [V.int k.1, V.ref t] its ∧ IsTup s.heap b its.toArray := by obtain ⟨z, its, r, p⟩ := I.hok b _ h1; exact ⟨z, its, r, p.tup⟩
  obtain ⟨_, its2, r2, o2, e2, c2, n2, d2⟩ : (k.2.map optV).length ≤ sizeLine ∧ ∃ its : List Value, Vals (k.2.map optV) its ∧ IsTup s.heap t its.toArray := by obtain ⟨z, its, r, p⟩ := I.hok t _ h2; exact ⟨z, its, r, p.tup⟩
  obtain ⟨u, v, rfl, ru, rv⟩ := vals2 r
  cases rv
  refine ⟨b, o, _, n, rfl, e, c, d, ?_⟩
  show IsItems (niK X.prog X.w) s.heap [.inl k.1, .inr k.2] [u, .ref t]
  exact .cons ru (.cons ⟨t, o2, _, n2, rfl, e2, c2, d2, by simpa using items_of_vals r2⟩ .nil)
/-! the rules -/
theorem Paired.snoc {α β : Type} {F : α → β → Prop} {x : α} {y : β} (h : F x y) : ∀ {l : List α} {m : List β}, Paired F l m → Paired F (l ++ [x]) (m ++ [y])
  | _, _, .nil => .cons h .nil
  | _, _, .cons r t => .cons r (Paired.snoc h t)
end
end L2

set_option Elab.async false
set_option linter.all false
set_option maxRecDepth 100000
namespace L2
open PySem PySem.Spec PyProof.Rows PySem.SeqAt

/-! ### a[b], a a list, a tuple, a text or a dict of int and text keys -/
section
variable {X : Cx}
/-! ### in, not in a dict; a dict's store -/
end
section
variable {K : PySem.W.Frag} {H : Hp} {Q : VK}
end
/-! ### an int, or None, unlike an int -/
section
variable {X : Cx}
end
end L2

set_option Elab.async false
set_option linter.all false
set_option maxRecDepth 100000
namespace L2
open PySem PySem.Spec PyProof.Rows PySem.SeqAt
/-! ### pop, and bools unlike -/
section
variable {K : PySem.W.Frag} {H : Hp} {Q : VK}
theorem rNeA_bl (i j : Bool) : rNeA (.bl i) (.bl j) H Q = Q (.bl (!(i == j))) H := by
  show (scal (.bl i) (.bl j) = true ∧ Q (.bl (!decide (V.bl i = V.bl j))) H) = _
  rw [dec_bl]; exact propext ⟨fun h => h.2, fun h => ⟨rfl, h⟩⟩
end
/-! ### is True, of an int -/
end L2

set_option Elab.async false
set_option linter.all false
set_option maxRecDepth 100000
namespace L2
open PySem PySem.Spec PyProof.Rows PySem.SeqAt
/-! ### list(range(n)) -/
section
variable {X : Cx}
end
/-! ### d.values(), list(d.values()) -/
section
variable {X : Cx}
end
section
variable {prog : Program} {w : World} {K : Type} [DecidableEq K] {knd : KeyKind prog w K} {A : Around} {E : Value → Shared → Prop} {s : Shared}
end
section
variable {X : Cx}
end
end L2

set_option Elab.async false
set_option linter.all false
set_option maxRecDepth 100000
namespace L2
open PySem PySem.Spec PyProof.Rows PySem.SeqAt
/-! ### the places of a set's elements rise -/
def Rises (xs : Array Nat) : Prop := ∀ (a b : Nat) (ha : a < xs.size) (hb : b < xs.size), a < b → xs[a] < xs[b]
structure Good (L : Bool) (t : SetTable) : Prop where
  led : t.led = L
  rise : Rises t.place
end L2

set_option Elab.async false
set_option linter.all false
set_option maxRecDepth 100000
namespace L2
open PySem PySem.Spec PyProof.Rows PySem.SeqAt
/-! ### a set whose table is known to be G and whose elements are all different -/
section
variable {prog : Program} {w : World} {K : Type} [DecidableEq K] {knd : KeyKind prog w K} {A : Around} {E : Value → Shared → Prop} {s : Shared} {G : SetTable → Prop}
def Apart (knd : KeyKind prog w K) (l : List (Int × Value)) : Prop := l.Pairwise fun e e' => ∀ k, knd.is k e.2 = true → knd.is k e'.2 = false
theorem Apart.push {l : List (Int × Value)} {k : K} {x : Value} {hh : Int} (h : Apart knd l) (hn : ∀ e ∈ l, knd.is k e.2 = false) (hk : knd.is k x = true) : Apart knd (l ++ [(hh, x)]) := by
  refine List.pairwise_append.mpr ⟨h, List.pairwise_singleton _ _, fun e he b hb k' hk' => ?_⟩
  rw [List.mem_singleton.mp hb]
  show knd.is k' x = false
  rw [KeyKind.is_eq_decide hk k']
  refine decide_eq_false fun e' => ?_
  subst e'
  rw [hn e he] at hk'; cases hk'
structure Tab (knd : KeyKind prog w K) (G : SetTable → Prop) (o : Obj) (es : Array (Int × Value)) (ep : Nat) (t : SetTable) (S : K → Bool) (n : Nat) : Prop where
  ex : o.ExactSet
  dat : o.data = .set es ep t
  el : ElemsOf knd es.toList
  mem : ∀ k, S k = true ↔ ∃ e ∈ es.toList, knd.is k e.2 = true
  few : es.size < scanBound
  fit : t.fits es.size = true
  num : es.size = n
  good : G t
  apart : Apart knd es.toList
def SetG (knd : KeyKind prog w K) (G : SetTable → Prop) (h : Heap) (a : Addr) (S : K → Bool) (n : Nat) : Prop := ∃ o es ep t, h.get? a = some o ∧ Tab knd G o es ep t S n
/-- what is written is what stands there -/
theorem stored {h : Heap} {a : Addr} {o : Obj} {es : Array (Int × Value)} {ep : Nat} {t : SetTable} {S : K → Bool} {n : Nat} {es' : Array (Int × Value)} {t' : SetTable} {S' : K → Bool} {n' : Nat} (ho : h.get? a = some o) (T : Tab knd G o es ep t S n)
    (T' : ∀ o', o'.ExactSet → o'.data = .set es' (ep + 1) t' → Tab knd G o' es' (ep + 1) t' S' n') : ∃ o', (h.update a (Obj.putSet es' t')).get? a = some o' ∧ Tab knd G o' es' (ep + 1) t' S' n' := by
  have hp := putSet_of es' t' T.dat
  have hg := Heap.get?_update_self (Obj.putSet es' t') ho (by rw [hp]; rfl)
  rw [hp] at hg
  exact ⟨_, hg, T' _ T.ex rfl⟩
end
end L2

set_option Elab.async false
set_option linter.all false
set_option maxRecDepth 100000
set_option maxHeartbeats 4000000
namespace L2
open PySem PySem.Spec PyProof.Rows PySem.SeqAt
section
variable {prog : Program} {w : World} {A : Around} {R : Result → Shared → Prop} {I : Addr} {fp wr : List Addr} {Gm : Array GenState → Array GenState → Prop} {n : Nat} {P : Nat → Value → Prop} {St : Nat → Shared → Prop} {L : Bool}
theorem SetG.at' {K : Type} [DecidableEq K] {knd : KeyKind prog w K} {G : SetTable → Prop} {h h' : Heap} {a : Addr} {S S' : K → Bool} {m m' : Nat} (x : SetG knd G h a S m) (e : ∀ o, h.get? a = some o → h'.get? a = some o) (eS : ∀ k, S k = S' k) (em : m = m') : SetG knd G h' a S' m' := by
  obtain ⟨o, es, ep, t, ho, T⟩ := x
  have : S = S' := funext eS
  subst this; subst em
  exact ⟨o, es, ep, t, e o ho, T⟩
end
section
variable {prog : Program} {w : World} {A : Around} {E : Value → Shared → Prop} {s : Shared}
end
end L2

set_option Elab.async false
set_option linter.all false
set_option maxRecDepth 100000
set_option maxHeartbeats 4000000
namespace L2
open PySem PySem.Spec PyProof.Rows PySem.SeqAt
/-! ### set(a list of ints) -/
section
variable {X : Cx}
end
end L2

set_option Elab.async false
set_option linter.all false
set_option maxRecDepth 100000
set_option maxHeartbeats 4000000
namespace L2
open PySem PySem.Spec PyProof.Rows PySem.SeqAt
/-! ### the orders in which a set may be gone over -/
section
variable {M : Model} {A : Around} {E : Value → Shared → Prop}
end
end L2

set_option Elab.async false
set_option linter.all false
set_option maxRecDepth 100000
set_option maxHeartbeats 4000000
namespace L2
open PySem PySem.Spec PyProof.Rows PySem.SeqAt
/-! ### one step over a set that is not drawn -/
section
variable {prog : Program} {w : World} {A : Around} {E : Value → Shared → Prop} {s : Shared}
end
end L2

set_option Elab.async false
set_option linter.all false
set_option maxRecDepth 100000
set_option maxHeartbeats 4000000
namespace L2
open PySem PySem.Spec PyProof.Rows PySem.SeqAt
section
variable {prog : Program} {w : World} {A : Around} {E : Value → Shared → Prop} {s : Shared}
def IsSI (h : Heap) (it : Addr) (first : Value) (i : Nat) (a : Addr) (n ep : Nat) : Prop := ∃ o, h.get? it = some o ∧ o.cls = .type "set_iterator" ∧ o.data = .fields #[first, .int i 0, .ref a, .int n 0, .int ep 0]
theorem IsSI.typeIs {it a : Addr} {first : Value} {i n ep : Nat} (x : IsSI s.heap it first i a n ep) : s.TypeIs (.ref it) "set_iterator" := let ⟨o, ho, hc, _⟩ := x; ⟨o, ho, hc⟩
end
end L2

set_option Elab.async false
set_option linter.all false
set_option maxRecDepth 100000
set_option maxHeartbeats 4000000
namespace L2
open PySem PySem.Spec PyProof.Rows PySem.SeqAt
section
variable {prog : Program} {w : World} {A : Around} {E : Value → Shared → Prop} {s : Shared}
end
end L2

set_option Elab.async false
set_option linter.all false
set_option maxRecDepth 100000
set_option maxHeartbeats 4000000
namespace L2
open PySem PySem.Spec PyProof.Rows PySem.SeqAt
section
variable {prog : Program} {w : World} {A : Around} {E : Value → Shared → Prop} {s : Shared}
end
end L2

set_option Elab.async false
set_option linter.all false
set_option maxRecDepth 100000
set_option maxHeartbeats 4000000
namespace L2
open PySem PySem.Spec PyProof.Rows PySem.SeqAt
section
variable {prog : Program} {w : World} {A : Around} {E : Value → Shared → Prop} {s : Shared}
theorem IsSI.at' {h h' : Heap} {it a : Addr} {first : Value} {i n ep : Nat} (x : IsSI h it first i a n ep) (e : ∀ o, h.get? it = some o → h'.get? it = some o) : IsSI h' it first i a n ep := let ⟨o, ho, r⟩ := x; ⟨o, e _ ho, r⟩
end
end L2

set_option Elab.async false
set_option linter.all false
set_option maxRecDepth 100000
set_option maxHeartbeats 4000000
namespace L2
open PySem PySem.Spec PyProof.Rows PySem.SeqAt
section
variable {prog : Program} {w : World} {A : Around} {E : Value → Shared → Prop} {s : Shared}
end
section
variable {X : Cx}
end
end L2

set_option Elab.async false
set_option linter.all false
set_option maxRecDepth 100000
set_option maxHeartbeats 4000000
/-! the greatest of a list of ints -/
namespace L2
open PySem PySem.Spec PyProof PyProof.Rows
section
variable {X : Cx}
end
end L2

set_option Elab.async false
set_option linter.all false
set_option maxRecDepth 100000
set_option maxHeartbeats 4000000
/-! dicts of the module, by texts -/
namespace L2
open PySem PySem.Spec PyProof PyProof.Rows
inductive Ents (w : World) : List DictEntry → List (Str × V) → Prop
  | nil : Ents w [] []
  | cons {x : Str} {t : Tok} {y : V} {v : Value} {es : List DictEntry} {kvs : List (Str × V)} : RelV y v → Ents w es kvs → Ents w (⟨PyData.keyHash w.params x, .str x t, v⟩ :: es) ((x, y) :: kvs)
theorem Ents.vs {P : Program} {w : World} {es : List DictEntry} {kvs : List (Str × V)} (h : Ents w es kvs) : ∃ vs : List (Str × Value), KV kvs vs ∧ PySem.Pairs (PySem.strKind P w) es vs ∧ vs.map (·.1) = kvs.map (·.1) ∧ ∀ e ∈ es, ∃ k, (PySem.strKind P w).is k e.key = true ∧ e.hash = (PySem.strKind P w).hash k := by
  induction h with
  | nil => exact ⟨[], .nil, .nil, rfl, fun _ h => nomatch h⟩
  | @cons x t y v es kvs r _ ih =>
    obtain ⟨vs, h1, h2, h3, h4⟩ := ih
    have hx : (PySem.strKind P w).is x (.str x t) = true := by show Value.isStrOf x (.str x t) = true; simp [Value.isStrOf]
    refine ⟨(x, v) :: vs, .cons ⟨rfl, r⟩ h1, .cons hx rfl h2, by rw [List.map_cons, List.map_cons, h3], fun e he => ?_⟩
    rcases List.mem_cons.mp he with rfl | he
    · exact ⟨x, hx, rfl⟩
    · exact h4 e he
structure ModD (w : World) (K : PySem.W.Frag) (d : Addr) (kvs : List (Str × V)) : Prop where
  low : (d == sysModules) = false
  nd : (kvs.map (·.1)).Nodup
  at' : ∃ (o : Obj) (es : List DictEntry) (ep : Nat), K.lookup d = some o ∧ o.ExactDict ∧ o.data = .dict es.toArray ep ∧ Ents w es kvs
section
variable {X : Cx} {pins : List (Addr × Obj)} {σ : St} {H : Hp} {s : Shared} {d : Addr} {kvs : List (Str × V)}
theorem ModD.dict (h : ModD X.w X.K d kvs) (I : Inv X pins σ H s) : ∃ vs : List (Str × Value), KV kvs vs ∧ s.heap.DictOf (PySem.strKind X.prog X.w) d vs ∧ ∃ ob, s.heap.get? d = some ob ∧ ob.dict = none := by
  obtain ⟨o, es, ep, h1, h2, h3, h4⟩ := h.at'
  obtain ⟨vs, r1, r2, r3, r4⟩ := h4.vs (P := X.prog)
  have e := I.kIn d o h1
  exact ⟨vs, r1, ⟨o, es.toArray, ep, e, h2, h3, fun x hx => r4 x (by simpa using hx), by simpa using r2, by rw [r3]; exact h.nd⟩, o, e, h2.2.1⟩
end
section
variable {X : Cx}
theorem RelO.isSome {o : Option V} {p : Option Value} (h : RelO o p) : p.isSome = o.isSome := by
  cases o <;> cases p <;> first | rfl | exact h.elim
end
end L2

set_option Elab.async false
set_option linter.all false
set_option maxRecDepth 100000
set_option maxHeartbeats 4000000
/-! zip of two tuples -/
namespace L2
open PySem PySem.Spec PyProof PyProof.Rows
section
variable {prog : Program} {w : World} {A : Around} {E : Value → Shared → Prop} {s : Shared}
/-- a tuple's iterator stands at k -/
def TSt (i t : Addr) (zs : Array Value) (k : Nat) (h : Heap) : Prop := h.IsTupleIter i t k ∧ h.IsTuple t zs
theorem TSt.ext {i t b : Addr} {zs : Array Value} {k : Nat} {h h' : Heap} (x : TSt i t zs k h) (hs : Heap.ExtBut b h h') (n1 : i ≠ b) (n2 : t ≠ b) : TSt i t zs k h' := ⟨x.1.extBut hs n1, x.2.extBut hs n2⟩
variable {z TI TO i1 i2 t1 t2 : Addr} {xs ys : Array Value} {k1 k2 : Nat} {a b : Value}
end
end L2

set_option Elab.async false
set_option linter.all false
set_option maxRecDepth 100000
set_option maxHeartbeats 4000000
/-! zip of two tuples, gone over -/
namespace L2
open PySem PySem.Spec PyProof PyProof.Rows
section
variable {prog : Program} {w : World} {A : Around} {E : Value → Shared → Prop} {s : Shared} {z TI TO i1 i2 t1 t2 : Addr} {xs ys : Array Value} {k1 k2 : Nat} {a b : Value}
end
end L2

set_option Elab.async false
set_option linter.all false
set_option maxRecDepth 100000
set_option maxHeartbeats 4000000
namespace L2
open PySem PySem.Spec PyProof PyProof.Rows
theorem SqT.apart {X : Cx} {pins : List (Addr × Obj)} {σ : St} {H : Hp} {s : Shared} {a c : Addr} {xs : List V} (I : Inv X pins σ H s) (hf : FpOk X pins H c) (h : SqT X.K H a xs) : a ≠ c := by
  rintro rfl
  rcases h with h | ⟨o, its, n, hk, _⟩
  · rcases h with e | ⟨o, e⟩ <;> (rw [hf.1] at e; cases e)
  · have e := I.ok.mod.kin a o hk
    rcases hf.2.2.2.1 with z | z
    · exact I.ok.noex a o e z
    · exact absurd (Nat.lt_of_lt_of_le (Heap.lt_size (I.ok.bs a o e).1) z) (Nat.lt_irrefl _)
end L2

set_option Elab.async false
set_option linter.all false
set_option maxRecDepth 100000
set_option maxHeartbeats 4000000
namespace L2
open PySem PySem.Spec PyProof PyProof.Rows
/-! a tuple cut, the whole of it is itself -/
section
variable {prog : Program} {w : World} {A : Around} {E : Value → Shared → Prop} {s : Shared}
end
section
variable {X : Cx}
theorem cutV_to (xs : List V) (k : Nat) : cutV xs none (some (k : Int)) = xs.take k := by
  unfold cutV
  rw [HT.sIx_none, HT.sIx_nat, List.drop_zero, Nat.sub_zero]
  exact List.take_eq_take_min.symm
theorem cutV_from (xs : List V) (k : Nat) : cutV xs (some (k : Int)) none = xs.drop k := by
  unfold cutV
  rw [HT.sIx_none, HT.sIx_nat]
  rcases Nat.le_total k xs.length with h | h
  · rw [Nat.min_eq_left h, List.take_of_length_le (by rw [List.length_drop]; omega)]
  · rw [Nat.min_eq_right h, Nat.sub_self, List.take_zero, List.drop_eq_nil_of_le h]
/-! a text of a text, of an int -/
/-! a global that is an object -/
end
section
variable {K : PySem.W.Frag} {a b : Addr} {xs ys : List V} {g : TG} {te : TE} {nT : Nat} {σ : St} {D : Addr} {Q : VK} {H : Hp}
end
theorem SqT.same {K : PySem.W.Frag} {H H' : Hp} {a : Addr} {xs : List V} (h : SqT K H a xs) (sm : Same H H') : SqT K H' a xs := by
  rcases h with (h | ⟨o, h⟩) | h
  · exact .inl (.inl (sm _ _ h))
  · exact .inl (.inr ⟨o, sm _ _ h⟩)
  · exact .inr h
theorem at0 {α : Type} {x : α} {xs : List α} : atI (x :: xs) 0 = some x := atI_nat (j := 0) rfl
end L2

set_option Elab.async false
set_option linter.all false
set_option maxRecDepth 100000
set_option maxHeartbeats 4000000
namespace L2
open PySem PySem.Spec PyProof PyProof.Rows
section
variable {X : Cx}
end
end L2

set_option Elab.async false
set_option linter.all false
set_option maxRecDepth 100000
set_option maxHeartbeats 4000000
/-! a list gone over from behind -/
namespace L2
open PySem PySem.Spec PyProof PyProof.Rows
section
variable {K : PySem.W.Frag} {a : Addr} {xs : List V} {g : TG} {σ : St} {H : Hp}
end
end L2

set_option Elab.async false
set_option linter.all false
set_option maxRecDepth 100000
set_option maxHeartbeats 4000000
/-! list(a dict): its keys -/
namespace L2
open PySem PySem.Spec PyProof PyProof.Rows
section
variable {X : Cx}
end
end L2

set_option Elab.async false
set_option linter.all false
set_option maxRecDepth 100000
set_option maxHeartbeats 4000000
/-! sum of a list of ints, how often a text stands in a list -/
namespace L2
open PySem PySem.Spec PyProof PyProof.Rows PySem.SeqAt
section
variable {X : Cx}
end
end L2

set_option Elab.async false
set_option linter.all false
set_option maxRecDepth 100000
namespace L2
open PySem PySem.Spec PyProof.Rows PySem.SeqAt

/-! ### objects of own classes -/
structure Fl (K : PySem.W.Frag) (C : Addr) (f : Str) : Prop where
  c : Cls K C
  n : NoAttr K C f
structure MethAt (K : PySem.W.Frag) (C : Addr) (m qual : Str) (st : Stmt) : Prop where
  ex : ∃ f fd, Fun K m qual st f fd ∧ Meth K C m f
  cl : Cls K C
structure MakeAt (K : PySem.W.Frag) (mg : Str → Option Value) (x : Str) (C : Addr) (qual : Str) (st : Stmt) : Prop where
  ex : ∃ f fd, Fun K "__init__" qual st f fd ∧ Mk K C f ∧ mg x = some (.ref C)
structure Mcal (P : Program) (w : World) (K : PySem.W.Frag) (mg : Str → Option Value) (base : Heap) (k : Nat) (C : Addr) (m : Str) (ps : List Str) (sp : Sp) : Prop where
  ex : ∃ f fd, FnOk P w K mg base CX0 k f fd ps sp ∧ Binds K fd ps [] ∧ Meth K C m f
  cl : Cls K C
structure Mkal (P : Program) (w : World) (K : PySem.W.Frag) (mg : Str → Option Value) (base : Heap) (k : Nat) (x : Str) (C : Addr) (ps : List Str) (sp : Sp) : Prop where
  ex : ∃ f fd, FnOk P w K mg base CX0 k f fd ps sp ∧ Binds K fd ps [] ∧ Mk K C f ∧ mg x = some (.ref C)
section
variable {P : Program} {w : World} {K : PySem.W.Frag} {mg : Str → Option Value} {base : Heap}
end
section
variable {X : Cx} {o e value : Expr} {es : List Expr} {f m : Str} {pos pos' apos p : Pos} {ta tv : TE} {t : TA} {C : Addr} {x : Str} {ps : List Str} {sp : Sp} {j k : Nat}
end
section
variable {C : Addr} {f m : Str} {sp : Sp} {ta tv : TE} {t : TA} {σ : St} {H : Hp} {Q : VK}
end
theorem lk_hit {f : Str} {v : V} {fs : List (Str × V)} : List.lookup f ((f, v) :: fs) = some v := by simp [List.lookup]
theorem lk_miss {f g : Str} {v : V} {fs : List (Str × V)} (h : (f == g) = false) : List.lookup f ((g, v) :: fs) = List.lookup f fs := by simp [List.lookup, h]
theorem lk_nil {f : Str} : List.lookup f ([] : List (Str × V)) = none := rfl
theorem putF_hit {f : Str} {v x : V} {r : List (Str × V)} : putF f v ((f, x) :: r) = (f, v) :: r := by simp [putF]
theorem putF_miss {f g : Str} {v x : V} {r : List (Str × V)} (h : ¬ g = f) : putF f v ((g, x) :: r) = (g, x) :: putF f v r := by simp [putF, h]
theorem putF_nil {f : Str} {v : V} : putF f v [] = [(f, v)] := rfl
end L2

set_option Elab.async false
set_option linter.all false
set_option maxRecDepth 100000
/-! a text split by another, a text read as a number -/
namespace L2
open PySem PySem.Spec PyProof.Rows PySem.SeqAt
section
variable {X : Cx}
end
end L2

set_option Elab.async false
set_option linter.all false
set_option maxRecDepth 100000
namespace L2
open PySem PySem.Spec PyProof.Rows
/-! ### targets, expressions, turns that the proof never comes to -/
section
variable {X : Cx} {tg e : Expr}
end
end L2

set_option Elab.async false
set_option linter.all false
set_option maxRecDepth 100000
set_option maxHeartbeats 4000000
namespace L2
open PySem PySem.Spec PyProof.Rows PySem.SeqAt
/-! ### sets of texts -/
section
variable {prog : Program} {w : World} {A : Around} {R : Result → Shared → Prop} {I : Addr} {fp wr : List Addr} {Gm : Array GenState → Array GenState → Prop} {n : Nat} {P : Nat → Value → Prop} {St : Nat → Shared → Prop} {L : Bool}
end
section
variable {prog : Program} {w : World} {A : Around} {E : Value → Shared → Prop} {s : Shared}
end
section
variable {X : Cx}
end
section
variable {prog : Program} {w : World} {A : Around} {E : Value → Shared → Prop} {s : Shared}
end
section
variable {X : Cx}
end
/-! ### a choice, as a test -/
section
variable {X : Cx} {c a b : Expr} {tA tB1 tB2 : TT} {pos : Pos}
def tIfT (tc ta tb : TT) : TT := fun σ H Q => tc σ H fun d H1 => if d = true then ta σ H1 Q else tb σ H1 Q
theorem tIfT_at {σ : St} {H : Hp} {Q : Bool → Hp → Prop} (tc ta tb : TT) : tIfT tc ta tb σ H Q = tc σ H fun d H1 => if d = true then ta σ H1 Q else tb σ H1 Q := rfl
theorem pt_ifExp (hc : PT X c tA) (ha : PT X a tB1) (hb : PT X b tB2) : PT X (.IfExp c a b pos) (tIfT tA tB1 tB2) := by
  intro pins s σ H Q I h
  refine isTrue_IfExp (thn (hc pins s σ H _ I h) fun d s1 ⟨H1, I1, q1⟩ => ?_)
  cases d with
  | true => exact ha pins s1 σ H1 Q I1 q1
  | false => exact hb pins s1 σ H1 Q I1 q1
end
end L2

set_option Elab.async false
set_option linter.all false
set_option maxRecDepth 100000
set_option maxHeartbeats 4000000
namespace L2
open PySem PySem.Spec PyProof.Rows PySem.SeqAt PySem.Builtin PySem.Builtin.Str PySem.StrLaws
/-! ### texts parted -/
section
variable {X : Cx}
end
end L2

set_option Elab.async false
set_option linter.all false
namespace L2
open PySem PySem.Spec PyProof.Rows PySem.SeqAt PySem.Builtin PySem.Builtin.Str PySem.StrLaws
/-! ### is True, is False -/
def rIsB : R2 := fun x y H Q => ∃ b, y = .bl b ∧ flatV x = true ∧ Q (.bl (decide (x = .bl b))) H
theorem op_isB {X : Cx} : OpR X (compareOp .Is) rIsB := by
  intro pins s σ H x y v u Q I rx ry h
  obtain ⟨b, rfl, hx, q⟩ := h
  cases ry
  cases x with
  | non => cases rx; exact wpAny_pure (a := Value.bool false) ⟨.bl false, H, I, rfl, q⟩
  | bl k => cases rx; cases k <;> cases b <;> exact wpAny_pure (a := Value.bool _) ⟨.bl _, H, I, rfl, q⟩
  | int i => obtain ⟨t, rfl⟩ := rx; exact wpAny_pure (a := Value.bool false) ⟨.bl false, H, I, rfl, q⟩
  | str i => obtain ⟨t, rfl⟩ := rx; exact wpAny_pure (a := Value.bool false) ⟨.bl false, H, I, rfl, q⟩
  | _ => cases hx
theorem rIsB_at {H : Hp} {Q : VK} (x : V) (b : Bool) : rIsB x (.bl b) H Q = (flatV x = true ∧ Q (.bl (decide (x = .bl b))) H) :=
  propext ⟨fun ⟨_, e, q⟩ => by cases e; exact q, fun q => ⟨b, rfl, q⟩⟩
/-! ### a text that starts with another; a tuple and a tuple -/
end L2

set_option Elab.async false
set_option linter.all false
set_option maxRecDepth 100000
set_option maxHeartbeats 4000000
namespace L2
open PySem PySem.Spec PyProof.Rows
/-! ### list.insert, list.pop(at) -/
section
variable {X : Cx}
end
end L2

set_option Elab.async false
set_option linter.all false
set_option maxRecDepth 100000
namespace L2
open PySem PySem.Spec PyProof.Rows

/-! ### dicts whose keys are tuples of ints and None -/
abbrev OKey := List (Option Int)
def MO (P : Program) (w : World) : HeapKind P w (OKey) := heapK (optK P w) (show 0 ≤ 7 by decide)
def ODict (P : Program) (w : World) (a : Addr) (xs : List (OKey × Addr × Value)) : HO :=
  .ext fun h => ∃ o es ep, h.get? a = some o ∧ o.ExactDict ∧ o.data = .dict es ep ∧ es.toList = xs.map (entryOfKey (MO P w)) ∧ (xs.map (·.1)).Nodup
def KeyO (H : Hp) (k : OKey) (b : Addr) : Prop := H b = some (.tup (k.map optV))
def ORow (H : Hp) (p : OKey × V) (q : OKey × Addr × Value) : Prop := q.1 = p.1 ∧ KeyO H p.1 q.2.1 ∧ RelV p.2 q.2.2
def DO (P : Program) (w : World) (H : Hp) (a : Addr) (kvs : List (OKey × V)) : Prop :=
  ∃ xs, H a = some (ODict P w a xs) ∧ (a == sysModules) = false ∧ xs.length ≤ sizeLine ∧ Paired (ORow H) kvs xs
theorem KeyO.mono {H H' : Hp} {k : OKey} {b : Addr} (h : KeyO H k b) (sm : ∀ c xs, H c = some (.tup xs) → H' c = some (.tup xs)) : KeyO H' k b := by
  exact sm _ _ h
theorem DO.mono {P : Program} {w : World} {H H' : Hp} {a : Addr} {kvs : List (OKey × V)} (h : DO P w H a kvs) (sm : Same H H') : DO P w H' a kvs := by
  obtain ⟨xs, h1, h2, h3, h4⟩ := h
  exact ⟨xs, sm _ _ h1, h2, h3, Paired.imp' (fun p q z => ⟨z.1, z.2.1.mono fun c ys e => sm _ _ e, z.2.2⟩) h4⟩
theorem DO.len {P : Program} {w : World} {H : Hp} {a : Addr} {kvs : List (OKey × V)} (h : DO P w H a kvs) : kvs.length ≤ sizeLine := by
  obtain ⟨xs, h1, h2, h3, h4⟩ := h
  rw [Paired.length h4]; exact h3
section
variable {P : Program} {w : World} {H : Hp}
theorem ORow.val : ∀ {kvs : List (OKey × V)} {xs : List (OKey × Addr × Value)} (k : OKey), Paired (ORow H) kvs xs → RelO (valV kvs k) ((atKey xs k).map (·.2))
  | _, _, k, .nil => True.intro
  | _, _, k, @Paired.cons _ _ _ p q kvs xs r t => by
    have ih := ORow.val k t
    obtain ⟨e1, e2, e3⟩ := r
    by_cases h : p.1 = k
    · have h1 : valV (p :: kvs) k = some p.2 := by simp [valV, h]
      have h2 : atKey (q :: xs) k = some q.2 := by simp [atKey, e1, h]
      rw [h1, h2]; exact e3
    · have hn : ¬ q.1 = k := fun z => h (e1.symm.trans z)
      have h1 : valV (p :: kvs) k = valV kvs k := by simp [valV, h]
      have h2 : atKey (q :: xs) k = atKey xs k := by simp [atKey, hn]
      rw [h1, h2]; exact ih
end
section
variable {X : Cx} {pins : List (Addr × Obj)} {σ : St} {H : Hp} {s : Shared} {a b : Addr} {k : OKey} {kvs : List (OKey × V)}
/-! the rules -/
end
end L2

set_option Elab.async false
set_option linter.all false
set_option maxRecDepth 100000
namespace L2
open PySem PySem.Spec PyProof.Rows

/-! ### exceptions: how one lies behind a call -/
def CX1 (P : Program) (w : World) : CXT := fun outer H s E e s' =>
  ∃ (H' : Hp) (hR : Heap) (a : Addr) (C a0 : Value) (fl : List Addr), e = .ref a ∧ s'.os = s.os ∧ AllBare s'.gens ∧
    Un (frs outer) [] H H' s.heap hR ∧ HOk P w H' hR ∧ (∀ b ∈ fl, H' b = none ∧ (b ∈ frs outer ∨ s.heap.get? b = none)) ∧ (∀ b ∈ frs outer, b ∈ fl) ∧
    Heap.FlyingW (PySem.W.hideAll hR fl) outer a C a0 s'.heap ∧ hR.UpToSlots s'.heap ∧ E C none H'

theorem hok_hide {P : Program} {w : World} {H : Hp} {h h' : Heap} {fl : List Addr} (x : HOk P w H h) (hf : ∀ b ∈ fl, H b = none) (k : (PySem.W.hideAll h fl).StaysIn h') : HOk P w H h' := fun a o e => by
  refine (x a o e).stay (fun b u hb q => k b u (PySem.W.hideAll_get _ q fun z => ?_)) (fun _ q => q) fun _ _ q => q
  have := hf b z
  rcases hb with rfl | hb
  · rw [e] at this; cases this
  · rw [hb] at this; cases this
/-- what flies is no tracked object -/
theorem hok_fly {P : Program} {w : World} {H : Hp} {h : Heap} {fl : List Addr} {a : Addr} (x : HOk P w H h) (hf : ∀ b ∈ fl, H b = none) (n : (PySem.W.hideAll h fl).get? a = none) : H a = none := by
  cases q : H a with
  | none => rfl
  | some o =>
    exfalso
    have y : ObjOk P w H (PySem.W.hideAll h fl) a o := hok_hide x hf (fun b o z => z) a o q
    have : ∃ ob, (PySem.W.hideAll h fl).get? a = some ob := by
      cases o with
      | lst xs => obtain ⟨_, _, _, _, e⟩ := y; exact ⟨_, e⟩
      | tup xs => obtain ⟨_, _, _, ob, e, _⟩ := y; exact ⟨_, e⟩
      | dK kvs => obtain ⟨_, _, _, _, o, _, _, e, _⟩ := y; exact ⟨_, e⟩
      | dT kvs => obtain ⟨_, _, _, _, o, _, _, e, _⟩ := y; exact ⟨_, e⟩
      | set S n => obtain ⟨o, _, _, _, e, _⟩ := y; exact ⟨_, e⟩
      | ins C dx fs => obtain ⟨_, _, _, e, _⟩ := y; exact ⟨_, e⟩
      | own y' => obtain ⟨_, e⟩ := y; exact ⟨_, e⟩
      | xd fs => obtain ⟨_, ⟨_, _, _, e, _⟩, _⟩ := y; exact ⟨_, e⟩
      | rng lo hi => obtain ⟨t, u, v, e⟩ := y; exact ⟨_, e⟩
      | frz ob u => exact ⟨_, y.1⟩
      | tbl ps => exact ⟨_, y⟩
      | met f z => exact ⟨_, y⟩
      | ext φ => exact y.2.1
    obtain ⟨ob, e⟩ := this
    rw [n] at e; cases e
/-- the heap where it lies, seen from where the call was -/
theorem un_fly {P : Program} {w : World} {fs : List Addr} {H H' : Hp} {h hR h' : Heap} {fl : List Addr} (u : Un fs [] H H' h hR) (hf : ∀ b ∈ fl, H' b = none ∧ (b ∈ fs ∨ h.get? b = none)) (hs : ∀ b ∈ fs, b ∈ fl)
    (nf : ∀ b ∈ fs, H b = none ∧ ∃ o, h.get? b = some o ∧ ∀ vs, o.data ≠ .fields vs) (k : (PySem.W.hideAll hR fl).StaysIn h') (sl : hR.UpToSlots h') : Un fs [] H H' h h' := by
  have nfl : ∀ b o, h.get? b = some o → b ∉ fs → b ∉ fl := fun b o q hb z => by
    rcases (hf b z).2 with y | y
    · exact hb y
    · rw [q] at y; cases y
  refine ⟨fun b o q n hb hx => k b o (PySem.W.hideAll_get _ (u.keep b o q n hb hx) (nfl b o q hb)), fun b o q n hb hx => ?_, u.free, fun b o q hx => ?_, u.tups, u.frzs, u.tbls⟩
  · obtain ⟨s1, e1⟩ := u.slot b o q n hb hx
    obtain ⟨_, o', e', nd⟩ := nf b hb
    rw [q] at e'; cases e'
    obtain ⟨s2, e2⟩ := sl b _ e1 nd
    exact ⟨s2, e2⟩
  · by_cases hb : b ∈ fs
    · obtain ⟨n, o', e', nd⟩ := nf b hb
      rw [q] at e'; cases e'
      obtain ⟨s1, e1⟩ := u.slot b o q n hb hx
      obtain ⟨s2, e2⟩ := sl b _ e1 nd
      exact ⟨_, e2⟩
    · obtain ⟨o', e⟩ := u.there b o q hx
      exact ⟨o', k b o' (PySem.W.hideAll_get _ e (nfl b o q hb))⟩

/-- a def's body, where exceptions are as CX1 tells -/
structure Lv (X : Cx) (E : XK) : Prop where
  st : X.stack = X.env :: X.outer
  fr : X.env.frame = some X.env.locals
  ex : X.ex = []
  calm : X.calm = true
  xe : ∀ e s', wpAny (model X.prog X.w) X.A (leaving X.env e) (fun _ s'' => CX1 X.prog X.w X.outer X.H₀ X.s₀ E e s'') (fun e' s'' => CX1 X.prog X.w X.outer X.H₀ X.s₀ E e' s'') s' → X.xe e s'
theorem lv_of {P : Program} {w : World} {K : PySem.W.Frag} {mg : Str → Option Value} {base : Heap} {N : List Str} {qual : Str} {scope : Scope} {f : Addr} {cd : Value} {A : Around} {outer : List Env} {s : Shared} {H : Hp} {E : XK} :
    Lv (cxOf (CX1 P w) P w K mg base N qual scope f cd A outer s H E) E := ⟨rfl, rfl, rfl, rfl, fun _ _ h => h⟩

section
variable {X : Cx} {E : XK} {x : Str} {C : Addr} {bmB : List Value} {B newId initId : String} {np cpos pos : Pos} {e : Expr} {es : List Expr} {t : TA}
def tRaise (C : Addr) (E : XK) (ta : TA) : TS := fun _ σ H => ta σ H fun vs H1 => vs.length ≤ sizeLine ∧ E (.ref C) none H1
theorem Lv.sub (L : Lv X E) {b : Addr} (h : b ∈ frs X.outer) : b ∈ frs X.stack := by
  rw [L.st]; unfold frs; rw [List.filterMap_cons, L.fr]; exact List.mem_cons_of_mem _ h
theorem ps_raise (L : Lv X E) (O : OwnCls x C bmB newId X.mg X.base) (FB : ExcBaseFacts B newId initId bmB) (ha : PA X (e :: es) t) (hg : Gl X x := by rfl) (hd : (x == ("__debug__" : Str)) = false := by decide)
    (he : starEach (e :: es) X.env = (false, eval e X.env) :: starEach es X.env := by rfl) (hpl : (backTo cpos (starEach es X.env)).any (·.1) = false := by rfl) :
    PS X (.Raise (some (.Call (.Name x np) (e :: es) [] cpos)) none pos) (tRaise C E t) := by
  intro pins s σ H D I h
  obtain ⟨tl, N, nm, q, bs, hdct, sn, sub, ab, col, dd, k0, k1, k2, k3, k5, mN, hC, hN, hni, T⟩ := O.obj
  refine wpAny_Raise_call_subT (C := C) (nm := nm) (q := q) (N := N) (bs := bs) (bm := tl) (hdct := hdct) (sn := sn) (sub := sub) (ab := ab) (col := col) (dd := dd) (k0 := k0) (k1 := k1) (k2 := k2) (k3 := k3) (k5 := k5)
    FB (mN := mN) (T.hasType FB.hasBase) (I.ok.hd L.calm) (by rw [he]; show (false || (backTo cpos (starEach es X.env)).any (·.1)) = false; rw [hpl]; rfl) hni (ld_glob I hg O.bound ⟨rfl, ?_⟩ hd)
  have h0 := ha cpos pins s σ H _ I h
  rw [he] at h0 ⊢
  refine Calls.evalArgs_plain (wpAny_mono h0 (fun us s₂ ⟨vs, H2, I2, r, z, q⟩ => ⟨rfl, (by rw [← r.length]; exact z), I2.bk _ _ hC, hN.keeps I2.bk, T.keeps I2.bk, fun h' a hm => L.xe _ _ ?_⟩) fun _ _ y => y)
  have hin : ∀ env ∈ (X.env :: X.outer), ∀ b, env.frame = some b → b ∈ frs X.stack := fun env hm b hb => by
    rw [L.st]; exact List.mem_filterMap.mpr ⟨env, hm, hb⟩
  have hfr := I2.stack
  rw [L.st] at hfr
  refine wpAny_leaves_madeW (base := PySem.W.hideAll s₂.heap (frs X.stack)) (by rw [I.ok.frames, L.st]) L.fr (fun b o q => PySem.W.of_hideAll _ q) (PySem.W.funFrames_hide hfr hin) hm fun h'' t0 x1 x2 x3 x4 => ?_
  refine ⟨H2, s₂.heap, a, .ref C, .ref t0, frs X.stack, rfl, I2.os, I2.bare, (by have := I2.base; rw [L.ex] at this; exact this), I2.hok, fun b hb => ⟨I2.stkFree b hb, ?_⟩, fun b hb => L.sub hb, x1, (Heap.UpToSlots.of_keeps hm.keeps).trans x4, q⟩
  rcases List.mem_cons.mp (I2.stkSub b hb) with rfl | hb
  · exact .inr (Heap.get?_none_of_le I2.ok.above)
  · exact .inl hb

end

/-! ### defs that may raise -/
structure CalX (P : Program) (w : World) (K : PySem.W.Frag) (mg : Str → Option Value) (base : Heap) (k : Nat) (x : Str) (ps : List Str) (sp : Sp) : Prop where
  ex : ∃ f fd, FnOk P w K mg base (CX1 P w) k f fd ps sp ∧ Binds K fd ps [] ∧ PySem.W.keepIn K (.ref f) = true ∧ mg x = some (.ref f)
section
variable {P : Program} {w : World} {K : PySem.W.Frag} {mg : Str → Option Value} {base : Heap}
theorem FnOk.up {CX : CXT} {k : Nat} {f : Addr} {fd : FuncData} {ps : List Str} {sp : Sp} (F : FnOk P w K mg base CX0 k f fd ps sp) : FnOk P w K mg base CX k f fd ps sp :=
  ⟨F.len, fun A outer s H args us vs Q E hr he hb hv hs => codeAny_mono (F.run A outer s H args us vs Q E hr he hb hv hs) fun r s' h => by
    cases r with
    | error e => exact False.elim h
    | ok fl => cases fl <;> exact h⟩
theorem Cal.x {k : Nat} {x : Str} {ps : List Str} {sp : Sp} (c : Cal P w K mg base k x ps sp) : CalX P w K mg base k x ps sp := by
  obtain ⟨f, fd, F, b, kp, m⟩ := c.ex
  exact ⟨f, fd, F.up, b, kp, m⟩
/-- a promise that knows no exception -/
theorem CalX.calm {k : Nat} {x : Str} {ps : List Str} {sp sp' : Sp} (c : CalX P w K mg base k x ps sp) (h : ∀ vs H Q E, sp' vs H Q E → sp vs H Q E0) : Cal P w K mg base k x ps sp' := by
  obtain ⟨f, fd, F, b, kp, m⟩ := c.ex
  refine ⟨f, fd, ⟨fun vs H Q E q => F.len vs H Q _ (h _ _ _ _ q), fun A outer s H args us vs Q E hr he hb hv hs => codeAny_mono (F.run A outer s H args us vs Q E0 hr he hb hv (h _ _ _ _ hs)) fun r s' h => ?_⟩, b, kp, m⟩
  cases r with
  | error e => obtain ⟨_, _, _, _, _, _, _, _, _, _, _, _, _, _, _, q⟩ := h; exact False.elim q
  | ok fl => cases fl <;> exact h
theorem DefAt.calX {x : Str} {st : Stmt} {N ps : List Str} {k : Nat} {sp : Sp} (D : DefAt K mg x st) (S : FnScope N ps (defScope st))
    (hb : ∀ (kV doc pm : Value) (an : Option Addr) (cdv ct : Value) (us : List Value), us.length = ps.length → bindArgs (PySem.W.fnOf x x (defArgs st) (defBody st) (defScope st) .none kV doc pm an cdv ct) ⟨us, []⟩ = pure (ps.zip us))
    (len : ∀ vs H Q E, sp vs H Q E → vs.length = ps.length)
    (hbody : ∀ (f : Addr) (cdv : Value) (A : Around) (outer : List Env) (s : Shared) (H : Hp) (vs : List V) (Q : VK) (E : XK), Room k (A.deeper (envOfC x (defScope st) s.heap.objs.size f cdv)) → sp vs H Q E →
      ∃ t, PSs (cxOf (CX1 P w) P w K mg base N x (defScope st) f cdv A outer s H E) (defBody st) t ∧ t { nx := fun _ H' => Q .non H', rt := Q } (start N vs) H) : CalX P w K mg base (k + 1) x ps sp := by
  obtain ⟨f, fd, F, m⟩ := D.ex
  have fb := F.binds hb
  have kp := F.kp
  obtain ⟨oc, od, kV, doc, pm, an, cdv, ct, osl, rfl, lk, hcd⟩ := F.ex
  exact ⟨f, _, fn_of lk hcd S len fun A outer s H vs Q E hr hsp => hbody f cdv A outer s H vs Q E hr hsp, fb, kp, m⟩
end
section
variable {X : Cx}
end

/-! ### try: what may raise stands at a fixed place: the names are as they were when it began -/
/-- an exception out of a call at these names -/
def XA (X : Cx) (Ee : XK) (pins : List (Addr × Obj)) (σ : St) : Value → Shared → Prop := fun e s' => ∃ H0 s0, Inv X pins σ H0 s0 ∧ CX1 X.prog X.w X.stack H0 s0 Ee e s'
def EAt (X : Cx) (Ee : XK) (e : Expr) (t : TE) : Prop :=
  ∀ (pins : List (Addr × Obj)) (s : Shared) (σ : St) (H : Hp) (Q : VK), Inv X pins σ H s → t σ H Q → wpAny (model X.prog X.w) X.A (eval e X.env) (EP X pins σ Q) (XA X Ee pins σ) s
def SAt (X : Cx) (Ee : XK) (st : Stmt) (t : TS) : Prop :=
  ∀ (pins : List (Addr × Obj)) (s : Shared) (σ : St) (H : Hp) (D : Ends), Inv X pins σ H s → t D σ H → wpAny (model X.prog X.w) X.A (exec st X.env) (SP X pins D) (XA X Ee pins σ) s
def SsAt (X : Cx) (Ee : XK) (st : List Stmt) (t : TS) : Prop :=
  ∀ (pins : List (Addr × Obj)) (s : Shared) (σ : St) (H : Hp) (D : Ends), Inv X pins σ H s → t D σ H → wpAny (model X.prog X.w) X.A (execs st X.env) (SP X pins D) (XA X Ee pins σ) s
section
variable {X : Cx} {Ee : XK}
theorem PE.at {e : Expr} {t : TE} (h : PE X.nox e t) : EAt X Ee e t := fun pins s σ H Q I q =>
  wpAny_mono (h pins s σ H Q (I.wish _) q) (fun _ _ ⟨v, H', I', r, q⟩ => ⟨v, H', I'.unwish, r, q⟩) fun _ _ z => False.elim z
theorem PSs.at {st : List Stmt} {t : TS} (h : PSs X.nox st t) : SsAt X Ee st t := fun pins s σ H D I q =>
  wpAny_mono (h pins s σ H D (I.wish _) q) (fun _ _ q => q.unwish) fun _ _ z => False.elim z
theorem at_call {j k : Nat} {x : Str} {ps : List Str} {sp : Sp} {p pos : Pos} {e : Expr} {es : List Expr} {t : TA} (c : CalX X.prog X.w X.K X.mg X.base j x ps sp) (hr : Room k X.A) (ha : PA X.nox (e :: es) t) (hle : j ≤ k := by decide) (hg : Gl X x := by rfl)
    (hdb : (x == ("__debug__" : Str)) = false := by decide) (he : starEach (e :: es) X.env = (false, eval e X.env) :: starEach es X.env := by rfl) (hpl : (backTo pos (starEach es X.env)).any (·.1) = false := by rfl) :
    EAt X Ee (.Call (.Name x p) (e :: es) [] pos) (tCall sp [] Ee t) := by
  obtain ⟨f, fd, F, b, kp, m⟩ := c.ex
  intro pins s σ H Q I h
  refine wpAny_Call_Name_kw (ld_glob I hg m ?_ hdb)
  refine PySem.W.callWith_K (h₀ := X.base) I.ok.mod.kin kp (wpAny_mono (ha pos pins s σ H _ (I.wish _) h) (fun us s1 ⟨vs, H1, I1, r, q⟩ => ⟨I1.kIn, ?_⟩) fun _ _ z => False.elim z) he hpl
  have I1 := I1.unwish
  have q : sp vs H1 Q Ee := by have := q; simp only [List.append_nil] at this; exact this
  have hl : us.length = ps.length := by rw [← r.length]; exact F.len _ _ _ _ q
  have hb := b s1 us I1.kIn (by rw [List.append_nil]; exact hl)
  rw [List.append_nil] at hb
  refine wpAny_call (codeAny_mono (F.run X.A X.stack s1 H1 ⟨us, []⟩ us vs Q Ee (hr.mono hle) I1.env0 hb r q) fun r s' hq => ?_)
  cases r with
  | error e => exact ⟨H1, s1, I1, hq⟩
  | ok fl =>
    cases fl with
    | ret u => exact I1.after hq
    | next => exact False.elim hq
    | brk => exact False.elim hq
    | cont => exact False.elim hq
theorem at_expr {e : Expr} {te : TE} {pos : Pos} (he : EAt X Ee e te) (hs : swapsWith e none pos.line X.env = pure false := by rfl) : SAt X Ee (.Expr e pos) (tDrop te) := by
  intro pins s σ H D I h
  exact wpAny_Expr_any (thn (he pins s σ H _ I h) fun v s1 ⟨x, H1, I1, r1, q1⟩ => ⟨σ, H1, I1, q1⟩) I.quiet hs
theorem ats_one {st : Stmt} {t : TS} (h : SAt X Ee st t) : SsAt X Ee [st] t := by
  intro pins s σ H D I h'
  refine wpAny_execs_cons (thn (h pins s σ H D I h') fun f s1 q => ?_)
  cases f with
  | next => exact wpAny_execs_nil q
  | ret v => exact q
  | brk => exact q
  | cont => exact q
end

/-! ### within an except suite -/
abbrev Cx.held (X : Cx) (a : Addr) : Cx := { X with A := X.A.mark (some (.ref a)), calm := false, xe := fun _ _ => False }
section
variable {X : Cx} {pins : List (Addr × Obj)} {σ : St} {H : Hp} {s : Shared}
theorem Inv.held (I : Inv X pins σ H s) (a : Addr) : Inv (X.held a) pins σ H s :=
  ⟨⟨I.ok.mod, I.ok.kind, I.ok.glob, I.ok.blt, I.ok.above, I.ok.inj, I.ok.has, I.ok.cab, fun z => Bool.noConfusion (show false = true from z), I.ok.frames, I.ok.stk, I.ok.exf, I.ok.bs, I.ok.bsz, I.ok.noex, I.ok.exfs, I.ok.funs, I.ok.frf⟩, I.os, I.bare, I.base, I.loc, I.cell, I.free, I.freeC, I.pin, I.hok, I.len⟩
theorem Inv.unheld {a : Addr} (I : Inv (X.held a) pins σ H s) (ok : X.Ok) : Inv X pins σ H s := ⟨ok, I.os, I.bare, I.base, I.loc, I.cell, I.free, I.freeC, I.pin, I.hok, I.len⟩
/-- an object that nothing knew of is tracked from here on -/
theorem Inv.track {a : Addr} {o : HO} (I : Inv X pins σ H s) (hn : H a = none) (h0 : ∀ b ob, X.s₀.heap.get? b = some ob → b ≠ a) (hl : X.env.locals ≠ a) (hc : ∀ x c, X.env.cells.lookup x = some c → c ≠ a)
    (hp : ∀ p ∈ X.pn ++ pins, p.1 ≠ a) (ok : ObjOk X.prog X.w (upd H a o) s.heap a o) (hx : X.ex = []) : Inv X pins σ (upd H a o) s := by
  refine ⟨I.ok, I.os, I.bare, ⟨I.base.keep, I.base.slot, fun b ob q n z => ?_, I.base.there, fun b xs q => ?_, fun b ob xs q => ?_, fun b ps q => ?_⟩, I.loc, I.cell, ?_, fun x c q => ?_, fun p hm => ?_, fun b ob q => ?_, I.len⟩
  · rw [upd_ne (h0 b ob q)]; exact I.base.free b ob q n z
  · have := I.base.tups b xs q; rw [upd_ne (ne_of_none this hn)]; exact this
  · have := I.base.frzs b ob xs q; rw [upd_ne (ne_of_none this hn)]; exact this
  · obtain ⟨m, e⟩ := I.base.tbls b ps q; exact ⟨m, by rw [upd_ne (ne_of_none e hn)]; exact e⟩
  · rw [upd_ne hl]; exact I.free
  · rw [upd_ne (hc x c q)]; exact I.freeC x c q
  · obtain ⟨e1, e2, e3⟩ := I.pin p hm
    exact ⟨e1, by rw [upd_ne (hp p hm)]; exact e2, e3⟩
  · by_cases e : b = a
    · subst e; rw [show upd H b o b = some o from if_pos rfl] at q; cases q; exact ok
    · rw [upd_ne e] at q
      exact (I.hok b ob q).stay (fun _ _ _ z => z) (fun c z => by rw [upd_ne (ne_of_none z hn)]; exact z) fun c xs z => by rw [upd_ne (ne_of_none z hn)]; exact z
/-- a name goes -/
theorem Inv.goes {i : Nat} {x : Str} {v : Option Value} {h' : Heap} {m : Str → Option Value} {t' : Nat} (I : Inv X pins σ H s) (hN : X.N.Nodup) (hi : X.N[i]? = some x) (hk : X.env.kindOf x = some .local)
    (hl : ∀ (i : Nat) (x : Str) (v : V), X.N[i]? = some x → σ[i]? = some (some v) → Vis X.env.scope x → ∃ u, RelV v u ∧ Look X.env s.heap m x u)
    (hn' : h'.Ns X.env.locals (fun y => if y = x then v else m y)) (hn : s.heap.Ns X.env.locals m) (hs : Heap.SameBut X.env.locals s.heap h') : Inv X pins (σ.set i none) H { s with heap := h', toks := t' } := by
  have cne := I.cne
  have neL : ∀ b o, X.s₀.heap.get? b = some o → b ≠ X.env.locals := fun b o e => Nat.ne_of_lt (Nat.lt_of_lt_of_le (Heap.lt_size e) I.ok.above)
  have hiσ : i < σ.length := by rw [I.len]; exact (List.getElem?_eq_some_iff.mp hi).1
  refine ⟨I.ok, I.os, I.bare, ⟨fun b o e n hb hx => ?_, fun b o e n hb hx => ?_, I.base.free, fun b o e hx => ?_, I.base.tups, I.base.frzs, I.base.tbls⟩, ⟨_, hn', fun j y v' e1 e2 e3 => ?_⟩, fun y c e => ?_, I.free, I.freeC, fun p hp => ?_, fun b ob e => ?_, by simpa using I.len⟩
  · exact (hs.2 b (neL b o e)).trans (I.base.keep b o e n hb hx)
  · obtain ⟨sl, e1⟩ := I.base.slot b o e n hb hx
    exact ⟨sl, (hs.2 b (neL b o e)).trans e1⟩
  · obtain ⟨o', e1⟩ := I.base.there b o e hx
    exact ⟨o', (hs.2 b (neL b o e)).trans e1⟩
  · by_cases hj : j = i
    · subst hj
      rw [List.getElem?_set_self hiσ] at e2
      cases e2
    · rw [List.getElem?_set_ne (Ne.symm hj)] at e2
      obtain ⟨u', r', q⟩ := hl j y v' e1 e2 e3
      refine ⟨u', r', ?_⟩
      rcases q with ⟨k, e⟩ | ⟨k, c, e, z⟩
      · refine .inl ⟨k, ?_⟩
        have : y ≠ x := fun e => hj (nodup_ix hN e1 (e ▸ hi))
        simp [this, e]
      · exact .inr ⟨k, c, e, z.sameBut hs (cne y c e)⟩
  · obtain ⟨w', z⟩ := I.cell y c e
    exact ⟨w', z.sameBut hs (cne y c e)⟩
  · obtain ⟨e, n, ne, nf, d⟩ := I.pin p hp
    exact ⟨(hs.2 p.1 ne).trans e, n, ne, nf, d⟩
  · refine (I.hok b ob e).stay (fun c w' hc q => (hs.2 c ?_).trans q) (fun _ q => q) fun _ _ q => q
    rintro rfl
    have hfree := I.free
    rcases hc with rfl | hc
    · rw [hfree] at e; cases e
    · rw [hfree] at hc; cases hc
end

/-! ### try: .. except C as n: .. -/
/-- what an exception object is, where only its class matters -/
abbrev exO (a : Addr) (C : Value) : HO := .ext fun h => ∃ o, h.get? a = some o ∧ o.cls = C
def tTry (C : Addr) (i : Nat) (tb : XK → TS) (th : TS) : TS := fun D σ H =>
  tb (fun C' _ H' => C' = .ref C ∧ ∀ a, H' a = none → th { nx := fun σ' H2 => D.nx (σ'.set i none) H2, rt := D.rt, bk := fun σ' H2 => D.bk (σ'.set i none) H2, ct := fun σ' H2 => D.ct (σ'.set i none) H2 } (σ.set i (some (.ref a))) (upd H' a (exO a (.ref C)))) D σ H
section
variable {X : Cx} {x n : Str} {C : Addr} {bmB : List Value} {B newId initId : String} {np hp pos : Pos} {body suite : List Stmt} {b₀ : Stmt} {tb : XK → TS} {th : TS} {rest : List ExceptHandler}
theorem ps_try (i : Nat) (hst : X.stack = X.env :: X.outer) (hfr : X.env.frame = some X.env.locals) (hex : X.ex = []) (hN : X.N.Nodup) (O : OwnClsQ x C bmB newId X.mg X.base) (hbase : bmB.contains (.type "BaseException") = true)
    (hb : ∀ Ee, SsAt X Ee body (tb Ee)) (hs : ∀ a, PSs (X.held a) (b₀ :: suite) th) (hi : X.N[i]? = some n := by rfl) (hk : X.env.kindOf n = some .local := by rfl) (hg : Gl X x := by rfl) (hd : (x == ("__debug__" : Str)) = false := by decide) :
    PS X (.Try body (.ExceptHandler (some (.Name x np)) (some n) (b₀ :: suite) hp :: rest) [] [] pos) (tTry C i tb th) := by
  intro pins s σ H D I h
  refine wpAny_Try_except (wpAny_mono (hb _ pins s σ H D I h) (fun f s1 q => ?_) fun e s1 q => ?_)
  · cases f with
    | next => obtain ⟨σ', H', I', q⟩ := q; exact pss_nil pins s1 σ' H' D I' q
    | ret v => exact q
    | brk => exact q
    | cont => exact q
  obtain ⟨H0, s0, I0, H', hR, a, C', a0, fl, rfl, os, bare, un, hok, hf, hsub, fly, sl, rfl, q⟩ := q
  have fly' := fly
  rw [hst] at fly'
  refine wpAny_looks_onW (by rw [I.ok.frames, hst]) hfr fly' fun h4 held sm4 => wpAny_landsW held fun h5 fly5 sm5 => ?_
  have sl5 := sl.trans (sm4.trans sm5)
  have nf : ∀ b ∈ frs X.stack, H0 b = none ∧ ∃ o, s0.heap.get? b = some o ∧ ∀ vs, o.data ≠ .fields vs := fun b hb => ⟨I0.stkFree b hb, (I0.stack.mem hb).2⟩
  have I5 : Inv X pins σ H' { s1 with heap := h5 } := I0.call' (ch := []) (s' := { s1 with heap := h5 }) os (un_fly (P := X.prog) (w := X.w) un hf hsub nf fly5.1 sl5) (hok_hide hok (fun b hb => (hf b hb).1) fly5.1) bare (fun b z => absurd z (by simp))
  refine handleBy_own_as (x := x) (C := C) (bmB := bmB) (newId := newId) (mg := X.mg) hbase (ld_glob (X := X.held a) (I5.held a) hg O.bound ⟨rfl, O.keeps I5.bk, ?_, ?_⟩ hd)
  · obtain ⟨oe, vs, e1, e2, _⟩ := fly5.first; exact ⟨oe, e1, e2⟩
  refine lands_againW fly5 fun h6 fly6 sm6 => ?_
  have sl6 := sl5.trans sm6
  have I6 : Inv X pins σ H' { s1 with heap := h6 } := I0.call' (ch := []) (s' := { s1 with heap := h6 }) os (un_fly (P := X.prog) (w := X.w) un hf hsub nf fly6.1 sl6) (hok_hide hok (fun b hb => (hf b hb).1) fly6.1) bare (fun b z => absurd z (by simp))
  obtain ⟨oe, vs, e1, e2, e3, _⟩ := fly6.first
  have key : ∀ b o, s0.heap.get? b = some o → b ≠ a := by
    intro b o e z
    subst z
    by_cases hbl : b ∈ fl
    · rcases (hf b hbl).2 with y | y
      · obtain ⟨_, o', y1, y2⟩ := I0.stack.mem y
        have : b ∈ (X.env :: X.outer).filterMap (·.frame) := by rw [← hst]; exact y
        obtain ⟨_, o2, z1, z2⟩ := fly6.2.2.1.mem this
        rw [e1] at z1; cases z1
        exact z2 vs e3
      · rw [e] at y; cases y
    · obtain ⟨o', y⟩ := un.there b o e (by simp)
      have := PySem.W.hideAll_get fl y hbl
      rw [fly6.2.1] at this; cases this
  have hna : H' a = none := hok_fly hok (fun b hb => (hf b hb).1) fly6.2.1
  have I7 : Inv X pins σ (upd H' a (exO a (.ref C))) { s1 with heap := h6 } := by
    refine I6.track hna (fun b ob z => ?_) (fun z => ?_) (fun y c z => ?_) (fun p z => ?_) ?_ hex
    · obtain ⟨o', y⟩ := I0.base.there b ob z (by rw [hex]; simp)
      exact key b o' y
    · obtain ⟨m, ⟨o, _, _, ho, _⟩, _⟩ := I0.loc
      exact key _ o ho z
    · obtain ⟨v, o, ho, _⟩ := I0.cell y c z
      exact key c o ho
    · exact key _ _ (I0.pin p z).1
    · exact ⟨⟨oe, e1, e2⟩, ⟨oe, e1⟩, fun h1 h2 ⟨o, y1, y2⟩ k => ⟨o, k o y1, y2⟩⟩
  refine store_ok I7 hN hi (.inl hk) (show RelV (.ref a) (.ref a) from rfl) (fun s7 I8 => ?_) (.inr hk)
  refine wpAny_mono (hs a pins s7 _ _ _ (I8.held a) (q a hna)) (fun f s8 z => ?_) fun _ _ z => False.elim z
  have go : ∀ {σ' H2}, Inv (X.held a) pins σ' H2 s8 → (∀ s9, Inv X pins (σ'.set i none) H2 s9 → SP X pins D f s9) →
      wpAny (model X.prog X.w) X.A (do bindName X.env n .none; unbindBehindTheSuite X.env n hp) (fun _ s₅ => SP X pins D f s₅) X.xe s8 := by
    intro σ' H2 J k
    have J := J.unheld I.ok
    obtain ⟨m, hn, hl⟩ := id J.loc
    exact wpAny_nameGoes_keeps hk hn (by rw [I.ok.kind]; rfl) fun h' v hn' hs' => k _ (J.goes hN hi hk hl hn' hn hs')
  cases f with
  | next => obtain ⟨σ', H2, J, z⟩ := z; exact go J fun s9 J9 => ⟨_, H2, J9, z⟩
  | ret v => obtain ⟨v', σ', H2, J, r, z⟩ := z; exact go J fun s9 J9 => ⟨v', _, H2, J9, r, z⟩
  | brk => obtain ⟨σ', H2, J, z⟩ := z; exact go J fun s9 J9 => ⟨_, H2, J9, z⟩
  | cont => obtain ⟨σ', H2, J, z⟩ := z; exact go J fun s9 J9 => ⟨_, H2, J9, z⟩
end
end L2

set_option Elab.async false
set_option linter.all false
set_option maxRecDepth 100000
namespace L2
open PySem PySem.Spec PyProof.Rows

/-! ### the program's own exceptions, as the written part has them -/
def tailQ (K : PySem.W.Frag) (bmB : List Value) : List Value → Bool
  | [] => bmB == []
  | v :: r => (v :: r) == bmB || match v with
    | .ref A => (match K.lookup A with
      | some ⟨_, _, .cls cd, _⟩ => PySem.W.nsOkIn K cd.ns && quietNames.all (fun n => PySem.W.nsIn K cd.ns n == some none) && tailQ K bmB r
      | _ => false)
    | _ => false
theorem tailQ_of {K : PySem.W.Frag} {h : Heap} {bmB : List Value} (X : K.In h) : ∀ {l : List Value}, tailQ K bmB l = true → OwnTailQ h bmB l
  | [], e => by rw [← beq_iff_eq.mp e]; exact .base
  | v :: r, e => by
    unfold tailQ at e
    rcases Bool.or_eq_true_iff.mp e with q | q
    · rw [beq_iff_eq.mp q]; exact .base
    · split at q
      · split at q
        · rename_i ho
          rw [Bool.and_eq_true, Bool.and_eq_true] at q
          exact .own (X _ _ ho) (.of_isNs (PySem.W.isNs_of_in X q.1.1)) (fun n hn => PySem.W.nsMap_none_of_in X q.1.1 (beq_iff_eq.mp (List.all_eq_true.mp q.1.2 n hn))) (tailQ_of X q.2)
        · cases q
      · cases q
def excQ (K : PySem.W.Frag) (C : Addr) (bmB : List Value) (newId : String) : Bool := match K.lookup C with
  | some ⟨.type "type", _, .cls cd, sl⟩ => (match cd.mro, sl.toList with
    | .ref C' :: bm, [_, _, _, _, some (.builtin n), _] => C' == C && n == newId && !cd.hasDel && tailQ K bmB bm && PySem.W.nsOkIn K cd.ns && quietNames.all fun n => PySem.W.nsIn K cd.ns n == some none
    | _, _ => false)
  | _ => false
theorem ownQ_of {K : PySem.W.Frag} {h : Heap} {mg : Str → Option Value} {x : Str} {C : Addr} {bmB : List Value} {newId : String} (X : K.In h) (m : mg x = some (.ref C)) (q : excQ K C bmB newId = true) : OwnClsQ x C bmB newId mg h := by
  refine ⟨m, ?_⟩
  unfold excQ at q
  split at q
  · rename_i dd cd sl ho
    split at q
    · rename_i C' bm k0 k1 k2 k3 n k5 hm hs
      simp only [Bool.and_eq_true, beq_iff_eq, Bool.not_eq_true'] at q
      obtain ⟨⟨⟨⟨⟨rfl, rfl⟩, hdel⟩, ht⟩, hok⟩, hni⟩ := q
      obtain ⟨nm, bs, mro, ns, qn, hd, sn, sub, ab, col, del⟩ := cd
      dsimp only at hm hdel hok hni
      subst hm hdel
      have hsl : sl = #[k0, k1, k2, k3, some (.builtin n), k5] := by
        obtain ⟨l⟩ := sl
        simp only at hs
        rw [hs]
      subst hsl
      exact ⟨bm, ns, nm, qn, bs, hd, sn, sub, ab, col, dd, k0, k1, k2, k3, k5, _, X _ _ ho, .of_isNs (PySem.W.isNs_of_in X hok), fun n hn => PySem.W.nsMap_none_of_in X hok (beq_iff_eq.mp (List.all_eq_true.mp hni n hn)), tailQ_of X ht⟩
    · cases q
  · cases q

/-! ### its class -/
section
variable {prog : Program} {w : World} {A : Around} {E : Value → Shared → Prop} {h : Heap} {g : Array GenState} {d : Drawn} {t : Nat} {os : OsState} {a : Addr} {o : Obj} {K : PySem.W.Frag}
  {x : Str} {C : Addr} {bmB : List Value} {B newId : String} {mg : Str → Option Value}
theorem class_get_exc {R : Result → Shared → Prop} (X : K.In h) (hx : h.get? a = some o) (hc : o.cls = .ref C) (hm : PySem.W.subIn K (.ref C) (.type "object") = some true) (hq : R (.ok (.ret (.ref C))) ⟨h, g, d, t, os⟩) :
    codeAny (model prog w) A (.call (.builtin "getset_descriptor.__get__") ⟨[.builtin "object.__class__", .ref a, .ref C], []⟩) R ⟨h, g, d, t, os⟩ := by
  have hT5 : (⟨h, g, d, t, os⟩ : Shared).TypeIs (.builtin "object.__class__") "getset_descriptor" := F.typeOf_object_class
  have f8 : PySem.W.Looks (model prog w) h (isSubtype (.ref C) (.type (".".intercalate ("object.__class__".cutAt '.').dropLast))) true := by
    rw [F.owner_object_class]; exact PySem.W.looks_subIn X hm
  refine codeAny_call_builtin F.slot_gs_get.plain F.entry_gs_get (F.slot_gs_get.check _ _ _ _ _ _ _ _ hT5 (F.args_gs_get _ _ _) ?_)
  repeat (any_goals (first | assumption | (with_reducible refine wpAny_loadPart_at hx ?_; rw [hc]) | with_reducible refine PySem.W.Looks.at f8 ?_ | wp_step))
  refine ⟨Code.quiet_builtin _ (by decide +kernel), codeAny_builtin F.entry_object_class ?_⟩
  repeat (any_goals (first | assumption | (with_reducible refine wpAny_loadPart_at hx ?_; rw [hc]) | wp_step))
theorem class_entry_exc {tk : Tok} {Q : Fin → Shared → Prop} (X : K.In h) (hx : h.get? a = some o) (hc : o.cls = .ref C) (hm : PySem.W.subIn K (.ref C) (.type "object") = some true) (hf : PySem.W.findIn K (.ref C) "__class__" = some (some (.builtin "object.__class__")))
    (hq : Q (.done (.ret (.ref C))) ⟨h, g, d, t, os⟩) :
    wpAny (model prog w) A (Builtin.«object.__getattribute__» ⟨[.ref a, .str "__class__" tk], []⟩) Q E ⟨h, g, d, t, os⟩ := by
  have hT5 : (⟨h, g, d, t, os⟩ : Shared).TypeIs (.builtin "object.__class__") "getset_descriptor" := F.typeOf_object_class
  have f4 : PySem.W.Looks (model prog w) h _ _ := PySem.W.looks_findIn X hf
  have f5 := F.typeOf_object_class
  have f6 := F.slot_gs_get.lookup
  have f7 := F.slot_gs_set.lookup
  repeat (any_goals (first | assumption | (with_reducible refine wpAny_loadPart_at hx ?_; rw [hc]) | with_reducible refine PySem.W.Looks.at f4 ?_ | wp_step))
  refine class_get_exc X hx hc hm ?_
  repeat (any_goals (first | assumption | wp_step))

theorem class_call_exc {tk : Tok} {R : Result → Shared → Prop} (X : K.In h) (O : OwnClsQ x C bmB newId mg h) (FB : ExcAttrBase B bmB) (hx : h.get? a = some o) (hc : o.cls = .ref C) (hm : PySem.W.subIn K (.ref C) (.type "object") = some true) (hf : PySem.W.findIn K (.ref C) "__class__" = some (some (.builtin "object.__class__")))
    (hq : R (.ok (.ret (.ref C))) ⟨h, g, d, t, os⟩) : codeAny (model prog w) A (.call (.builtin "BaseException.__getattribute__") ⟨[.ref a, .str "__class__" tk], []⟩) R ⟨h, g, d, t, os⟩ := by
  obtain ⟨bm, N, nm, q, bs, hdct, sn, sub, ab, col, dd, k0, k1, k2, k3, k5, mN, hC, hN, hmN, T⟩ := O.obj
  exact codeAny_call_builtin FB.ga.plain F.entry_bexc_ga (wpAny_check_ga_own FB hC T hx hc (class_entry_exc X hx hc hm hf hq))
theorem class_by_exc {tk : Tok} {fill expr : Bool} {Q : Value → Shared → Prop} (X : K.In h) (O : OwnClsQ x C bmB newId mg h) (FB : ExcAttrBase B bmB) (hx : h.get? a = some o) (hc : o.cls = .ref C) (hm : PySem.W.subIn K (.ref C) (.type "object") = some true) (hf : PySem.W.findIn K (.ref C) "__class__" = some (some (.builtin "object.__class__")))
    (hq : Q (.ref C) ⟨h, g, d, t, os⟩) : wpAny (model prog w) A (getAttrBy (.ref a) (.str "__class__" tk) fill expr) Q E ⟨h, g, d, t, os⟩ := by
  obtain ⟨bm, N, nm, q, bs, hdct, sn, sub, ab, col, dd, k0, k1, k2, k3, k5, mN, hC, hN, hmN, T⟩ := id O.obj
  have f3 := FB.ga.bind (.ref a)
  have hx0 : (expr && onTheHeap (Value.builtin "BaseException.__getattribute__")) = false := by cases expr <;> rfl
  have hx2 : (Value.builtin "BaseException.__getattribute__" == Value.builtin "object.__getattribute__") = false := by decide +kernel
  have hx1 : (onTheHeap (Value.ref C) && Value.builtin "BaseException.__getattribute__" == Value.builtin "object.__getattribute__") = false := by rw [hx2]; rfl
  have hm1 : ("__getattribute__" : Str) ∈ quietNames := .tail _ (.head _)
  have hm2 : ("__getattr__" : Str) ∈ quietNames := .tail _ (.tail _ (.head _))
  repeat (any_goals (first | assumption | (with_reducible refine wpAny_loadPart_at hx ?_; rw [hc]) | with_reducible refine wpAny_typeLookup_tailQ hm1 hC hN hmN T FB.mro FB.ga.lookup ?_ | with_reducible refine wpAny_typeLookup_tailQ hm2 hC hN hmN T FB.mro FB.noGetattr ?_ | wp_step))
  refine class_call_exc X O FB hx hc hm hf ?_
  repeat (any_goals (first | assumption | wp_step))
theorem class_attr_exc {Q : Option Value → Shared → Prop} (X : K.In h) (O : OwnClsQ x C bmB newId mg h) (FB : ExcAttrBase B bmB) (hx : h.get? a = some o) (hc : o.cls = .ref C) (hm : PySem.W.subIn K (.ref C) (.type "object") = some true) (hf : PySem.W.findIn K (.ref C) "__class__" = some (some (.builtin "object.__class__")))
    (hq : Q (some (.ref C)) ⟨h, g, d, t + 1, os⟩) : wpAny (model prog w) A (getAttr? (.ref a) "__class__") Q E ⟨h, g, d, t, os⟩ := by
  unfold getAttr? getAttrBy?
  repeat (any_goals (first | assumption | with_reducible apply class_by_exc X O FB hx hc hm hf | wp_step))
theorem kitx_exc {a : Addr} (FB : ExcAttrBase B bmB) (q : excQ K C bmB newId = true) (hm : PySem.W.subIn K (.ref C) (.type "object") = some true) (hf : PySem.W.findIn K (.ref C) "__class__" = some (some (.builtin "object.__class__"))) :
    PySem.W.KitX K (.ref a) (.ref C) (fun h => ∃ o, h.get? a = some o ∧ o.cls = .ref C) where
  ty := fun _ _ _ ⟨o, h1, h2⟩ => h2 ▸ (PySem.W.Looks.ld h1).andThen .now
  it := fun _ h X _ => by
    obtain ⟨bm, N, nm, q, bs, hdct, sn, sub, ab, col, dd, k0, k1, k2, k3, k5, mN, hC, _⟩ := (ownQ_of (x := "") (mg := fun _ => some (.ref C)) X rfl q).obj
    intro A' Q' E' s' k q
    unfold isType loadHead
    exact wpAny_bind (wpAny_loadPart (k _ _ hC) (wpAny_pure q))
  ne := fun h tp dd its n sl X htp => by
    obtain ⟨bm, N, nm, q, bs, hdct, sn, sub, ab, col, dd, k0, k1, k2, k3, k5, mN, hC, _⟩ := (ownQ_of (x := "") (mg := fun _ => some (.ref C)) X rfl q).obj
    refine Bool.eq_false_iff.mpr fun q => ?_
    have e : C = tp := Value.ref.inj (beq_iff_eq.mp q)
    subst e
    rw [hC] at htp
    have := congrArg Obj.data (Option.some.inj htp)
    cases this
  ca := fun {prog w A E Q s} X ⟨o, h1, h2⟩ k => by
    obtain ⟨h, g, d, t, os⟩ := s
    exact class_attr_exc X (ownQ_of (x := "") (mg := fun _ => some (.ref C)) X rfl q) FB h1 h2 hm hf k
end

/-! ### isinstance(e, C) -/
section
variable {X : Cx}
/-- what of the text an exception's class must have -/
structure ExcC (K : PySem.W.Frag) (C : Addr) : Prop where
  q : excQ K C [.type "ValueError", .type "Exception", .type "BaseException", .type "object"] "ValueError.__new__" = true
  sub : PySem.W.subIn K (.ref C) (.type "object") = some true
  cls : PySem.W.findIn K (.ref C) "__class__" = some (some (.builtin "object.__class__"))
/-- a class as a value -/
def clsU : V → Option Value
  | .ref C => some (.ref C)
  | .ty T => some (.type T)
  | _ => none
def rIsX (K : PySem.W.Frag) : List V → Hp → VK → Prop := fun vs H Q => ∃ a C c u b, vs = [.ref a, c] ∧ H a = some (exO a (.ref C)) ∧ ExcC K C ∧ clsU c = some u ∧ PySem.W.kitOne K (.ref C) u = some b ∧ Q (.bl b) H
theorem call_isX (K : PySem.W.Frag) (hK : X.K = K := by rfl) : CallR X (.builtin "isinstance") (rIsX K) := by
  subst hK
  intro pins s σ H vs us Q I r h
  obtain ⟨a, C, c, u, b, rfl, ha, ec, hc, hk, q⟩ := h
  obtain ⟨u1, u2, rfl, r1, r2⟩ := vals2 r
  cases r1
  have hu : u2 = u := by
    cases c <;> simp only [clsU, Option.some.injEq, reduceCtorEq] at hc
    · subst hc; exact r2
    · subst hc; exact r2
  subst hu
  obtain ⟨p, _, _⟩ := (show ObjOk X.prog X.w H s.heap a (exO a (.ref C)) from I.hok a _ ha)
  exact PySem.W.kia_one (kitx_exc F.attrBase_ValueError ec.q ec.sub ec.cls) I.kIn p hk (fun z => nomatch z) fun tk => ⟨.bl b, H, I.tok tk, rfl, q⟩
/-- an own class by its name -/
theorem pe_gcls {x : Str} {C : Addr} {pos : Pos} (h : X.mg x = some (.ref C)) (hg : Gl X x := by rfl) (hd : (x == ("__debug__" : Str)) = false := by decide) : PE X (.Name x pos) (tC (.ref C)) := pe_glob hg h rfl hd
end
end L2

set_option Elab.async false
set_option linter.all false
set_option maxRecDepth 100000
namespace L2
open PySem PySem.Spec PyProof.Rows

/-! ### defs that are called within an except suite -/
structure RoomH (k : Nat) (A : Around) : Prop where
  dp : A.depth + 3 * k + 5 < recursionLimit
  un : A.units + 16 * k + 200 < cLine
theorem Room.h {k : Nat} {A : Around} (r : Room k A) : RoomH k A := ⟨r.dp, r.un⟩
theorem RoomH.mono {j k : Nat} {A : Around} (r : RoomH k A) (h : j ≤ k) : RoomH j A := ⟨by have := r.dp; omega, by have := r.un; omega⟩
theorem RoomH.deeper {k : Nat} {A : Around} (r : RoomH (k + 1) A) (env : Env) : RoomH k (A.deeper env) :=
  ⟨by have := r.dp; show A.depth + 1 + 3 * k + 5 < _; omega, by have := r.un; show A.units + 3 + 16 * k + 200 < _; omega⟩
theorem RoomH.held {k : Nat} {A : Around} (r : RoomH k A) (v : Option Value) : RoomH k (A.mark v) := ⟨r.dp, r.un⟩
theorem RoomH.depth {k : Nat} {A : Around} (r : RoomH k A) : A.depth < recursionLimit := by have := r.dp; omega
/-- a def's body, whatever is handled -/
abbrev cxH (P : Program) (w : World) (K : PySem.W.Frag) (mg : Str → Option Value) (base : Heap) (N : List Str) (qual : Str) (scope : Scope) (f : Addr) (cd : Value) (A : Around) (outer : List Env) (s : Shared) (H : Hp) : Cx :=
  { cxOf CX0 P w K mg base N qual scope f cd A outer s H E0 with calm := false, xe := fun _ _ => False }
structure FnOkH (P : Program) (w : World) (K : PySem.W.Frag) (mg : Str → Option Value) (base : Heap) (k : Nat) (f : Addr) (fd : FuncData) (ps : List Str) (sp : Sp) : Prop where
  len : ∀ vs H Q E, sp vs H Q E → vs.length = ps.length
  run : ∀ (A : Around) (outer : List Env) (s : Shared) (H : Hp) (args : Args) (us : List Value) (vs : List V) (Q : VK), RoomH k A → Env0 P w K mg base A outer s H → BindsTo s fd args (ps.zip us) → Vals vs us → sp vs H Q E0 →
    codeAny (model P w) A (.call (.ref f) args) (CR CX0 outer P w H s Q E0) s
structure CalH (P : Program) (w : World) (K : PySem.W.Frag) (mg : Str → Option Value) (base : Heap) (k : Nat) (x : Str) (ps : List Str) (sp : Sp) : Prop where
  ex : ∃ f fd, FnOkH P w K mg base k f fd ps sp ∧ Binds K fd ps [] ∧ PySem.W.keepIn K (.ref f) = true ∧ mg x = some (.ref f)
section
variable {P : Program} {w : World} {K : PySem.W.Frag} {mg : Str → Option Value} {base : Heap}
theorem inv_startH {N ps : List Str} {qual : Str} {scope : Scope} {f : Addr} {cd : Value} {A : Around} {outer : List Env} {s s1 : Shared} {H : Hp} {us : List Value} {vs : List V}
    (S : FnScope N ps scope) (e0 : Env0 P w K mg base A outer s H) (hl : vs.length = ps.length) (r : Vals vs us)
    (x : InCallC s s.heap.objs.size (bindL (envOfC qual scope s.heap.objs.size f cd).kindOf (ps.zip us) fun _ => none) (cellsFrom (s.heap.objs.size + 1) scope.names []) (bindC (envOfC qual scope s.heap.objs.size f cd).kindOf (ps.zip us) fun _ => none) s1) :
    Inv (cxH P w K mg base N qual scope f cd A outer s H) [] (start N vs) H s1 := by
  have e1 : Env0 P w K mg base { A with handled := none } outer s H := ⟨e0.frames, e0.mod, e0.bs, e0.bsz, e0.funs, e0.frf, e0.hok, e0.bare⟩
  have I := inv_start (CX := CX0) (E := E0) (A := { A with handled := none }) S rfl e1 hl r x
  exact ⟨⟨I.ok.mod, I.ok.kind, I.ok.glob, I.ok.blt, I.ok.above, I.ok.inj, I.ok.has, I.ok.cab, fun z => Bool.noConfusion (show false = true from z), Around.frames_deeper e0.frames, I.ok.stk, I.ok.exf, I.ok.bs, I.ok.bsz, I.ok.noex, I.ok.exfs, I.ok.funs, I.ok.frf⟩, I.os, I.bare, I.base, I.loc, I.cell, I.free, I.freeC, I.pin, I.hok, I.len⟩
theorem fn_ofH {k : Nat} {f : Addr} {name qual : Str} {params : Arguments} {body : List Stmt} {scope : Scope} {dV kV doc pm cdv ct oc : Value} {an od : Option Addr}
    {osl : Array (Option Value)} {N ps : List Str} {sp : Sp} (lk : K.lookup f = some ⟨oc, od, .func (PySem.W.fnOf name qual params body scope dV kV doc pm an cdv ct), osl⟩) (hcd : PySem.W.codeIn K cdv qual = true) (S : FnScope N ps scope)
    (len : ∀ vs H Q E, sp vs H Q E → vs.length = ps.length)
    (hbody : ∀ (A : Around) (outer : List Env) (s : Shared) (H : Hp) (vs : List V) (Q : VK), RoomH k (A.deeper (envOfC qual scope s.heap.objs.size f cdv)) → sp vs H Q E0 →
      ∃ t, PSs (cxH P w K mg base N qual scope f cdv A outer s H) body t ∧ t { nx := fun _ H' => Q .non H', rt := Q } (start N vs) H) :
    FnOkH P w K mg base (k + 1) f (PySem.W.fnOf name qual params body scope dV kV doc pm an cdv ct) ps sp := by
  refine ⟨len, fun A outer s H args us vs Q hr e0 hb r hsp => ?_⟩
  have hl := len _ _ _ _ hsp
  have KX : K.In s.heap := e0.mod.kin.keeps fun b o e => (e0.bs b o e).1
  have lim : s.heap.NoLimit := e0.mod.nolimit.keeps fun b o e => (e0.bs b o e).1
  have hkind : ∀ y ∈ ps.zip us, scope.names.lookup y.1 = some .local ∨ (scope.names.lookup y.1 = some .cell ∧ ((cellsFrom (s.heap.objs.size + 1) scope.names []).lookup y.1).isSome = true) := fun ⟨n, v⟩ hy => by
    rcases S.par n (List.of_mem_zip hy).1 with q | q
    · exact .inl q
    · exact .inr ⟨q, PySem.W.cellsFrom_some _ _ _ (.inl q)⟩
  refine codeAny_call_function hr.depth (KX _ _ lk) rfl S.co S.gen rfl (PySem.W.codeRec_of KX hcd) (hb _ _ _ _ ?_)
  refine wpAny_newFunctionEnv_cells S.kind hkind fun env he s1 x => ?_
  subst he
  refine ⟨lim.keeps x.toInCall.keep, codeAny_func ?_⟩
  obtain ⟨t, ht, hq⟩ := hbody A outer s H vs Q (hr.deeper _) hsp
  have I : Inv (cxH P w K mg base N qual scope f cdv A outer s H) [] (start N vs) H s1 := inv_startH S e0 hl r x
  refine wpAny_mono (ht [] s1 (start N vs) H _ I hq) (fun fl s' hs => ?_) fun e s' hs => False.elim hs
  have fin : ∀ {σ' : St} {H' : Hp} {v : V} {u : Value}, Inv (cxH P w K mg base N qual scope f cdv A outer s H) [] σ' H' s' → RelV v u → Q v H' → CE outer P w H s Q u s' :=
    fun {σ' H' v u} J rv q => ⟨v, H', J.os, J.bare, J.base, J.hok, rv, q⟩
  cases fl with
  | ret u =>
    obtain ⟨v, σ', H', J, rv, q⟩ := hs
    exact fin J rv q
  | next =>
    obtain ⟨σ', H', J, q⟩ := hs
    exact fin (v := V.non) (u := Value.none) J rfl q
  | brk =>
    obtain ⟨_, _, _, q⟩ := hs
    exact False.elim q
  | cont =>
    obtain ⟨_, _, _, q⟩ := hs
    exact False.elim q
theorem DefAt.calH {x : Str} {st : Stmt} {N ps : List Str} {k : Nat} {sp : Sp} (D : DefAt K mg x st) (S : FnScope N ps (defScope st))
    (hb : ∀ (kV doc pm : Value) (an : Option Addr) (cdv ct : Value) (us : List Value), us.length = ps.length → bindArgs (PySem.W.fnOf x x (defArgs st) (defBody st) (defScope st) .none kV doc pm an cdv ct) ⟨us, []⟩ = pure (ps.zip us))
    (len : ∀ vs H Q E, sp vs H Q E → vs.length = ps.length)
    (hbody : ∀ (f : Addr) (cdv : Value) (A : Around) (outer : List Env) (s : Shared) (H : Hp) (vs : List V) (Q : VK), RoomH k (A.deeper (envOfC x (defScope st) s.heap.objs.size f cdv)) → sp vs H Q E0 →
      ∃ t, PSs (cxH P w K mg base N x (defScope st) f cdv A outer s H) (defBody st) t ∧ t { nx := fun _ H' => Q .non H', rt := Q } (start N vs) H) : CalH P w K mg base (k + 1) x ps sp := by
  obtain ⟨f, fd, F, m⟩ := D.ex
  have fb := F.binds hb
  have kp := F.kp
  obtain ⟨oc, od, kV, doc, pm, an, cdv, ct, osl, rfl, lk, hcd⟩ := F.ex
  exact ⟨f, _, fn_ofH lk hcd S len fun A outer s H vs Q hr hsp => hbody f cdv A outer s H vs Q hr hsp, fb, kp, m⟩
end
section
variable {X : Cx}
theorem pe_calH {j k : Nat} {x : Str} {ps : List Str} {sp : Sp} {p pos : Pos} {e : Expr} {es : List Expr} {t : TA} (c : CalH X.prog X.w X.K X.mg X.base j x ps sp) (hr : RoomH k X.A) (ha : PA X (e :: es) t) (hle : j ≤ k := by decide) (hg : Gl X x := by rfl)
    (hdb : (x == ("__debug__" : Str)) = false := by decide) (he : starEach (e :: es) X.env = (false, eval e X.env) :: starEach es X.env := by rfl) (hpl : (backTo pos (starEach es X.env)).any (·.1) = false := by rfl) :
    PE X (.Call (.Name x p) (e :: es) [] pos) (tCall sp [] E0 t) := by
  obtain ⟨f, fd, F, b, kp, m⟩ := c.ex
  intro pins s σ H Q I h
  refine wpAny_Call_Name_kw (ld_glob I hg m ?_ hdb)
  refine PySem.W.callWith_K (h₀ := X.base) I.ok.mod.kin kp (thn (ha pos pins s σ H _ I h) fun us s1 ⟨vs, H1, I1, r, q⟩ => ⟨I1.kIn, ?_⟩) he hpl
  have q : sp vs H1 Q E0 := by have := q; simp only [List.append_nil] at this; exact this
  have hl : us.length = ps.length := by rw [← r.length]; exact F.len _ _ _ _ q
  have hb := b s1 us I1.kIn (by rw [List.append_nil]; exact hl)
  rw [List.append_nil] at hb
  refine wpAny_call (codeAny_mono (F.run X.A X.stack s1 H1 ⟨us, []⟩ us vs Q (hr.mono hle) I1.env0 hb r q) fun r s' hq => ?_)
  cases r with
  | error e => exact False.elim hq
  | ok fl =>
    cases fl with
    | ret u => exact I1.after hq
    | next => exact False.elim hq
    | brk => exact False.elim hq
    | cont => exact False.elim hq
end
/-! ### the rules as the texts use them -/
structure ExcAt (K : PySem.W.Frag) (mg : Str → Option Value) (x : Str) (C : Addr) : Prop where
  c : ExcC K C
  m : mg x = some (.ref C)
section
variable {X : Cx} {E : XK} {x n : Str} {C : Addr} {np cpos hp pos : Pos} {e : Expr} {es body suite : List Stmt} {b₀ : Stmt} {t : TA} {tb : XK → TS} {th : TS} {rest : List ExceptHandler}
theorem ps_raiseA {e : Expr} {es : List Expr} (L : Lv X E) (o : ExcAt X.K X.mg x C) (ha : PA X (e :: es) t) (hg : Gl X x := by rfl) (hd : (x == ("__debug__" : Str)) = false := by decide)
    (he : starEach (e :: es) X.env = (false, eval e X.env) :: starEach es X.env := by rfl) (hpl : (backTo cpos (starEach es X.env)).any (·.1) = false := by rfl) :
    PS X (.Raise (some (.Call (.Name x np) (e :: es) [] cpos)) none pos) (tRaise C E t) := fun pins s σ H D I h =>
  ps_raise L (ownQ_of I.ok.mod.kin o.m o.c.q).own F.excBase_ValueError ha hg hd he hpl pins s σ H D I h
theorem ps_tryA (i : Nat) (o : ExcAt X.K X.mg x C) (hN : X.N.Nodup) (hb : ∀ Ee, SsAt X Ee body (tb Ee)) (hs : ∀ a, PSs (X.held a) (b₀ :: suite) th) (hk : X.env.kindOf n = some .local) (hst : X.stack = X.env :: X.outer := by rfl) (hfr : X.env.frame = some X.env.locals := by rfl) (hex : X.ex = [] := by rfl)
    (hi : X.N[i]? = some n := by rfl) (hg : Gl X x := by rfl) (hd : (x == ("__debug__" : Str)) = false := by decide) :
    PS X (.Try body (.ExceptHandler (some (.Name x np)) (some n) (b₀ :: suite) hp :: rest) [] [] pos) (tTry C i tb th) := fun pins s σ H D I h =>
  ps_try i hst hfr hex hN (ownQ_of I.ok.mod.kin o.m o.c.q) rfl hb hs hi hk hg hd pins s σ H D I h
end
structure ClsAt (mg : Str → Option Value) (x : Str) (C : Addr) : Prop where
  m : mg x = some (.ref C)
/-- one class asked of an exception: the answer kitOne gives -/
theorem isX_of {K : PySem.W.Frag} {a C : Addr} {c : V} {u : Value} {b : Bool} {H : Hp} {Q : VK} (ha : H a = some (exO a (.ref C))) (ec : ExcC K C) (hk : PySem.W.kitOne K (.ref C) u = some b) (q : Q (.bl b) H) (hc : clsU c = some u := by rfl) : rIsX K [.ref a, c] H Q :=
  ⟨a, C, c, u, b, rfl, ha, ec, hc, hk, q⟩
theorem tTry_at {C : Addr} {i : Nat} {tb : XK → TS} {th : TS} {D : Ends} {σ : St} {H : Hp} : tTry C i tb th D σ H = tb (fun C' _ H' => C' = .ref C ∧ ∀ a, H' a = none → th { nx := fun σ' H2 => D.nx (σ'.set i none) H2, rt := D.rt, bk := fun σ' H2 => D.bk (σ'.set i none) H2, ct := fun σ' H2 => D.ct (σ'.set i none) H2 } (σ.set i (some (.ref a))) (upd H' a (exO a (.ref C)))) D σ H := rfl
theorem tRaise_at {C : Addr} {E : XK} {ta : TA} {D : Ends} {σ : St} {H : Hp} : tRaise C E ta D σ H = ta σ H fun vs H1 => vs.length ≤ sizeLine ∧ E (.ref C) none H1 := rfl
/-! ### try: .. except C: .. (without a name) -/
section
variable {X : Cx} {x : Str} {C : Addr} {np hp pos : Pos} {body suite : List Stmt} {b₀ : Stmt} {tb : XK → TS} {th : TS} {rest : List ExceptHandler}
end
end L2

set_option Elab.async false
set_option linter.all false
set_option maxRecDepth 100000
namespace L2
open PySem PySem.Spec PyProof.Rows PySem.SeqAt PySem.Builtin PySem.Builtin.Str PySem.StrLaws
/-! ### is not True, is not False, of a truth -/
def rNotB : R2 := fun x y H Q => ∃ k b, x = .bl k ∧ y = .bl b ∧ Q (.bl (k != b)) H
theorem op_notB {X : Cx} : OpR X (compareOp .IsNot) rNotB := by
  intro pins s σ H x y v u Q I rx ry h
  obtain ⟨k, b, rfl, rfl, q⟩ := h
  cases ry
  cases rx
  cases k <;> cases b <;> exact wpAny_pure (a := Value.bool _) ⟨.bl _, H, I, rfl, q⟩
theorem rNotB_at {H : Hp} {Q : VK} (k b : Bool) : rNotB (.bl k) (.bl b) H Q = Q (.bl (k != b)) H :=
  propext ⟨fun ⟨_, _, e1, e2, q⟩ => by cases e1; cases e2; exact q, fun q => ⟨k, b, rfl, rfl, q⟩⟩
end L2

set_option Elab.async false
set_option linter.all false
set_option maxRecDepth 100000
set_option maxHeartbeats 4000000
section
open PySem PySem.Spec PyProof.Rows L2
seal L2.PE L2.PT L2.PW L2.PA L2.PS L2.PSs L2.PG L2.PGs L2.PSet L2.PI L2.PIfs L2.OpR L2.UnR L2.CallR L2.IxR L2.MtR L2.SlR L2.PO L2.PPs
local macro_rules | `(tactic| walk_at "rd1") => `(tactic| try simp only [tSeq_at, tPairs_nil, tPairs_cons, tNext_at, tIfS_at, tRet_at, tDrop_at, tAsg_at, gName_at, gSub_at, tVar_at, tC_at, tOp_at, tUn_at, tTest_at, tB_at, tAnd_at, tOr_at, tNot_at, tAndV_at, tOrV_at, tNotV_at, tIfT_at, tCB_at, tCons_at, tNil_at, tTup_at, tLst_at, tCall_at, tBM_at, tChain_at, tSl_at, tPart_at, tNoPart_at, tComp_at, tYes_at, ex_refs2, ex_ref1, compT_at, rSlS_at, iList_at, iStr_at, iRng1_at, iRng2_at, tFor_at, compK_at, rI0_at, rI_at, rAddA_int, rAddA_str, rAddA_ref, rMulB_int, rMulB_str, rIsN_at, rIsB_at, rStrI_at, rInt1_int, rInt1_bl, rListOf_at, rTupOf_at, rMin2_at, rSlL_at, rU_at, rEqD_at, rNeD_at, rSortS_at, rLtA_int, rLtA_str, rInA_str, rInA_ref, rNotInA_str, rNotInA_ref, rLenA_str, rLenA_ref, rIxA_ref, rIxA_str, rSetL_at, rAppend_at, rIsT_at, rAll_at, rEqA_int, rEqA_bl, rEqA_str, rNeA_int, rNeA_str, rNeA_bl, tyV_str, tyV_lst, L2.start, List.map_cons, List.map_nil, List.length_cons, List.length_nil, List.replicate, List.cons_append, List.nil_append, List.append_nil, List.getElem?_cons_zero, List.getElem?_cons_succ, List.set_cons_zero, List.set_cons_succ, Nat.reduceAdd, Nat.reduceSub, Option.some.injEq, exists_eq_left', exists_eq_left, V.int.injEq, V.ref.injEq, V.str.injEq, V.bl.injEq, ex_one, ex_two, ex_cons, ex_nil, and_true, true_and, decide_eq_true_eq, Bool.not_true, Bool.not_false, if_true, Bool.false_eq_true, if_false, ite_true, ite_false])
local macro_rules | `(tactic| walk_at "rd") => `(tactic| try simp only [rest_at, tSeq_at, tPairs_nil, tPairs_cons, tNext_at, tIfS_at, tRet_at, tDrop_at, tAsg_at, gName_at, gSub_at, tVar_at, tC_at, tOp_at, tUn_at, tTest_at, tB_at, tAnd_at, tOr_at, tNot_at, tAndV_at, tOrV_at, tNotV_at, tIfT_at, tCB_at, tCons_at, tNil_at, tTup_at, tLst_at, tCall_at, tBM_at, tChain_at, tSl_at, tPart_at, tNoPart_at, tComp_at, tYes_at, ex_refs2, ex_ref1, compT_at, rSlS_at, iList_at, iStr_at, iRng1_at, iRng2_at, tFor_at, compK_at, rI0_at, rI_at, rAddA_int, rAddA_str, rAddA_ref, rMulB_int, rMulB_str, rIsN_at, rIsB_at, rStrI_at, rInt1_int, rInt1_bl, rListOf_at, rTupOf_at, rMin2_at, rSlL_at, rU_at, rEqD_at, rNeD_at, rSortS_at, rLtA_int, rLtA_str, rInA_str, rInA_ref, rNotInA_str, rNotInA_ref, rLenA_str, rLenA_ref, rIxA_ref, rIxA_str, rSetL_at, rAppend_at, rIsT_at, rAll_at, rEqA_int, rEqA_bl, rEqA_str, rNeA_int, rNeA_str, rNeA_bl, tyV_str, tyV_lst, L2.start, List.map_cons, List.map_nil, List.length_cons, List.length_nil, List.replicate, List.cons_append, List.nil_append, List.append_nil, List.getElem?_cons_zero, List.getElem?_cons_succ, List.set_cons_zero, List.set_cons_succ, Nat.reduceAdd, Nat.reduceSub, Option.some.injEq, exists_eq_left', exists_eq_left, V.int.injEq, V.ref.injEq, V.str.injEq, V.bl.injEq, ex_one, ex_two, ex_cons, ex_nil, and_true, true_and, decide_eq_true_eq, Bool.not_true, Bool.not_false, if_true, Bool.false_eq_true, if_false, ite_true, ite_false])
local macro_rules | `(tactic| walk_at "nx") => `(tactic| ((first | rw [rest_at] | (dsimp only; rw [rest_at])); walk_at "rd1"))
local macro_rules | `(tactic| walk_at "lk") => `(tactic| repeat (first | exact lk_hit | exact lk_nil | rw [lk_miss (by decide +kernel)]))
local macro_rules | `(tactic| walk_at "pf") => `(tactic| repeat (first | rw [putF_hit] | rw [putF_nil] | rw [putF_miss (by decide +kernel)]))
namespace K02
open PySem L2
def top (i : Nat) : Stmt := PySem.Challenge.pw_usewarden_k02_what_is_a_rule.main.body.getD i (.Pass ⟨0, 0, 0, 0⟩)
theorem bt_ValueError : bootBuiltins "ValueError" = some (.type "ValueError") := PyProof.Rows.Boot.«ValueError»
abbrev s_is_whole : Stmt := top 12
theorem sc_is_whole : FnScope ["thing"] ["thing"] (defScope s_is_whole) := ⟨rfl, rfl, rfl, by decide +kernel, rfl, by decide +kernel, by decide +kernel⟩
theorem v_is_whole_thing : Vis (defScope s_is_whole) "thing" := Or.inl (by decide +kernel)
theorem gl_is_whole_bool : (defScope s_is_whole).names.lookup ("bool" : Str) = some .globalImplicit := by decide +kernel
theorem gl_is_whole_int : (defScope s_is_whole).names.lookup ("int" : Str) = some .globalImplicit := by decide +kernel
theorem gl_is_whole_isinstance : (defScope s_is_whole).names.lookup ("isinstance" : Str) = some .globalImplicit := by decide +kernel

abbrev s_is_word : Stmt := top 13
theorem sc_is_word : FnScope ["thing"] ["thing"] (defScope s_is_word) := ⟨rfl, rfl, rfl, by decide +kernel, rfl, by decide +kernel, by decide +kernel⟩
theorem v_is_word_thing : Vis (defScope s_is_word) "thing" := Or.inl (by decide +kernel)
theorem gl_is_word_MOST_LETTERS : (defScope s_is_word).names.lookup ("MOST_LETTERS" : Str) = some .globalImplicit := by decide +kernel
theorem gl_is_word_all : (defScope s_is_word).names.lookup ("all" : Str) = some .globalImplicit := by decide +kernel
theorem gl_is_word_isinstance : (defScope s_is_word).names.lookup ("isinstance" : Str) = some .globalImplicit := by decide +kernel
theorem gl_is_word_len : (defScope s_is_word).names.lookup ("len" : Str) = some .globalImplicit := by decide +kernel
theorem gl_is_word_str : (defScope s_is_word).names.lookup ("str" : Str) = some .globalImplicit := by decide +kernel

abbrev s_is_sided_word : Stmt := top 14
theorem sc_is_sided_word : FnScope ["thing"] ["thing"] (defScope s_is_sided_word) := ⟨rfl, rfl, rfl, by decide +kernel, rfl, by decide +kernel, by decide +kernel⟩
theorem v_is_sided_word_thing : Vis (defScope s_is_sided_word) "thing" := Or.inl (by decide +kernel)
theorem gl_is_sided_word_is_word : (defScope s_is_sided_word).names.lookup ("is_word" : Str) = some .globalImplicit := by decide +kernel
theorem gl_is_sided_word_isinstance : (defScope s_is_sided_word).names.lookup ("isinstance" : Str) = some .globalImplicit := by decide +kernel
theorem gl_is_sided_word_str : (defScope s_is_sided_word).names.lookup ("str" : Str) = some .globalImplicit := by decide +kernel

abbrev s_is_rising : Stmt := top 15
theorem sc_is_rising : FnScope ["texts"] ["texts"] (defScope s_is_rising) := ⟨rfl, rfl, rfl, by decide +kernel, rfl, by decide +kernel, by decide +kernel⟩
theorem v_is_rising_texts : Vis (defScope s_is_rising) "texts" := Or.inr (Or.inl (by decide +kernel))
theorem gl_is_rising_all : (defScope s_is_rising).names.lookup ("all" : Str) = some .globalImplicit := by decide +kernel
theorem gl_is_rising_len : (defScope s_is_rising).names.lookup ("len" : Str) = some .globalImplicit := by decide +kernel
theorem gl_is_rising_range : (defScope s_is_rising).names.lookup ("range" : Str) = some .globalImplicit := by decide +kernel

abbrev s_are_words : Stmt := top 16
theorem sc_are_words : FnScope ["thing", "sides", "word"] ["thing", "sides"] (defScope s_are_words) := ⟨rfl, rfl, rfl, by decide +kernel, rfl, by decide +kernel, by decide +kernel⟩
theorem v_are_words_thing : Vis (defScope s_are_words) "thing" := Or.inl (by decide +kernel)
theorem v_are_words_sides : Vis (defScope s_are_words) "sides" := Or.inl (by decide +kernel)
theorem v_are_words_word : Vis (defScope s_are_words) "word" := Or.inl (by decide +kernel)
theorem l_are_words_word : Loc (defScope s_are_words) "word" := Or.inl (by decide +kernel)
theorem gl_are_words_MOST_WORDS : (defScope s_are_words).names.lookup ("MOST_WORDS" : Str) = some .globalImplicit := by decide +kernel
theorem gl_are_words_is_rising : (defScope s_are_words).names.lookup ("is_rising" : Str) = some .globalImplicit := by decide +kernel
theorem gl_are_words_is_sided_word : (defScope s_are_words).names.lookup ("is_sided_word" : Str) = some .globalImplicit := by decide +kernel
theorem gl_are_words_is_word : (defScope s_are_words).names.lookup ("is_word" : Str) = some .globalImplicit := by decide +kernel
theorem gl_are_words_isinstance : (defScope s_are_words).names.lookup ("isinstance" : Str) = some .globalImplicit := by decide +kernel
theorem gl_are_words_len : (defScope s_are_words).names.lookup ("len" : Str) = some .globalImplicit := by decide +kernel
theorem gl_are_words_list : (defScope s_are_words).names.lookup ("list" : Str) = some .globalImplicit := by decide +kernel

abbrev s_is_way : Stmt := top 17
theorem sc_is_way : FnScope ["thing", "count"] ["thing", "count"] (defScope s_is_way) := ⟨rfl, rfl, rfl, by decide +kernel, rfl, by decide +kernel, by decide +kernel⟩
theorem v_is_way_thing : Vis (defScope s_is_way) "thing" := Or.inl (by decide +kernel)
theorem v_is_way_count : Vis (defScope s_is_way) "count" := Or.inl (by decide +kernel)
theorem gl_is_way_is_whole : (defScope s_is_way).names.lookup ("is_whole" : Str) = some .globalImplicit := by decide +kernel

abbrev s_is_room : Stmt := top 18
theorem sc_is_room : FnScope ["thing", "width", "count"] ["thing", "width", "count"] (defScope s_is_room) := ⟨rfl, rfl, rfl, by decide +kernel, rfl, by decide +kernel, by decide +kernel⟩
theorem v_is_room_thing : Vis (defScope s_is_room) "thing" := Or.inl (by decide +kernel)
theorem v_is_room_width : Vis (defScope s_is_room) "width" := Or.inl (by decide +kernel)
theorem gl_is_room_all : (defScope s_is_room).names.lookup ("all" : Str) = some .globalImplicit := by decide +kernel
theorem gl_is_room_isinstance : (defScope s_is_room).names.lookup ("isinstance" : Str) = some .globalImplicit := by decide +kernel
theorem gl_is_room_len : (defScope s_is_room).names.lookup ("len" : Str) = some .globalImplicit := by decide +kernel
theorem gl_is_room_list : (defScope s_is_room).names.lookup ("list" : Str) = some .globalImplicit := by decide +kernel

abbrev s_are_rooms : Stmt := top 19
theorem sc_are_rooms : FnScope ["thing", "width"] ["thing", "width"] (defScope s_are_rooms) := ⟨rfl, rfl, rfl, by decide +kernel, rfl, by decide +kernel, by decide +kernel⟩
theorem v_are_rooms_thing : Vis (defScope s_are_rooms) "thing" := Or.inr (Or.inl (by decide +kernel))
theorem gl_are_rooms_MOST_ROOMS : (defScope s_are_rooms).names.lookup ("MOST_ROOMS" : Str) = some .globalImplicit := by decide +kernel
theorem gl_are_rooms_all : (defScope s_are_rooms).names.lookup ("all" : Str) = some .globalImplicit := by decide +kernel
theorem gl_are_rooms_isinstance : (defScope s_are_rooms).names.lookup ("isinstance" : Str) = some .globalImplicit := by decide +kernel
theorem gl_are_rooms_len : (defScope s_are_rooms).names.lookup ("len" : Str) = some .globalImplicit := by decide +kernel
theorem gl_are_rooms_list : (defScope s_are_rooms).names.lookup ("list" : Str) = some .globalImplicit := by decide +kernel

abbrev s_is_rule : Stmt := top 20
theorem sc_is_rule : FnScope ["thing", "sides"] ["thing"] (defScope s_is_rule) := ⟨rfl, rfl, rfl, by decide +kernel, rfl, by decide +kernel, by decide +kernel⟩
theorem v_is_rule_thing : Vis (defScope s_is_rule) "thing" := Or.inl (by decide +kernel)
theorem v_is_rule_sides : Vis (defScope s_is_rule) "sides" := Or.inl (by decide +kernel)
theorem l_is_rule_sides : Loc (defScope s_is_rule) "sides" := Or.inl (by decide +kernel)
theorem gl_is_rule_are_rooms : (defScope s_is_rule).names.lookup ("are_rooms" : Str) = some .globalImplicit := by decide +kernel
theorem gl_is_rule_are_words : (defScope s_is_rule).names.lookup ("are_words" : Str) = some .globalImplicit := by decide +kernel
theorem gl_is_rule_is_whole : (defScope s_is_rule).names.lookup ("is_whole" : Str) = some .globalImplicit := by decide +kernel
theorem gl_is_rule_isinstance : (defScope s_is_rule).names.lookup ("isinstance" : Str) = some .globalImplicit := by decide +kernel
theorem gl_is_rule_len : (defScope s_is_rule).names.lookup ("len" : Str) = some .globalImplicit := by decide +kernel
theorem gl_is_rule_tuple : (defScope s_is_rule).names.lookup ("tuple" : Str) = some .globalImplicit := by decide +kernel

abbrev s_copy_of : Stmt := top 21
theorem sc_copy_of : FnScope ["rule"] ["rule"] (defScope s_copy_of) := ⟨rfl, rfl, rfl, by decide +kernel, rfl, by decide +kernel, by decide +kernel⟩
theorem v_copy_of_rule : Vis (defScope s_copy_of) "rule" := Or.inl (by decide +kernel)
theorem gl_copy_of_list : (defScope s_copy_of).names.lookup ("list" : Str) = some .globalImplicit := by decide +kernel

abbrev s_copied_rule : Stmt := top 22
theorem sc_copied_rule : FnScope ["thing"] ["thing"] (defScope s_copied_rule) := ⟨rfl, rfl, rfl, by decide +kernel, rfl, by decide +kernel, by decide +kernel⟩
theorem v_copied_rule_thing : Vis (defScope s_copied_rule) "thing" := Or.inl (by decide +kernel)
theorem gl_copied_rule_NoRule : (defScope s_copied_rule).names.lookup ("NoRule" : Str) = some .globalImplicit := by decide +kernel
theorem gl_copied_rule_copy_of : (defScope s_copied_rule).names.lookup ("copy_of" : Str) = some .globalImplicit := by decide +kernel
theorem gl_copied_rule_is_rule : (defScope s_copied_rule).names.lookup ("is_rule" : Str) = some .globalImplicit := by decide +kernel

abbrev s_law_cell_at : Stmt := top 24
theorem sc_law_cell_at : FnScope ["_law_script", "_law_k"] ["_law_script", "_law_k"] (defScope s_law_cell_at) := ⟨rfl, rfl, rfl, by decide +kernel, rfl, by decide +kernel, by decide +kernel⟩
theorem v_law_cell_at__law_script : Vis (defScope s_law_cell_at) "_law_script" := Or.inl (by decide +kernel)
theorem v_law_cell_at__law_k : Vis (defScope s_law_cell_at) "_law_k" := Or.inl (by decide +kernel)
theorem gl_law_cell_at_len : (defScope s_law_cell_at).names.lookup ("len" : Str) = some .globalImplicit := by decide +kernel

abbrev s_law_mixed : Stmt := top 25
theorem sc_law_mixed : FnScope ["_law_cell", "_law_many", "_law_number", "_law_found", "_law_k"] ["_law_cell", "_law_many"] (defScope s_law_mixed) := ⟨rfl, rfl, rfl, by decide +kernel, rfl, by decide +kernel, by decide +kernel⟩
theorem v_law_mixed__law_cell : Vis (defScope s_law_mixed) "_law_cell" := Or.inl (by decide +kernel)
theorem v_law_mixed__law_many : Vis (defScope s_law_mixed) "_law_many" := Or.inl (by decide +kernel)
theorem v_law_mixed__law_number : Vis (defScope s_law_mixed) "_law_number" := Or.inl (by decide +kernel)
theorem l_law_mixed__law_number : Loc (defScope s_law_mixed) "_law_number" := Or.inl (by decide +kernel)
theorem v_law_mixed__law_found : Vis (defScope s_law_mixed) "_law_found" := Or.inl (by decide +kernel)
theorem l_law_mixed__law_found : Loc (defScope s_law_mixed) "_law_found" := Or.inl (by decide +kernel)
theorem l_law_mixed__law_k : Loc (defScope s_law_mixed) "_law_k" := Or.inl (by decide +kernel)
theorem gl_law_mixed_range : (defScope s_law_mixed).names.lookup ("range" : Str) = some .globalImplicit := by decide +kernel

abbrev s_law_plain_words : Stmt := top 26
theorem sc_law_plain_words : FnScope ["_law_cell", "_law_many", "_law_xs", "_law_menu", "_law_letters", "_law_size", "_law_at", "_law_words_here", "_law_k", "_law_word", "_law_j"] ["_law_cell", "_law_many"] (defScope s_law_plain_words) := ⟨rfl, rfl, rfl, by decide +kernel, rfl, by decide +kernel, by decide +kernel⟩
theorem v_law_plain_words__law_cell : Vis (defScope s_law_plain_words) "_law_cell" := Or.inl (by decide +kernel)
theorem v_law_plain_words__law_many : Vis (defScope s_law_plain_words) "_law_many" := Or.inl (by decide +kernel)
theorem v_law_plain_words__law_xs : Vis (defScope s_law_plain_words) "_law_xs" := Or.inr (Or.inl (by decide +kernel))
theorem l_law_plain_words__law_xs : Loc (defScope s_law_plain_words) "_law_xs" := Or.inr (by decide +kernel)
theorem v_law_plain_words__law_menu : Vis (defScope s_law_plain_words) "_law_menu" := Or.inr (Or.inl (by decide +kernel))
theorem l_law_plain_words__law_menu : Loc (defScope s_law_plain_words) "_law_menu" := Or.inr (by decide +kernel)
theorem v_law_plain_words__law_letters : Vis (defScope s_law_plain_words) "_law_letters" := Or.inl (by decide +kernel)
theorem l_law_plain_words__law_letters : Loc (defScope s_law_plain_words) "_law_letters" := Or.inl (by decide +kernel)
theorem v_law_plain_words__law_size : Vis (defScope s_law_plain_words) "_law_size" := Or.inl (by decide +kernel)
theorem l_law_plain_words__law_size : Loc (defScope s_law_plain_words) "_law_size" := Or.inl (by decide +kernel)
theorem v_law_plain_words__law_at : Vis (defScope s_law_plain_words) "_law_at" := Or.inl (by decide +kernel)
theorem l_law_plain_words__law_at : Loc (defScope s_law_plain_words) "_law_at" := Or.inl (by decide +kernel)
theorem v_law_plain_words__law_words_here : Vis (defScope s_law_plain_words) "_law_words_here" := Or.inl (by decide +kernel)
theorem l_law_plain_words__law_words_here : Loc (defScope s_law_plain_words) "_law_words_here" := Or.inl (by decide +kernel)
theorem v_law_plain_words__law_k : Vis (defScope s_law_plain_words) "_law_k" := Or.inl (by decide +kernel)
theorem l_law_plain_words__law_k : Loc (defScope s_law_plain_words) "_law_k" := Or.inl (by decide +kernel)
theorem v_law_plain_words__law_word : Vis (defScope s_law_plain_words) "_law_word" := Or.inl (by decide +kernel)
theorem l_law_plain_words__law_word : Loc (defScope s_law_plain_words) "_law_word" := Or.inl (by decide +kernel)
theorem v_law_plain_words__law_j : Vis (defScope s_law_plain_words) "_law_j" := Or.inl (by decide +kernel)
theorem l_law_plain_words__law_j : Loc (defScope s_law_plain_words) "_law_j" := Or.inl (by decide +kernel)
theorem gl_law_plain_words__law_mixed : (defScope s_law_plain_words).names.lookup ("_law_mixed" : Str) = some .globalImplicit := by decide +kernel
theorem gl_law_plain_words_int : (defScope s_law_plain_words).names.lookup ("int" : Str) = some .globalImplicit := by decide +kernel
theorem gl_law_plain_words_range : (defScope s_law_plain_words).names.lookup ("range" : Str) = some .globalImplicit := by decide +kernel

abbrev s_law_words : Stmt := top 27
theorem sc_law_words : FnScope ["_law_cell", "_law_many", "_law_sides", "_law_words_here", "_law_xs"] ["_law_cell", "_law_many", "_law_sides"] (defScope s_law_words) := ⟨rfl, rfl, rfl, by decide +kernel, rfl, by decide +kernel, by decide +kernel⟩
theorem v_law_words__law_cell : Vis (defScope s_law_words) "_law_cell" := Or.inl (by decide +kernel)
theorem v_law_words__law_many : Vis (defScope s_law_words) "_law_many" := Or.inl (by decide +kernel)
theorem v_law_words__law_sides : Vis (defScope s_law_words) "_law_sides" := Or.inl (by decide +kernel)
theorem v_law_words__law_words_here : Vis (defScope s_law_words) "_law_words_here" := Or.inr (Or.inl (by decide +kernel))
theorem l_law_words__law_words_here : Loc (defScope s_law_words) "_law_words_here" := Or.inr (by decide +kernel)
theorem l_law_words__law_xs : Loc (defScope s_law_words) "_law_xs" := Or.inr (by decide +kernel)
theorem gl_law_words__law_mixed : (defScope s_law_words).names.lookup ("_law_mixed" : Str) = some .globalImplicit := by decide +kernel
theorem gl_law_words__law_plain_words : (defScope s_law_words).names.lookup ("_law_plain_words" : Str) = some .globalImplicit := by decide +kernel
theorem gl_law_words_range : (defScope s_law_words).names.lookup ("range" : Str) = some .globalImplicit := by decide +kernel
theorem gl_law_words_sorted : (defScope s_law_words).names.lookup ("sorted" : Str) = some .globalImplicit := by decide +kernel

abbrev s_law_way : Stmt := top 28
theorem sc_law_way : FnScope ["_law_number", "_law_share", "_law_many"] ["_law_number", "_law_share", "_law_many"] (defScope s_law_way) := ⟨rfl, rfl, rfl, by decide +kernel, rfl, by decide +kernel, by decide +kernel⟩
theorem v_law_way__law_number : Vis (defScope s_law_way) "_law_number" := Or.inl (by decide +kernel)
theorem v_law_way__law_share : Vis (defScope s_law_way) "_law_share" := Or.inl (by decide +kernel)
theorem v_law_way__law_many : Vis (defScope s_law_way) "_law_many" := Or.inl (by decide +kernel)
abbrev s_law_rule : Stmt := top 29
theorem sc_law_rule : FnScope ["_law_script", "_law_first", "_law_sides", "_law_many", "_law_size", "_law_words_here", "_law_share", "_law_xs", "_law_k", "_law_rooms", "_law_r"] ["_law_script"] (defScope s_law_rule) := ⟨rfl, rfl, rfl, by decide +kernel, rfl, by decide +kernel, by decide +kernel⟩
theorem v_law_rule__law_script : Vis (defScope s_law_rule) "_law_script" := Or.inl (by decide +kernel)
theorem v_law_rule__law_first : Vis (defScope s_law_rule) "_law_first" := Or.inl (by decide +kernel)
theorem l_law_rule__law_first : Loc (defScope s_law_rule) "_law_first" := Or.inl (by decide +kernel)
theorem v_law_rule__law_sides : Vis (defScope s_law_rule) "_law_sides" := Or.inl (by decide +kernel)
theorem l_law_rule__law_sides : Loc (defScope s_law_rule) "_law_sides" := Or.inl (by decide +kernel)
theorem v_law_rule__law_many : Vis (defScope s_law_rule) "_law_many" := Or.inr (Or.inl (by decide +kernel))
theorem l_law_rule__law_many : Loc (defScope s_law_rule) "_law_many" := Or.inr (by decide +kernel)
theorem v_law_rule__law_size : Vis (defScope s_law_rule) "_law_size" := Or.inr (Or.inl (by decide +kernel))
theorem l_law_rule__law_size : Loc (defScope s_law_rule) "_law_size" := Or.inr (by decide +kernel)
theorem v_law_rule__law_words_here : Vis (defScope s_law_rule) "_law_words_here" := Or.inl (by decide +kernel)
theorem l_law_rule__law_words_here : Loc (defScope s_law_rule) "_law_words_here" := Or.inl (by decide +kernel)
theorem l_law_rule__law_share : Loc (defScope s_law_rule) "_law_share" := Or.inr (by decide +kernel)
theorem v_law_rule__law_xs : Vis (defScope s_law_rule) "_law_xs" := Or.inr (Or.inl (by decide +kernel))
theorem l_law_rule__law_xs : Loc (defScope s_law_rule) "_law_xs" := Or.inr (by decide +kernel)
theorem v_law_rule__law_k : Vis (defScope s_law_rule) "_law_k" := Or.inl (by decide +kernel)
theorem l_law_rule__law_k : Loc (defScope s_law_rule) "_law_k" := Or.inl (by decide +kernel)
theorem v_law_rule__law_rooms : Vis (defScope s_law_rule) "_law_rooms" := Or.inl (by decide +kernel)
theorem l_law_rule__law_rooms : Loc (defScope s_law_rule) "_law_rooms" := Or.inl (by decide +kernel)
theorem l_law_rule__law_r : Loc (defScope s_law_rule) "_law_r" := Or.inr (by decide +kernel)
theorem gl_law_rule__law_cell_at : (defScope s_law_rule).names.lookup ("_law_cell_at" : Str) = some .globalImplicit := by decide +kernel
theorem gl_law_rule__law_mixed : (defScope s_law_rule).names.lookup ("_law_mixed" : Str) = some .globalImplicit := by decide +kernel
theorem gl_law_rule__law_words : (defScope s_law_rule).names.lookup ("_law_words" : Str) = some .globalImplicit := by decide +kernel
theorem gl_law_rule_len : (defScope s_law_rule).names.lookup ("len" : Str) = some .globalImplicit := by decide +kernel
theorem gl_law_rule_min : (defScope s_law_rule).names.lookup ("min" : Str) = some .globalImplicit := by decide +kernel
theorem gl_law_rule_range : (defScope s_law_rule).names.lookup ("range" : Str) = some .globalImplicit := by decide +kernel

abbrev s_law_spoiled_head : Stmt := top 30
theorem sc_law_spoiled_head : FnScope ["_law_sides", "_law_words_here", "_law_rooms", "_law_way_here"] ["_law_sides", "_law_words_here", "_law_rooms", "_law_way_here"] (defScope s_law_spoiled_head) := ⟨rfl, rfl, rfl, by decide +kernel, rfl, by decide +kernel, by decide +kernel⟩
theorem v_law_spoiled_head__law_sides : Vis (defScope s_law_spoiled_head) "_law_sides" := Or.inl (by decide +kernel)
theorem v_law_spoiled_head__law_words_here : Vis (defScope s_law_spoiled_head) "_law_words_here" := Or.inl (by decide +kernel)
theorem v_law_spoiled_head__law_rooms : Vis (defScope s_law_spoiled_head) "_law_rooms" := Or.inl (by decide +kernel)
theorem v_law_spoiled_head__law_way_here : Vis (defScope s_law_spoiled_head) "_law_way_here" := Or.inl (by decide +kernel)
theorem gl_law_spoiled_head_len : (defScope s_law_spoiled_head).names.lookup ("len" : Str) = some .globalImplicit := by decide +kernel

abbrev s_law_spoiled_words : Stmt := top 31
theorem sc_law_spoiled_words : FnScope ["_law_sides", "_law_words_here", "_law_rooms", "_law_way_here", "_law_cell", "_law_head", "_law_odd", "_law_letters"] ["_law_sides", "_law_words_here", "_law_rooms", "_law_way_here", "_law_cell"] (defScope s_law_spoiled_words) := ⟨rfl, rfl, rfl, by decide +kernel, rfl, by decide +kernel, by decide +kernel⟩
theorem v_law_spoiled_words__law_sides : Vis (defScope s_law_spoiled_words) "_law_sides" := Or.inl (by decide +kernel)
theorem v_law_spoiled_words__law_words_here : Vis (defScope s_law_spoiled_words) "_law_words_here" := Or.inl (by decide +kernel)
theorem v_law_spoiled_words__law_rooms : Vis (defScope s_law_spoiled_words) "_law_rooms" := Or.inl (by decide +kernel)
theorem v_law_spoiled_words__law_way_here : Vis (defScope s_law_spoiled_words) "_law_way_here" := Or.inl (by decide +kernel)
theorem v_law_spoiled_words__law_cell : Vis (defScope s_law_spoiled_words) "_law_cell" := Or.inl (by decide +kernel)
theorem v_law_spoiled_words__law_head : Vis (defScope s_law_spoiled_words) "_law_head" := Or.inr (Or.inl (by decide +kernel))
theorem l_law_spoiled_words__law_head : Loc (defScope s_law_spoiled_words) "_law_head" := Or.inr (by decide +kernel)
theorem v_law_spoiled_words__law_odd : Vis (defScope s_law_spoiled_words) "_law_odd" := Or.inl (by decide +kernel)
theorem l_law_spoiled_words__law_odd : Loc (defScope s_law_spoiled_words) "_law_odd" := Or.inl (by decide +kernel)
theorem v_law_spoiled_words__law_letters : Vis (defScope s_law_spoiled_words) "_law_letters" := Or.inl (by decide +kernel)
theorem l_law_spoiled_words__law_letters : Loc (defScope s_law_spoiled_words) "_law_letters" := Or.inl (by decide +kernel)
theorem gl_law_spoiled_words_tuple : (defScope s_law_spoiled_words).names.lookup ("tuple" : Str) = some .globalImplicit := by decide +kernel

abbrev s_law_spoiled_room : Stmt := top 32
theorem sc_law_spoiled_room : FnScope ["_law_rooms", "_law_way_here", "_law_cell", "_law_at", "_law_room", "_law_odd"] ["_law_rooms", "_law_way_here", "_law_cell"] (defScope s_law_spoiled_room) := ⟨rfl, rfl, rfl, by decide +kernel, rfl, by decide +kernel, by decide +kernel⟩
theorem v_law_spoiled_room__law_rooms : Vis (defScope s_law_spoiled_room) "_law_rooms" := Or.inl (by decide +kernel)
theorem v_law_spoiled_room__law_way_here : Vis (defScope s_law_spoiled_room) "_law_way_here" := Or.inl (by decide +kernel)
theorem v_law_spoiled_room__law_cell : Vis (defScope s_law_spoiled_room) "_law_cell" := Or.inl (by decide +kernel)
theorem v_law_spoiled_room__law_at : Vis (defScope s_law_spoiled_room) "_law_at" := Or.inl (by decide +kernel)
theorem l_law_spoiled_room__law_at : Loc (defScope s_law_spoiled_room) "_law_at" := Or.inl (by decide +kernel)
theorem v_law_spoiled_room__law_room : Vis (defScope s_law_spoiled_room) "_law_room" := Or.inl (by decide +kernel)
theorem l_law_spoiled_room__law_room : Loc (defScope s_law_spoiled_room) "_law_room" := Or.inl (by decide +kernel)
theorem v_law_spoiled_room__law_odd : Vis (defScope s_law_spoiled_room) "_law_odd" := Or.inl (by decide +kernel)
theorem l_law_spoiled_room__law_odd : Loc (defScope s_law_spoiled_room) "_law_odd" := Or.inl (by decide +kernel)
theorem gl_law_spoiled_room_len : (defScope s_law_spoiled_room).names.lookup ("len" : Str) = some .globalImplicit := by decide +kernel
theorem gl_law_spoiled_room_list : (defScope s_law_spoiled_room).names.lookup ("list" : Str) = some .globalImplicit := by decide +kernel
theorem gl_law_spoiled_room_tuple : (defScope s_law_spoiled_room).names.lookup ("tuple" : Str) = some .globalImplicit := by decide +kernel

abbrev s_law_spoiled : Stmt := top 33
theorem sc_law_spoiled : FnScope ["_law_rule_here", "_law_cell", "_law_way_here"] ["_law_rule_here", "_law_cell"] (defScope s_law_spoiled) := ⟨rfl, rfl, rfl, by decide +kernel, rfl, by decide +kernel, by decide +kernel⟩
theorem v_law_spoiled__law_rule_here : Vis (defScope s_law_spoiled) "_law_rule_here" := Or.inl (by decide +kernel)
theorem v_law_spoiled__law_cell : Vis (defScope s_law_spoiled) "_law_cell" := Or.inl (by decide +kernel)
theorem v_law_spoiled__law_way_here : Vis (defScope s_law_spoiled) "_law_way_here" := Or.inl (by decide +kernel)
theorem l_law_spoiled__law_way_here : Loc (defScope s_law_spoiled) "_law_way_here" := Or.inl (by decide +kernel)
theorem gl_law_spoiled__law_spoiled_head : (defScope s_law_spoiled).names.lookup ("_law_spoiled_head" : Str) = some .globalImplicit := by decide +kernel
theorem gl_law_spoiled__law_spoiled_room : (defScope s_law_spoiled).names.lookup ("_law_spoiled_room" : Str) = some .globalImplicit := by decide +kernel
theorem gl_law_spoiled__law_spoiled_words : (defScope s_law_spoiled).names.lookup ("_law_spoiled_words" : Str) = some .globalImplicit := by decide +kernel
theorem gl_law_spoiled_list : (defScope s_law_spoiled).names.lookup ("list" : Str) = some .globalImplicit := by decide +kernel

abbrev s_law_other : Stmt := top 34
theorem sc_law_other : FnScope ["_law_e"] ["_law_e"] (defScope s_law_other) := ⟨rfl, rfl, rfl, by decide +kernel, rfl, by decide +kernel, by decide +kernel⟩
theorem v_law_other__law_e : Vis (defScope s_law_other) "_law_e" := Or.inl (by decide +kernel)
theorem gl_law_other_Breach : (defScope s_law_other).names.lookup ("Breach" : Str) = some .globalImplicit := by decide +kernel
theorem gl_law_other_NoFit : (defScope s_law_other).names.lookup ("NoFit" : Str) = some .globalImplicit := by decide +kernel
theorem gl_law_other_NoText : (defScope s_law_other).names.lookup ("NoText" : Str) = some .globalImplicit := by decide +kernel
theorem gl_law_other_TooGreat : (defScope s_law_other).names.lookup ("TooGreat" : Str) = some .globalImplicit := by decide +kernel
theorem gl_law_other_UseError : (defScope s_law_other).names.lookup ("UseError" : Str) = some .globalImplicit := by decide +kernel
theorem gl_law_other_ValueError : (defScope s_law_other).names.lookup ("ValueError" : Str) = some .globalImplicit := by decide +kernel
theorem gl_law_other_isinstance : (defScope s_law_other).names.lookup ("isinstance" : Str) = some .globalImplicit := by decide +kernel

abbrev s_law_refused : Stmt := top 35
theorem sc_law_refused : FnScope ["_law_thing", "_law_e"] ["_law_thing"] (defScope s_law_refused) := ⟨rfl, rfl, rfl, by decide +kernel, rfl, by decide +kernel, by decide +kernel⟩
theorem v_law_refused__law_thing : Vis (defScope s_law_refused) "_law_thing" := Or.inl (by decide +kernel)
theorem v_law_refused__law_e : Vis (defScope s_law_refused) "_law_e" := Or.inl (by decide +kernel)
theorem k_law_refused__law_e : (defScope s_law_refused).names.lookup ("_law_e" : Str) = some .local := by decide +kernel
theorem gl_law_refused_NoRule : (defScope s_law_refused).names.lookup ("NoRule" : Str) = some .globalImplicit := by decide +kernel
theorem gl_law_refused__law_other : (defScope s_law_refused).names.lookup ("_law_other" : Str) = some .globalImplicit := by decide +kernel
theorem gl_law_refused_copied_rule : (defScope s_law_refused).names.lookup ("copied_rule" : Str) = some .globalImplicit := by decide +kernel

abbrev s_law_copy : Stmt := top 36
theorem sc_law_copy : FnScope ["_law_rule_here"] ["_law_rule_here"] (defScope s_law_copy) := ⟨rfl, rfl, rfl, by decide +kernel, rfl, by decide +kernel, by decide +kernel⟩
theorem v_law_copy__law_rule_here : Vis (defScope s_law_copy) "_law_rule_here" := Or.inl (by decide +kernel)
theorem gl_law_copy_list : (defScope s_law_copy).names.lookup ("list" : Str) = some .globalImplicit := by decide +kernel

abbrev s_law_alike : Stmt := top 37
theorem sc_law_alike : FnScope ["_law_found", "_law_rule_here", "_law_room"] ["_law_found", "_law_rule_here"] (defScope s_law_alike) := ⟨rfl, rfl, rfl, by decide +kernel, rfl, by decide +kernel, by decide +kernel⟩
theorem v_law_alike__law_found : Vis (defScope s_law_alike) "_law_found" := Or.inl (by decide +kernel)
theorem v_law_alike__law_rule_here : Vis (defScope s_law_alike) "_law_rule_here" := Or.inl (by decide +kernel)
theorem v_law_alike__law_room : Vis (defScope s_law_alike) "_law_room" := Or.inl (by decide +kernel)
theorem l_law_alike__law_room : Loc (defScope s_law_alike) "_law_room" := Or.inl (by decide +kernel)
theorem gl_law_alike_isinstance : (defScope s_law_alike).names.lookup ("isinstance" : Str) = some .globalImplicit := by decide +kernel
theorem gl_law_alike_len : (defScope s_law_alike).names.lookup ("len" : Str) = some .globalImplicit := by decide +kernel
theorem gl_law_alike_list : (defScope s_law_alike).names.lookup ("list" : Str) = some .globalImplicit := by decide +kernel
theorem gl_law_alike_tuple : (defScope s_law_alike).names.lookup ("tuple" : Str) = some .globalImplicit := by decide +kernel

abbrev s_law : Stmt := top 38
theorem sc_law : FnScope ["_law_script", "_law_rule_here", "_law_spoiled_here", "_law_handed", "_law_found", "_law_again"] ["_law_script"] (defScope s_law) := ⟨rfl, rfl, rfl, by decide +kernel, rfl, by decide +kernel, by decide +kernel⟩
theorem v_law__law_script : Vis (defScope s_law) "_law_script" := Or.inl (by decide +kernel)
theorem v_law__law_rule_here : Vis (defScope s_law) "_law_rule_here" := Or.inr (Or.inl (by decide +kernel))
theorem l_law__law_rule_here : Loc (defScope s_law) "_law_rule_here" := Or.inr (by decide +kernel)
theorem v_law__law_spoiled_here : Vis (defScope s_law) "_law_spoiled_here" := Or.inl (by decide +kernel)
theorem l_law__law_spoiled_here : Loc (defScope s_law) "_law_spoiled_here" := Or.inl (by decide +kernel)
theorem v_law__law_handed : Vis (defScope s_law) "_law_handed" := Or.inl (by decide +kernel)
theorem l_law__law_handed : Loc (defScope s_law) "_law_handed" := Or.inl (by decide +kernel)
theorem v_law__law_found : Vis (defScope s_law) "_law_found" := Or.inl (by decide +kernel)
theorem l_law__law_found : Loc (defScope s_law) "_law_found" := Or.inl (by decide +kernel)
theorem v_law__law_again : Vis (defScope s_law) "_law_again" := Or.inl (by decide +kernel)
theorem l_law__law_again : Loc (defScope s_law) "_law_again" := Or.inl (by decide +kernel)
theorem gl_law__law_alike : (defScope s_law).names.lookup ("_law_alike" : Str) = some .globalImplicit := by decide +kernel
theorem gl_law__law_cell_at : (defScope s_law).names.lookup ("_law_cell_at" : Str) = some .globalImplicit := by decide +kernel
theorem gl_law__law_copy : (defScope s_law).names.lookup ("_law_copy" : Str) = some .globalImplicit := by decide +kernel
theorem gl_law__law_refused : (defScope s_law).names.lookup ("_law_refused" : Str) = some .globalImplicit := by decide +kernel
theorem gl_law__law_rule : (defScope s_law).names.lookup ("_law_rule" : Str) = some .globalImplicit := by decide +kernel
theorem gl_law__law_spoiled : (defScope s_law).names.lookup ("_law_spoiled" : Str) = some .globalImplicit := by decide +kernel
theorem gl_law_copied_rule : (defScope s_law).names.lookup ("copied_rule" : Str) = some .globalImplicit := by decide +kernel
theorem gl_law_is_rule : (defScope s_law).names.lookup ("is_rule" : Str) = some .globalImplicit := by decide +kernel

/-! ### what the law draws: cells, mixed numbers, words, rules -/
abbrev letters : Str := "abcdefghijklmnopqrstuvwxyz"
def spLaw (K : PySem.W.Frag) : Sp := fun vs H Q _ => ∃ (a : Addr) (ns : List Int), vs = [.ref a] ∧ SqL K H a (ns.map V.int) ∧ ns.length ≤ 63 ∧ ∀ H', Q (.bl true) H'
def spCell (K : PySem.W.Frag) : Sp := fun vs H Q _ => ∃ (a : Addr) (ns : List Int) (k : Int), vs = [.ref a, .int k] ∧ SqL K H a (ns.map V.int) ∧ 0 ≤ k ∧ Q (.int (ns.getD k.toNat 0)) H
def spMixed : Sp := fun vs H Q _ => ∃ (c n : Int), vs = [.int c, .int n] ∧ 0 ≤ n ∧ n ≤ 100000 ∧ ∀ (p : Addr) (H' : Hp) (ms : List Int), Same H H' → H p = none → H' p = some (.lst (ms.map V.int)) → (ms.length : Int) = n → (∀ m ∈ ms, 0 ≤ m ∧ m < 2147483647) → Q (.ref p) H'
def wayV : Option Nat → V
  | none => .non
  | some n => .int n
def spWay : Sp := fun vs H Q _ => ∃ (m s n : Int), vs = [.int m, .int s, .int n] ∧ 0 < s ∧ s < 1073741824 ∧ 0 < n ∧ n < 1073741824 ∧ ∀ o : Option Nat, (∀ k, o = some k → (k : Int) < n) → Q (wayV o) H
theorem letter_at (z : Int) : ∃ c, letters.length ≤ sizeLine ∧ atI letters.cps.toList (z % 26) = some c ∧ c ∈ letters.cps.toList := by
  have hz : (z % 26).toNat < letters.cps.toList.length := by
    show (z % 26).toNat < 26
    omega
  refine ⟨letters.cps.toList[(z % 26).toNat], by decide, ?_, List.getElem_mem hz⟩
  have q := atI_nat (List.getElem?_eq_getElem hz)
  rwa [show (((z % 26).toNat : Nat) : Int) = z % 26 by omega] at q
theorem len_app1 (x : Str) (c : Nat) : (x ++ (⟨#[c]⟩ : Str)).length = x.length + 1 := by rw [Str.length_append]; rfl
section
variable {P : Program} {w : World} {K : PySem.W.Frag} {mg : Str → Option Value} {base : Heap}
theorem ok_cell (D : DefAt K mg "_law_cell_at" s_law_cell_at) (z_len : mg "len" = none) : Cal P w K mg base 1 "_law_cell_at" ["_law_script", "_law_k"] (spCell K) := by
  refine D.cal sc_law_cell_at (fun _ _ _ _ _ _ us hl => match us, hl with | [_, _], _ => rfl) (fun vs H Q E h => by obtain ⟨a, ns, k, rfl, _⟩ := h; rfl) (fun f cdv A outer s H vs Q E hr h => ?_)
  obtain ⟨a, ns, k, rfl, hS, h0, q⟩ := h
  refine ⟨_, (pss_cons (ps_if (pt_cmpR op_ltA (pv 1 (hv := v_law_cell_at__law_k)) (pe_blt (call_lenK K) z_len bt_len (pa_cons (pv 0 (hv := v_law_cell_at__law_script)) pa_nil) (hg := gl_law_cell_at_len)) (nomark _)) (pss_one (ps_ret (pe_ix (ix_K K) (pv 0 (hv := v_law_cell_at__law_script)) (pv 1 (hv := v_law_cell_at__law_k)) (fun _ _ => rfl)))) pss_nil)
      (pss_one (ps_ret pe_int))), ?_⟩
  walk_at "rd"
  refine ⟨_, .inl hS, ite2 (fun c => ?_) (fun c => ?_)⟩
  · rw [List.length_map] at c
    refine ⟨_, .int (ns.getD k.toNat 0), .inl hS, at_map h0 ?_, q⟩
    rw [List.getD_eq_getElem?_getD, List.getElem?_eq_getElem (by omega)]; rfl
  · rw [List.length_map] at c
    have e : ns.getD k.toNat 0 = 0 := by
      rw [List.getD_eq_getElem?_getD, List.getElem?_eq_none (by omega)]; rfl
    rw [e] at q; exact q
theorem ok_mixed (D : DefAt K mg "_law_mixed" s_law_mixed) (z_range : mg "range" = none) : Cal P w K mg base 1 "_law_mixed" ["_law_cell", "_law_many"] spMixed := by
  refine D.cal sc_law_mixed (fun _ _ _ _ _ _ us hl => match us, hl with | [_, _], _ => rfl) (fun vs H Q E h => by obtain ⟨c, n, rfl, _⟩ := h; rfl) (fun f cdv A outer s H vs Q E hr h => ?_)
  obtain ⟨c, n, rfl, h0, h1, q⟩ := h
  refine ⟨_, (pss_cons (ps_let 2 sc_law_mixed.nd (pe_op op_addA pe_int (pe_op op_mod (pv 0 (hv := v_law_mixed__law_cell)) pe_int)) (hx := l_law_mixed__law_number))
      (pss_cons (ps_let 3 sc_law_mixed.nd (pe_lst pa_nil) (hx := l_law_mixed__law_found))
      (pss_cons (ps_for PassesOwn.never rfl (pi_range1 gl_law_mixed_range z_range (pa_cons (pv 1 (hv := v_law_mixed__law_many)) pa_nil)) (pg_let 4 sc_law_mixed.nd (hx := l_law_mixed__law_k)) (pss_cons (ps_let 2 sc_law_mixed.nd (pe_op op_mod (pe_op op_mulB (pv 2 (hv := v_law_mixed__law_number)) pe_int) pe_int) (hx := l_law_mixed__law_number))
      (pss_one (ps_expr (pe_bmK K PySem.F.plainAttrs_list PySem.F.slot_list_append PySem.F.type_list_append mt_appendA (pv 3 (hv := v_law_mixed__law_found)) (pa_cons (pv 2 (hv := v_law_mixed__law_number)) pa_nil))))))
      (pss_one (ps_ret (pv 3 (hv := v_law_mixed__law_found))))))), ?_⟩
  walk_at "rd"
  refine ⟨by decide, by decide, fun p hp => ⟨by omega, by omega, ?_⟩⟩
  refine forW_range (fun i σ H' => ∃ (m : Int) (ms : List Int) (o : Option V), σ = [some (.int c), some (.int n), some (.int m), some (.ref p), o] ∧ Same H H' ∧ H' p = some (.lst (ms.map V.int)) ∧ ms.length = i ∧ (∀ x ∈ ms, 0 ≤ x ∧ x < 2147483647) ∧ 0 ≤ m ∧ m < 2147483648)
    ⟨_, [], none, rfl, same_new hp _, upd_same, rfl, (by simp), by omega, by omega⟩ ?_ ?_
  · rintro i σ H' hi ⟨m, ms, o, rfl, sm, hl, hn, hb, m0, m1⟩
    walk_at "rd"
    refine ⟨.inl ⟨by omega, by omega⟩, by decide, ⟨_, SqL.of hl⟩, _, hl, by rw [List.length_map]; exact small' (by omega), ?_⟩
    refine ⟨_, ms ++ [m * 16807 % 2147483647], _, rfl, fun b o' e => ?_, ?_, by simp [hn], fun x hx => ?_, by omega, by omega⟩
    · rw [upd_ne (ne_of_none e hp)]; exact sm b o' e
    · rw [upd_same, List.map_append]; rfl
    · rcases List.mem_append.mp hx with z | z
      · exact hb x z
      · rw [List.mem_singleton.mp z]; omega
  · rintro σ H' ⟨m, ms, o, rfl, sm, hl, hn, hb, m0, m1⟩
    walk_at "rd"
    exact q p H' ms sm hp hl (by omega) hb
theorem ok_way (D : DefAt K mg "_law_way" s_law_way) : Cal P w K mg base 1 "_law_way" ["_law_number", "_law_share", "_law_many"] spWay := by
  refine D.cal sc_law_way (fun _ _ _ _ _ _ us hl => match us, hl with | [_, _, _], _ => rfl) (fun vs H Q E h => by obtain ⟨m, s, n, rfl, _⟩ := h; rfl) (fun f cdv A outer s H vs Q E hr h => ?_)
  obtain ⟨m, s, n, rfl, s0, s1, n0, n1, q⟩ := h
  refine ⟨_, (pss_cons (ps_if (pt_cmpR op_eqA (pe_op op_mod (pv 0 (hv := v_law_way__law_number)) (pv 1 (hv := v_law_way__law_share))) pe_int (nomark _)) (pss_one (ps_ret pe_non)) pss_nil)
      (pss_one (ps_ret (pe_op op_mod (pe_op op_fdiv (pv 0 (hv := v_law_way__law_number)) (pv 1 (hv := v_law_way__law_share))) (pv 2 (hv := v_law_way__law_many)))))), ?_⟩
  walk_at "rd"
  refine ⟨s0, ite2 (fun c => ?_) (fun c => ?_)⟩
  · exact q none (fun k e => by cases e)
  · refine ⟨⟨s0, s1⟩, n0, ?_⟩
    have a1 := Int.emod_nonneg (m / s) (show n ≠ 0 by omega)
    have a2 := Int.emod_lt_of_pos (m / s) n0
    have q' := q (some (m / s % n).toNat) (fun k e => by cases e; omega)
    have e : V.int (m / s % n) = wayV (some (m / s % n).toNat) := by
      show _ = V.int (((m / s % n).toNat : Nat) : Int)
      rw [show (((m / s % n).toNat : Nat) : Int) = m / s % n by omega]
    rw [e]; exact q'
theorem side_str (z : Int) : (1 + z % 2).natAbs.log2 < 1920 ∧ (toString (1 + z % 2) : Str).length = 1 := by
  have h : z % 2 = 0 ∨ z % 2 = 1 := by omega
  rcases h with h | h <;> rw [h] <;> exact ⟨by decide, by decide +kernel⟩
theorem sided_len {x y : Str} (hx : x.length = 1) (hy : y.length ≤ 8) : (x ++ (Str.ofString ".")).length = 2 ∧ ((x ++ (Str.ofString ".")) ++ y).length ≤ 10 := by
  have e : (Str.ofString ".").length = 1 := by decide +kernel
  have l1 : (x ++ (Str.ofString ".")).length = 2 := by rw [Str.length_append, hx, e]
  exact ⟨l1, by rw [Str.length_append, l1]; omega⟩
end
/-! ### a rule as data, and in the heap -/
structure Rl where
  s : Int
  ws : List Str
  rs : List (List (Option Nat))
structure RlOk (r : Rl) : Prop where
  s : r.s = 1 ∨ r.s = 2
  nw : r.ws.length ≤ 16
  n0 : 1 ≤ r.rs.length
  n1 : r.rs.length ≤ 60
  row : ∀ x ∈ r.rs, x.length = r.ws.length ∧ ∀ k, some k ∈ x → k < r.rs.length
  lw : ∀ w ∈ r.ws, w.length ≤ 10
def RoomsAs (H : Hp) (p : Addr) (rs : List (List (Option Nat))) (as : List Addr) : Prop :=
  H p = some (.lst (as.map V.ref)) ∧ as.length = rs.length ∧ ∀ (i : Nat) a x, as[i]? = some a → rs[i]? = some x → H a = some (.lst (x.map wayV))
def RuleAt (H : Hp) (p : Addr) (r : Rl) : Prop := ∃ pw pr as, H p = some (.tup [.int r.s, .ref pw, .ref pr]) ∧ H pw = some (.lst (r.ws.map V.str)) ∧ RoomsAs H pr r.rs as
theorem RoomsAs.mono {H H' : Hp} {p : Addr} {rs : List (List (Option Nat))} {as : List Addr} (sm : Same H H') (h : RoomsAs H p rs as) : RoomsAs H' p rs as := by
  obtain ⟨h1, h2, h3⟩ := h
  exact ⟨sm _ _ h1, h2, fun i a x e1 e2 => sm _ _ (h3 i a x e1 e2)⟩
theorem RuleAt.mono {H H' : Hp} {p : Addr} {r : Rl} (sm : Same H H') (h : RuleAt H p r) : RuleAt H' p r := by
  obtain ⟨pw, pr, as, h1, h2, h3⟩ := h
  exact ⟨pw, pr, as, sm _ _ h1, sm _ _ h2, h3.mono sm⟩
theorem ways_flat (x : List (Option Nat)) : ∀ v ∈ x.map wayV, flatV v = true := by
  intro v hv
  obtain ⟨o, _, rfl⟩ := List.mem_map.mp hv
  cases o <;> rfl
theorem strs_flat (x : List Str) : ∀ v ∈ x.map V.str, flatV v = true := by
  intro v hv
  obtain ⟨o, _, rfl⟩ := List.mem_map.mp hv
  rfl
theorem rooms_eq {K : PySem.W.Frag} {H : Hp} {p q : Addr} {rs : List (List (Option Nat))} {as bs : List Addr} (h1 : RoomsAs H p rs as) (h2 : RoomsAs H q rs bs) : EqN K H 2 (.ref p) (.ref q) true := by
  obtain ⟨a1, a2, a3⟩ := h1
  obtain ⟨b1, b2, b3⟩ := h2
  refine EqN.seq (.inl ⟨SqL.of a1, SqL.of b1⟩) (by simp; omega) fun i x y e1 e2 => ?_
  rw [List.getElem?_map] at e1 e2
  cases qa : as[i]? with
  | none => rw [qa] at e1; cases e1
  | some a =>
    cases qb : bs[i]? with
    | none => rw [qb] at e2; cases e2
    | some b =>
      rw [qa] at e1; rw [qb] at e2
      cases e1; cases e2
      have hi : i < rs.length := by have := (List.getElem?_eq_some_iff.mp qa).1; omega
      exact EqN.seqFlat (.inl ⟨SqL.of (a3 i a _ qa (List.getElem?_eq_getElem hi)), SqL.of (b3 i b _ qb (List.getElem?_eq_getElem hi))⟩) (ways_flat _)
theorem EqN.up {K : PySem.W.Frag} {H : Hp} : ∀ {n : Nat} {x y : V} {b : Bool}, EqN K H n x y b → EqN K H (n + 1) x y b
  | 0, x, y, b, h => .inl h
  | n + 1, x, y, b, h => by
    rcases h with h | ⟨a, c, xs, ys, e1, e2, hq, h⟩
    · exact .inl h
    · refine .inr ⟨a, c, xs, ys, e1, e2, hq, ?_⟩
      rcases h with ⟨e, hl, he, hb⟩ | h
      · exact .inl ⟨e, hl, fun i x y q1 q2 => EqN.up (he i x y q1 q2), hb⟩
      · exact .inr h
theorem rule_eq {K : PySem.W.Frag} {H : Hp} {p q : Addr} {r : Rl} (h1 : RuleAt H p r) (h2 : RuleAt H q r) : EqN K H 3 (.ref p) (.ref q) true := by
  obtain ⟨pw, pr, as, a1, a2, a3⟩ := h1
  obtain ⟨qw, qr, bs, b1, b2, b3⟩ := h2
  refine EqN.seq (.inr ⟨SqT.of a1, SqT.of b1⟩) rfl fun i x y e1 e2 => ?_
  match i, e1, e2 with
  | 0, e1, e2 => cases e1; cases e2; exact EqN.refl rfl
  | 1, e1, e2 => cases e1; cases e2; exact EqN.seqFlat (.inl ⟨SqL.of a2, SqL.of b2⟩) (strs_flat _)
  | 2, e1, e2 => cases e1; cases e2; exact rooms_eq a3 b3
  | i + 3, e1, e2 => simp at e1
/-- [list(room) for room in rooms] -/
theorem copy_rooms {K : PySem.W.Frag} {pr L : Addr} {g : TG} {te : TE} {nT : Nat} {σ : L2.St} {Q : VK} {H : Hp} {rs : List (List (Option Nat))} {as : List Addr} (hR : RoomsAs H pr rs as) (hn : rs.length ≤ 60) (hL : H L = none)
    (hs : ∀ (a : Addr) (xs : List V) (H' : Hp) (C : VK), H' a = some (.lst xs) → (∀ l, H' l = none → C (.ref l) (upd H' l (.lst xs))) → g (.ref a) (σ ++ List.replicate nT none) H' fun σ2 H2 => te σ2 H2 C)
    (q : ∀ H' bs, Same H H' → RoomsAs H' L rs bs → (∀ b ∈ bs, H b = none ∧ b ≠ L) → bs.Nodup → Q (.ref L) H') : compW (Itl K pr) g tYes te nT σ L Q (upd H L (.lst [])) := by
  obtain ⟨h1, h2, h3⟩ := hR
  refine compW_list (xs := as.map V.ref) (fun i ys H' => ∃ bs : List Addr, Same H H' ∧ H' L = some (.lst ys) ∧ ys = bs.map V.ref ∧ bs.length = i ∧ (∀ b ∈ bs, H b = none ∧ b ≠ L ∧ ∃ o, H' b = some o) ∧ bs.Nodup ∧ ∀ (j : Nat) b x, bs[j]? = some b → rs[j]? = some x → H' b = some (.lst (x.map wayV)))
    ⟨[], same_new hL _, upd_same, rfl, rfl, by simp, List.nodup_nil, by simp⟩ (fun i ys H' _ h => by obtain ⟨_, sm, _⟩ := h; exact SqL.of (sm _ _ h1)) ?_ ?_
  · rintro i ys H' x hx hi ⟨bs, sm, hl, rfl, hb, hbn, hnd, hbx⟩
    rw [List.getElem?_map] at hx
    cases qa : as[i]? with
    | none => rw [qa] at hx; cases hx
    | some a =>
      rw [qa] at hx; cases hx
      have hi' : i < rs.length := by have := (List.getElem?_eq_some_iff.mp qa).1; omega
      have ha := h3 i a _ qa (List.getElem?_eq_getElem hi')
      have e := hs a _ H' (CStep (as.map V.ref).length i (fun i ys H' => ∃ bs : List Addr, Same H H' ∧ H' L = some (.lst ys) ∧ ys = bs.map V.ref ∧ bs.length = i ∧ (∀ b ∈ bs, H b = none ∧ b ≠ L ∧ ∃ o, H' b = some o) ∧ bs.Nodup ∧ ∀ (j : Nat) b x, bs[j]? = some b → rs[j]? = some x → H' b = some (.lst (x.map wayV))) L (bs.map V.ref)) (sm _ _ ha) ?_
      · have e2 : (compK (as.map V.ref).length i (fun i ys H' => ∃ bs : List Addr, Same H H' ∧ H' L = some (.lst ys) ∧ ys = bs.map V.ref ∧ bs.length = i ∧ (∀ b ∈ bs, H b = none ∧ b ≠ L ∧ ∃ o, H' b = some o) ∧ bs.Nodup ∧ ∀ (j : Nat) b x, bs[j]? = some b → rs[j]? = some x → H' b = some (.lst (x.map wayV))) L (bs.map V.ref) te) = fun σ2 H2 => te σ2 H2 (CStep (as.map V.ref).length i (fun i ys H' => ∃ bs : List Addr, Same H H' ∧ H' L = some (.lst ys) ∧ ys = bs.map V.ref ∧ bs.length = i ∧ (∀ b ∈ bs, H b = none ∧ b ≠ L ∧ ∃ o, H' b = some o) ∧ bs.Nodup ∧ ∀ (j : Nat) b x, bs[j]? = some b → rs[j]? = some x → H' b = some (.lst (x.map wayV))) L (bs.map V.ref)) := by
          funext σ2 H2; exact compK_at
        rw [e2]; exact e
      · intro l hl0
        have nl : l ≠ L := by
          rintro rfl
          rw [hl] at hl0; cases hl0
        have hl' : upd H' l (.lst ((rs[i]).map wayV)) L = some (.lst (bs.map V.ref)) := by rw [upd_ne (Ne.symm nl)]; exact hl
        refine cstep hi (by rw [List.length_map]; exact hb) (by rw [List.length_map, h2]; exact smallL (by omega)) hl' ⟨bs ++ [l], (sm.trans (same_new hl0 _)).upd hL _, upd_same, by rw [List.map_append]; rfl, by simp [hb], ?_, ?_, ?_⟩
        · intro b hb'
          rcases List.mem_append.mp hb' with z | z
          · obtain ⟨z1, z2, o, z3⟩ := hbn b z
            exact ⟨z1, z2, o, by rw [upd_ne z2]; exact (same_new hl0 _) _ _ z3⟩
          · rw [List.mem_singleton.mp z]
            exact ⟨sm.free hl0, nl, _, by rw [upd_ne nl]; exact upd_same⟩
        · rw [List.nodup_append]
          refine ⟨hnd, by simp, fun b hb' c hc => ?_⟩
          rw [List.mem_singleton.mp hc]
          rintro rfl
          obtain ⟨_, _, o, z⟩ := hbn b hb'
          rw [hl0] at z; cases z
        · intro j b x e1 e2
          rcases Nat.lt_or_ge j bs.length with z | z
          · rw [List.getElem?_append_left z] at e1
            have q1 := hbx j b x e1 e2
            have q2 := (hbn b (List.mem_of_getElem? e1)).2.1
            rw [upd_ne q2]; exact (same_new hl0 _) _ _ q1
          · rw [List.getElem?_append_right z] at e1
            have hj : j - bs.length = 0 := by
              have := (List.getElem?_eq_some_iff.mp e1).1
              simp at this; omega
            rw [hj] at e1
            have e1' : l = b := by simpa using e1
            subst e1'
            have hji : j = i := by omega
            subst hji
            rw [List.getElem?_eq_getElem hi'] at e2
            cases e2
            rw [upd_ne nl]; exact upd_same
  · rintro ys H' ⟨bs, sm, hl, rfl, hb, hbn, hnd, hbx⟩
    exact q H' bs sm ⟨hl, by rw [hb, List.length_map, h2], hbx⟩ (fun b z => ⟨(hbn b z).1, (hbn b z).2.1⟩) hnd
/-! ### the law's own rule -/
theorem share_at (l : List Int) (c : Int) (h : l.length = 4) (hb : ∀ x ∈ l, 0 < x ∧ x < 1073741824) : ∃ v, atI (l.map V.int) (c % 4) = some (.int v) ∧ 0 < v ∧ v < 1073741824 := by
  obtain ⟨v, hv, _⟩ := at_lst (xs := l) (i := c % 4) (by omega) (by omega)
  exact ⟨v, at_map (by omega) hv, (hb v (List.mem_of_getElem? hv)).1, (hb v (List.mem_of_getElem? hv)).2⟩
theorem mul_in {n z r j : Int} (n0 : 0 ≤ n) (r1 : r < z) (j1 : j < n) : n * r + j < n * z := by
  have h : n * (r + 1) ≤ n * z := Int.mul_le_mul_of_nonneg_left (by omega) n0
  rw [Int.mul_add, Int.mul_one] at h
  omega
theorem mul_nn {n r j : Int} (n0 : 0 ≤ n) (r0 : 0 ≤ r) (j0 : 0 ≤ j) : 0 ≤ n * r + j := by
  have := Int.mul_nonneg n0 r0
  omega
theorem mul_16_60 {n z : Int} (n0 : 0 ≤ n) (n1 : n ≤ 16) (z0 : 1 ≤ z) (z1 : z ≤ 60) : 0 ≤ n * z ∧ n * z ≤ 960 := by
  refine ⟨Int.mul_nonneg n0 (by omega), ?_⟩
  have h : n * z ≤ 16 * 60 := Int.mul_le_mul n1 z1 (by omega) (by decide)
  omega
def wordS (y : Str) : Bool := decide (1 ≤ y.length ∧ y.length ≤ 8) && y.cps.toList.all fun c => decide (c ∈ letters.cps.toList)
def wordV : V → Bool
  | .str y => wordS y
  | _ => false
def spWord : Sp := fun vs H Q _ => ∃ (x : V) (T : String), vs = [x] ∧ tyName H x = some T ∧ (∀ y, x = .str y → y.length ≤ sizeLine) ∧ ∀ H', Same H H' → Q (.bl (wordV x)) H'
theorem ty_str {H : Hp} {x : V} {T : String} (h : tyName H x = some T) (e : isT T "str" = true) : ∃ y, x = .str y := by
  cases x with
  | str y => exact ⟨y, rfl⟩
  | ref a =>
    cases e' : H a with
    | none => simp [tyName, e'] at h
    | some o =>
      cases o with
      | frz ob u => cases u <;> simp [tyName, e'] at h <;> subst h <;> exact absurd e (by decide)
      | _ => simp [tyName, e'] at h <;> subst h <;> exact absurd e (by decide)
  | _ => first | (cases h; exact absurd e (by decide)) | cases h
theorem wordV_no {H : Hp} {x : V} {T : String} (h : tyName H x = some T) (e : ¬ isT T "str" = true) : wordV x = false := by
  cases x with
  | str y => cases h; exact absurd rfl e
  | _ => rfl
section
variable {P : Program} {w : World} {K : PySem.W.Frag} {mg : Str → Option Value} {base : Heap}
theorem ok_is_word (D : DefAt K mg "is_word" s_is_word) (z_isinstance : mg "isinstance" = none) (z_str : mg "str" = none) (z_len : mg "len" = none) (z_all : mg "all" = none)
    (g_MOST_LETTERS : ∃ t, mg "MOST_LETTERS" = some (.int 8 t)) (g_LETTERS : ∃ t, mg "LETTERS" = some (.str "abcdefghijklmnopqrstuvwxyz" t)) : Cal P w K mg base 1 "is_word" ["thing"] spWord := by
  refine D.cal sc_is_word (fun _ _ _ _ _ _ us hl => match us, hl with | [_], _ => rfl) (fun vs H Q E h => by obtain ⟨x, T, rfl, _⟩ := h; rfl) (fun f cdv A outer s H vs Q E hr h => ?_)
  obtain ⟨x, T, rfl, hT, hx, q⟩ := h
  refine ⟨_, (pss_cons (ps_if (PW.pt' (pw_or (pt_not (pt_val (pe_blt call_isT z_isinstance bt_isinstance (pa_cons (pv 0 (hv := v_is_word_thing)) (pa_cons (pe_gty z_str bt_str (hg := gl_is_word_str)) pa_nil)) (hg := gl_is_word_isinstance)))) (pw_or1 (pt_not (pt_chain op_le op_le pe_int (pe_blt (call_lenK K) z_len bt_len (pa_cons (pv 0 (hv := v_is_word_thing)) pa_nil) (hg := gl_is_word_len)) (pe_gint g_MOST_LETTERS (hg := gl_is_word_MOST_LETTERS))))))) (pss_one (ps_ret pe_bl)) pss_nil)
      (pss_one (ps_ret (pe_blt (call_allK K) z_all bt_all (pa_cons (pe_comp (CompSc.to (fsc := (defScope s_is_word)) (N := ["thing"]) (N0 := ["thing"]) (T := ["sign"]) ⟨by decide +kernel, by decide +kernel, by decide +kernel, by decide +kernel, by decide +kernel, by decide +kernel, by decide +kernel⟩ rfl rfl) rfl (pi_str (pv 0 (hv := v_is_word_thing))) (fun _ _ _ _ => (pg_let 1 (show (["thing", "sign"] : List Str).Nodup from by decide +kernel) (hx := (locC (defScope s_is_word) (by decide +kernel))) (hf := fnC (defScope s_is_word) (by decide +kernel)))) (gfr_name (show (["thing"] : List Str).length ≤ 1 from by decide)) (fun _ _ _ _ => pifs_nil) (fun _ _ _ _ => (pe_cmpR (op_inK K) (pv 1 (hv := (visC (defScope s_is_word) (by decide +kernel)))) (pe_gstr g_LETTERS (hg := (glC (defScope s_is_word) (by decide +kernel)))) (by with_unfolding_all rfl)))) pa_nil) (hg := gl_is_word_all))))), ?_⟩
  walk_at "rd"
  refine ⟨T, hT, by decide, ?_⟩
  refine ite2 (fun c => ?_) (fun c => ?_)
  · rw [← wordV_no hT (by simpa using c)]
    exact q H (Same.refl H)
  · obtain ⟨y, rfl⟩ := ty_str hT (by simpa using c)
    have hy := hx y rfl
    walk_at "rd"
    refine ⟨hy, ?_⟩
    refine ite2 (fun c1 => ?_) (fun c1 => ?_)
    · refine ite2 (fun c2 => ?_) (fun c2 => ?_)
      · have e : wordV (.str y) = false := by
          show (decide (1 ≤ y.length ∧ y.length ≤ 8) && _) = false
          rw [decide_eq_false (by simp at c2; omega)]; rfl
        rw [← e]; exact q H (Same.refl H)
      · intro L hL
        have c1' : 1 ≤ y.length := by omega
        have c2' : y.length ≤ 8 := by simp at c2; omega
        refine compW_str (fun i ys H' => Same H H' ∧ H' L = some (.lst ys) ∧ ys = ((y.cps.toList.take i).map fun c => decide (c ∈ letters.cps.toList)).map V.bl) ⟨same_new hL _, upd_same, rfl⟩ ?_ ?_
        · rintro i ys H' c hc hi ⟨sm, hD, rfl⟩
          walk_at "rd"
          have hc' : y.cps.toList[i]? = some c := by simpa using hc
          refine cstep hi ?_ hy hD ⟨fun b o e => ?_, upd_same, ?_⟩
          · rw [List.length_map, List.length_map, List.length_take]
            have : y.cps.toList.length = y.length := by simp [Str.length]
            omega
          · rw [upd_ne (ne_of_none e hL)]; exact sm b o e
          · rw [StrLaws.found_one, List.take_add_one, hc', List.map_append, List.map_append]; rfl
        · rintro ys H' ⟨sm, hD, rfl⟩
          walk_at "rd"
          refine ⟨_, SqL.of hD, ?_⟩
          have e : (((y.cps.toList.take y.length).map fun c => decide (c ∈ letters.cps.toList)).all id) = wordV (.str y) := by
            show _ = (decide (1 ≤ y.length ∧ y.length ≤ 8) && y.cps.toList.all fun c => decide (c ∈ letters.cps.toList))
            rw [decide_eq_true ⟨c1', c2'⟩, Bool.true_and, List.all_map, List.take_of_length_le (by simp [Str.length])]
            rfl
          rw [e]; exact q H' sm
    · have e : wordV (.str y) = false := by
        show (decide (1 ≤ y.length ∧ y.length ≤ 8) && _) = false
        rw [decide_eq_false (by omega)]; rfl
      rw [← e]; exact q H (Same.refl H)
end
theorem getD_ix {α : Type} {l : List α} {i : Nat} {d : α} (h : i < l.length) : l.getD i d = l[i] := by rw [List.getD_eq_getElem?_getD, List.getElem?_eq_getElem h]; rfl
/-! ### the law's words, all different -/
def T (x : Str) : List Nat := x.cps.toList
theorem T_app (x y : Str) : T (x ++ y) = T x ++ T y := by
  show (x.cps ++ y.cps).toList = _
  simp [T]
theorem T_inj {x y : Str} (h : T x = T y) : x = y := by
  cases x; cases y
  unfold T at h
  simpa using h
theorem T_len (x : Str) : (T x).length = x.length := by simp [T, Str.length]
def lc (z : Int) : Nat := letters.cps.toList.getD (z % 26).toNat 0
theorem letters_small : letters.length ≤ sizeLine := by decide
theorem letters_26 : letters.cps.toList.length = 26 := rfl
theorem lc_at (z : Int) : atI letters.cps.toList (z % 26) = some (lc z) := by
  have hz : (z % 26).toNat < letters.cps.toList.length := by rw [letters_26]; omega
  unfold lc
  rw [getD_ix hz]
  have q := atI_nat (List.getElem?_eq_getElem hz)
  rwa [show (((z % 26).toNat : Nat) : Int) = z % 26 by omega] at q
theorem at_inj {α : Type} {l : List α} (nd : l.Nodup) {i j : Nat} {x : α} (h1 : l[i]? = some x) (h2 : l[j]? = some x) : i = j := by
  obtain ⟨h3, e3⟩ := List.getElem?_eq_some_iff.mp h1
  obtain ⟨h4, e4⟩ := List.getElem?_eq_some_iff.mp h2
  exact (List.getElem_inj nd (h₀ := h3) (h₁ := h4)).mp (e3.trans e4.symm)
theorem lc_inj {z z' : Int} (h : lc z = lc z') : z % 26 = z' % 26 := by
  have nd : letters.cps.toList.Nodup := by decide +kernel
  have h1 : (z % 26).toNat < letters.cps.toList.length := by rw [letters_26]; omega
  have h2 : (z' % 26).toNat < letters.cps.toList.length := by rw [letters_26]; omega
  unfold lc at h
  rw [getD_ix h1, getD_ix h2] at h
  have := (List.getElem_inj nd (h₀ := h1) (h₁ := h2)).mp h
  omega
theorem nodup_key {α : Type} {ss : List α} {R : Nat → α → Prop} (h : ∀ (k : Nat) s, ss[k]? = some s → R k s) (inj : ∀ i j s, i < ss.length → j < ss.length → R i s → R j s → i = j) : ss.Nodup := by
  rw [List.nodup_iff_pairwise_ne, List.pairwise_iff_getElem]
  intro i j hi hj hij e
  have := inj i j _ hi hj (h i _ (List.getElem?_eq_getElem hi)) (h j _ (by rw [e]; exact List.getElem?_eq_getElem hj))
  omega
theorem key_push {α : Type} {ss : List α} {R : Nat → α → Prop} {i : Nat} {x : α} (hn : ss.length = i) (h : ∀ (k : Nat) s, ss[k]? = some s → R k s) (hx : R i x) : ∀ (k : Nat) s, (ss ++ [x])[k]? = some s → R k s := by
  intro k s e
  rcases Nat.lt_or_ge k ss.length with z | z
  · rw [List.getElem?_append_left z] at e; exact h k s e
  · rw [List.getElem?_append_right z] at e
    have hk : k - ss.length = 0 := by
      have := (List.getElem?_eq_some_iff.mp e).1
      simp at this; omega
    rw [hk] at e
    have : x = s := by simpa using e
    subst this
    rw [show k = i by omega]; exact hx
theorem at_app1 {x : Str} {i : Nat} {v : Nat} (c : Nat) (h : (T x)[i]? = some v) : (T (x ++ (⟨#[c]⟩ : Str)))[i]? = some v := by
  rw [T_app, List.getElem?_append_left (List.getElem?_eq_some_iff.mp h).1]; exact h
theorem at_last (x : Str) (c : Nat) : (T (x ++ (⟨#[c]⟩ : Str)))[x.length]? = some c := by
  rw [T_app, List.getElem?_append_right (by rw [T_len]; exact Nat.le_refl _), T_len, Nat.sub_self]; rfl
def WKey (b : Bool) (v xa : Int) (a : Nat) (i : Nat) (s : Str) : Prop := match b with
  | true => s.length = 1 + i % 8 ∧ (T s)[0]? = some (lc (v + 13 * ((i : Int) / 8)))
  | false => (T s)[a]? = some (lc (xa + (i : Int)))
theorem wkey_inj {b : Bool} {v xa : Int} {a i j : Nat} {s : Str} (hi : i < 16) (hj : j < 16) (h1 : WKey b v xa a i s) (h2 : WKey b v xa a j s) : i = j := by
  cases b with
  | true =>
    obtain ⟨l1, e1⟩ := h1
    obtain ⟨l2, e2⟩ := h2
    have := lc_inj (Option.some.inj (e1.symm.trans e2))
    omega
  | false =>
    have h1' : (T s)[a]? = some (lc (xa + (i : Int))) := h1
    have h2' : (T s)[a]? = some (lc (xa + (j : Int))) := h2
    have := lc_inj (Option.some.inj (h1'.symm.trans h2'))
    omega
theorem lc_mem (z : Int) : lc z ∈ letters.cps.toList := by
  have hz : (z % 26).toNat < letters.cps.toList.length := by rw [letters_26]; omega
  unfold lc
  rw [getD_ix hz]
  exact List.getElem_mem hz
/-! ### words and texts, for what is a rule -/
def risingB (ws : List Str) : Bool := (List.range (ws.length - 1)).all fun i => decide ((ws.getD i "").cps.toList < (ws.getD (i + 1) "").cps.toList)
def sidedS (y : Str) : Bool := inV (.str (Txt.slice y none (some 2))) [.str "1.", .str "2."] && wordS (Txt.slice y (some 2) none)
def wordOf (s : Int) (y : Str) : Bool := if s = 1 then wordS y else sidedS y
theorem slice_T {x : Str} {lo hi : Option Int} {a b : Nat} (hab : a ≤ b) (hb : b ≤ x.length) (e : Builtin.Str.strSliceIndices lo hi 1 x.length = (List.range (b - a)).map (fun k => a + k)) : T (Txt.slice x lo hi) = ((T x).drop a).take (b - a) := by
  have hp := StrLaws.picks x.cps.toList (b - a) a (by simp [Str.length] at hb ⊢; omega)
  unfold Txt.slice
  rw [e]
  split
  · rename_i h
    have hl : b - a = x.length := by simpa using h
    have ha : a = 0 := by omega
    subst ha
    show T x = ((T x).drop 0).take (b - 0)
    rw [List.drop_zero, Nat.sub_zero, List.take_of_length_le (by rw [T_len]; omega)]
  · show ((List.range (b - a)).map (fun k => a + k)).filterMap (x.cps[·]?) = (x.cps.toList.drop a).take (b - a)
    simpa using hp
theorem slice_to {x : Str} {j : Nat} (h : j ≤ x.length) : T (Txt.slice x none (some (j : Int))) = (T x).take j := by
  have := slice_T (x := x) (lo := none) (hi := some (j : Int)) (Nat.zero_le j) h (by rw [StrLaws.sliceIdx_none_lo]; exact StrLaws.strSliceIndices_plain (a := 0) (Nat.zero_le j) h)
  simpa using this
theorem slice_from {x : Str} {j : Nat} (h : j ≤ x.length) : T (Txt.slice x (some (j : Int)) none) = (T x).drop j := by
  have := slice_T (x := x) (lo := some (j : Int)) (hi := none) h (Nat.le_refl _) (by rw [StrLaws.sliceIdx_none_hi]; exact StrLaws.strSliceIndices_plain h (Nat.le_refl _))
  rw [this, List.take_of_length_le (by rw [List.length_drop, T_len]; omega)]
theorem slice_to' {x : Str} (j : Nat) : T (Txt.slice x none (some (j : Int))) = (T x).take j := by
  by_cases h : j ≤ x.length
  · exact slice_to h
  · have e : Builtin.Str.strSliceIndices none (some (j : Int)) 1 x.length = Builtin.Str.strSliceIndices none (some (x.length : Int)) 1 x.length := by
      have h1 : ¬ ((j : Int) < 0) := by omega
      have h2 : ¬ ((x.length : Int) < 0) := by omega
      simp only [Builtin.Str.strSliceIndices, h1, h2, if_false, show ((1 : Int) > 0) = True from by simp, if_true]
      rw [show min (j : Int) (x.length : Int) = (x.length : Int) by omega, show min (x.length : Int) (x.length : Int) = (x.length : Int) by omega]
    have := slice_T (x := x) (lo := none) (hi := some (j : Int)) (Nat.zero_le x.length) (Nat.le_refl _) (by rw [e, StrLaws.sliceIdx_none_lo]; exact StrLaws.strSliceIndices_plain (a := 0) (Nat.zero_le _) (Nat.le_refl _))
    rw [this, List.drop_zero, Nat.sub_zero, List.take_of_length_le (by rw [T_len]; exact Nat.le_refl _), List.take_of_length_le (by rw [T_len]; omega)]
def LetT (p : List Nat) : Prop := ∀ c ∈ p, c ∈ letters.cps.toList
theorem wordS_of {y : Str} (h1 : 1 ≤ (T y).length) (h2 : (T y).length ≤ 8) (h3 : LetT (T y)) : wordS y = true := by
  unfold wordS
  rw [T_len] at h1 h2
  rw [decide_eq_true ⟨h1, h2⟩, Bool.true_and, List.all_eq_true]
  intro c hc
  exact decide_eq_true (h3 c hc)
theorem word_tx {x : Str} (h : wordS x = true) : 1 ≤ (T x).length ∧ (T x).length ≤ 8 ∧ LetT (T x) := by
  unfold wordS at h
  rw [Bool.and_eq_true, decide_eq_true_eq, List.all_eq_true] at h
  rw [T_len]
  exact ⟨h.1.1, h.1.2, fun c hc => by simpa using h.2 c hc⟩
theorem sided_ok {x sd : Str} {d : Nat} (hd : d = 49 ∨ d = 50) (hs : T sd = [d, 46]) (h : wordS x = true) : wordOf 2 (sd ++ x) = true := by
  obtain ⟨h1, h2, h3⟩ := word_tx h
  have e' : T (sd ++ x) = d :: 46 :: T x := by rw [T_app, hs]; rfl
  generalize sd ++ x = z at e'
  have hn : (T z).length = 2 + (T x).length := by rw [e']; simp; omega
  have hz2 : 2 ≤ z.length := by rw [← T_len]; omega
  unfold wordOf
  rw [if_neg (by decide)]
  unfold sidedS
  have s1 : T (Txt.slice z none (some ((2 : Nat) : Int))) = [d, 46] := by rw [slice_to' 2, e']; rfl
  have s2 : T (Txt.slice z (some ((2 : Nat) : Int)) none) = T x := by rw [slice_from hz2, e']; rfl
  have w1 : wordS (Txt.slice z (some ((2 : Nat) : Int)) none) = true := by rw [T_inj s2]; exact h
  have w2 : inV (.str (Txt.slice z none (some ((2 : Nat) : Int)))) [.str "1.", .str "2."] = true := by
    have eq : Txt.slice z none (some ((2 : Nat) : Int)) = Str.ofString "1." ∨ Txt.slice z none (some ((2 : Nat) : Int)) = Str.ofString "2." := by
      rcases hd with rfl | rfl
      · exact .inl (T_inj (by rw [s1]; decide +kernel))
      · exact .inr (T_inj (by rw [s1]; decide +kernel))
    rcases eq with z | z <;> rw [z] <;> decide +kernel
  show (inV (.str (Txt.slice z none (some ((2 : Nat) : Int)))) [.str "1.", .str "2."] && wordS (Txt.slice z (some ((2 : Nat) : Int)) none)) = true
  rw [w1, w2]; rfl
theorem side_T (z : Int) : ∃ d, (d = 49 ∨ d = 50) ∧ T (toString (1 + z % 2)) = [d] := by
  have h : z % 2 = 0 ∨ z % 2 = 1 := by omega
  rcases h with h | h <;> rw [h]
  · exact ⟨49, .inl rfl, by decide +kernel⟩
  · exact ⟨50, .inr rfl, by decide +kernel⟩
theorem side_ok {z : Int} {x : Str} (h : wordS x = true) : wordOf 2 ((toString (1 + z % 2) ++ Str.ofString ".") ++ x) = true := by
  obtain ⟨d, hd, e⟩ := side_T z
  exact sided_ok hd (by rw [T_app, e, show T (Str.ofString ".") = [46] by decide +kernel]; rfl) h
theorem rising_of : ∀ (ts : List Str), sortedS ts = true → ts.Nodup → risingB ts = true := by
  intro ts hs hn
  have go : ∀ (ts : List Str) (i : Nat), sortedS ts = true → i + 1 < ts.length → ltCps (ts.getD (i + 1) "").cps.toList (ts.getD i "").cps.toList = false := by
    intro ts
    induction ts with
    | nil => intro i _ h; simp at h
    | cons a ts ih =>
      intro i h hi
      cases ts with
      | nil => simp at hi
      | cons b ts =>
        have h' : (!ltCps b.cps.toList a.cps.toList && risingS b ts) = true := h
        rw [Bool.and_eq_true] at h'
        cases i with
        | zero => simpa using h'.1
        | succ i => exact ih i h'.2 (by simpa using hi)
  unfold risingB
  rw [List.all_eq_true]
  intro i hi
  have hi' : i + 1 < ts.length := by have := List.mem_range.mp hi; omega
  have h1 := go ts i hs hi'
  rw [ltCps_eq, decide_eq_false_iff_not] at h1
  refine decide_eq_true ?_
  have e1 : ts.getD i "" = ts[i] := by rw [List.getD_eq_getElem?_getD, List.getElem?_eq_getElem (by omega)]; rfl
  have e2 : ts.getD (i + 1) "" = ts[i + 1] := by rw [List.getD_eq_getElem?_getD, List.getElem?_eq_getElem hi']; rfl
  rw [e1, e2] at h1 ⊢
  have hne : ts[i] ≠ ts[i + 1] := fun z => by
    have := (List.pairwise_iff_getElem.mp hn) i (i + 1) (by omega) hi' (by omega)
    exact this z
  have hle : ts[i].cps.toList ≤ ts[i + 1].cps.toList := List.not_lt.mp h1
  rcases Std.le_iff_lt_or_eq.mp hle with z | z
  · exact z
  · exact absurd (T_inj z) hne

theorem let_app1 {x : Str} {c : Nat} (h : LetT (T x)) (hc : c ∈ letters.cps.toList) : LetT (T (x ++ (⟨#[c]⟩ : Str))) := by
  intro d hd
  rw [T_app] at hd
  rcases List.mem_append.mp hd with z | z
  · exact h d z
  · rw [List.mem_singleton.mp z]; exact hc
/-- a new list of n different texts, none longer than b -/
def spTextsN (n : Int) (B : Str → Prop) (H : Hp) (Q : VK) : Prop := ∀ (p : Addr) (H' : Hp) (ss : List Str), Same H H' → H p = none → H' p = some (.lst (ss.map V.str)) → (ss.length : Int) = n → (∀ s ∈ ss, B s) → ss.Nodup → Q (.ref p) H'
def spTextsS (n : Int) (B : Str → Prop) (H : Hp) (Q : VK) : Prop := ∀ (p : Addr) (H' : Hp) (ss : List Str), Same H H' → H p = none → H' p = some (.lst (ss.map V.str)) → (ss.length : Int) = n → (∀ s ∈ ss, B s) → ss.Nodup → sortedS ss = true → Q (.ref p) H'
def spPlainN : Sp := fun vs H Q _ => ∃ (c n : Int), vs = [.int c, .int n] ∧ 0 ≤ n ∧ n ≤ 16 ∧ spTextsN n (fun x => wordS x = true) H Q
def spWordsN : Sp := fun vs H Q _ => ∃ (c n s : Int), vs = [.int c, .int n, .int s] ∧ 0 ≤ n ∧ n ≤ 16 ∧ (s = 1 ∨ s = 2) ∧ spTextsS n (fun x => wordOf s x = true ∧ x.length ≤ 10) H Q
section
variable {P : Program} {w : World} {K : PySem.W.Frag} {mg : Str → Option Value} {base : Heap}
theorem texts_sortedN {H H1 : Hp} {n : Int} {B : Str → Prop} {Q : VK} {ss : List Str} {p : Addr} (q : spTextsS n B H Q) (sm : Same H H1) (hn : (ss.length : Int) = n) (n1 : n ≤ 16) (hb : ∀ s ∈ ss, B s) (nd : ss.Nodup) (hl : SqL K H1 p (ss.map V.str)) :
    ∃ ss : List Str, SqL K H1 p (ss.map V.str) ∧ ss.length < 64 ∧ ∀ (l : Addr) (ts : List Str), H1 l = none → ts.Perm ss → sortedS ts = true → Q (.ref l) (upd H1 l (.lst (ts.map V.str))) :=
  ⟨ss, hl, by omega, fun l ts h1 h2 h3 => q l _ ts (sm.trans (same_new h1 _)) (sm.free h1) upd_same (by rw [h2.length_eq]; exact hn) (fun s hs => hb s (h2.mem_iff.mp hs)) (h2.nodup_iff.mpr nd) h3⟩
theorem ok_plain (D : DefAt K mg "_law_plain_words" s_law_plain_words) (z_range : mg "range" = none) (z_int : mg "int" = none) (c_law_mixed : Cal P w K mg base 1 "_law_mixed" ["_law_cell", "_law_many"] spMixed) :
    Cal P w K mg base 2 "_law_plain_words" ["_law_cell", "_law_many"] spPlainN := by
  refine D.cal sc_law_plain_words (fun _ _ _ _ _ _ us hl => match us, hl with | [_, _], _ => rfl) (fun vs H Q E h => by obtain ⟨c, n, rfl, _⟩ := h; rfl) (fun f cdv A outer s H vs Q E hr h => ?_)
  obtain ⟨c, n, rfl, n0, n1, q⟩ := h
  refine ⟨_, (pss_cons (ps_let 2 sc_law_plain_words.nd (pe_cal c_law_mixed hr (pa_cons (pv 0 (hv := v_law_plain_words__law_cell)) (pa_cons pe_int pa_nil)) (hg := gl_law_plain_words__law_mixed)) (hx := l_law_plain_words__law_xs))
      (pss_cons (ps_if (pt_cmpR op_eqA (pe_op op_mod (pv 0 (hv := v_law_plain_words__law_cell)) pe_int) pe_int (nomark _)) (pss_cons (ps_let 3 sc_law_plain_words.nd (pe_lst (pa_cons pe_str (pa_cons pe_str (pa_cons pe_str (pa_cons pe_str (pa_cons pe_str (pa_cons pe_str (pa_cons pe_str (pa_cons pe_str (pa_cons pe_str (pa_cons pe_str (pa_cons pe_str (pa_cons pe_str (pa_cons pe_str (pa_cons pe_str pa_nil))))))))))))))) (hx := l_law_plain_words__law_menu))
      (pss_cons (ps_let 3 sc_law_plain_words.nd (pe_op op_addA (pv 3 (hv := v_law_plain_words__law_menu)) (pe_lst (pa_cons pe_str (pa_cons pe_str pa_nil)))) (hx := l_law_plain_words__law_menu))
      (pss_one (ps_ret (pe_comp (CompSc.to (fsc := (defScope s_law_plain_words)) (N := ["_law_cell", "_law_many", "_law_xs", "_law_menu", "_law_letters", "_law_size", "_law_at", "_law_words_here", "_law_k", "_law_word", "_law_j"]) (N0 := ["_law_cell", "_law_many", "_law_xs", "_law_menu", "_law_letters", "_law_size", "_law_at", "_law_words_here", "_law_k'", "_law_word", "_law_j"]) (T := ["_law_k"]) ⟨by decide +kernel, by decide +kernel, by decide +kernel, by decide +kernel, by decide +kernel, by decide +kernel, by decide +kernel⟩ rfl rfl) rfl (pi_range1 gl_law_plain_words_range z_range (pa_cons (pv 1 (hv := v_law_plain_words__law_many)) pa_nil)) (fun _ _ _ _ => (pg_let 11 (show (["_law_cell", "_law_many", "_law_xs", "_law_menu", "_law_letters", "_law_size", "_law_at", "_law_words_here", "_law_k'", "_law_word", "_law_j", "_law_k"] : List Str).Nodup from by decide +kernel) (hx := (locC (defScope s_law_plain_words) (by decide +kernel))) (hf := fnC (defScope s_law_plain_words) (by decide +kernel)))) (gfr_name (show (["_law_cell", "_law_many", "_law_xs", "_law_menu", "_law_letters", "_law_size", "_law_at", "_law_words_here", "_law_k", "_law_word", "_law_j"] : List Str).length ≤ 11 from by decide)) (fun _ _ _ _ => pifs_nil) (fun _ _ _ _ => (pe_ix (ix_K K) (pv 3 (hv := (visC (defScope s_law_plain_words) (by decide +kernel)))) (pe_op op_mod (pe_op op_addA (pe_ix (ix_K K) (pv 2 (hv := (visC (defScope s_law_plain_words) (by decide +kernel)))) pe_int (fun _ _ => rfl)) (pv 11 (hv := (visC (defScope s_law_plain_words) (by decide +kernel))))) pe_int) (fun _ _ => rfl)))))))) pss_nil)
      (pss_cons (ps_let 4 sc_law_plain_words.nd pe_str (hx := l_law_plain_words__law_letters))
      (pss_cons (ps_let 5 sc_law_plain_words.nd (pe_op op_addA pe_int (pe_op op_mod (pe_ix (ix_K K) (pv 2 (hv := v_law_plain_words__law_xs)) pe_int (fun _ _ => rfl)) pe_int)) (hx := l_law_plain_words__law_size))
      (pss_cons (ps_let 6 sc_law_plain_words.nd (pe_op op_mod (pe_ix (ix_K K) (pv 2 (hv := v_law_plain_words__law_xs)) pe_int (fun _ _ => rfl)) (pv 5 (hv := v_law_plain_words__law_size))) (hx := l_law_plain_words__law_at))
      (pss_cons (ps_let 7 sc_law_plain_words.nd (pe_lst pa_nil) (hx := l_law_plain_words__law_words_here))
      (pss_cons (ps_for PassesOwn.never rfl (pi_range1 gl_law_plain_words_range z_range (pa_cons (pv 1 (hv := v_law_plain_words__law_many)) pa_nil)) (pg_let 8 sc_law_plain_words.nd (hx := l_law_plain_words__law_k)) (pss_cons (ps_if (pt_cmpR op_eqA (pe_op op_mod (pv 0 (hv := v_law_plain_words__law_cell)) pe_int) pe_int (nomark _)) (pss_cons (ps_let 9 sc_law_plain_words.nd (pe_ix (ix_K K) (pv 4 (hv := v_law_plain_words__law_letters)) (pe_op op_mod (pe_op op_addA (pe_ix (ix_K K) (pv 2 (hv := v_law_plain_words__law_xs)) pe_int (fun _ _ => rfl)) (pe_op op_mulB pe_int (pe_op op_fdiv (pv 8 (hv := v_law_plain_words__law_k)) pe_int))) pe_int) (fun _ _ => rfl)) (hx := l_law_plain_words__law_word))
      (pss_one (ps_for PassesOwn.never rfl (pi_range1 gl_law_plain_words_range z_range (pa_cons (pe_op op_mod (pv 8 (hv := v_law_plain_words__law_k)) pe_int) pa_nil)) (pg_let 10 sc_law_plain_words.nd (hx := l_law_plain_words__law_j)) (pss_one (ps_let 9 sc_law_plain_words.nd (pe_op op_addA (pv 9 (hv := v_law_plain_words__law_word)) (pe_ix (ix_K K) (pv 4 (hv := v_law_plain_words__law_letters)) (pe_op op_mod (pe_ix (ix_K K) (pv 2 (hv := v_law_plain_words__law_xs)) (pe_op op_addA pe_int (pv 10 (hv := v_law_plain_words__law_j))) (fun _ _ => rfl)) pe_int) (fun _ _ => rfl))) (hx := l_law_plain_words__law_word)))))) (pss_cons (ps_let 9 sc_law_plain_words.nd pe_str (hx := l_law_plain_words__law_word))
      (pss_one (ps_for PassesOwn.never rfl (pi_range1 gl_law_plain_words_range z_range (pa_cons (pv 5 (hv := v_law_plain_words__law_size)) pa_nil)) (pg_let 10 sc_law_plain_words.nd (hx := l_law_plain_words__law_j)) (pss_one (ps_let 9 sc_law_plain_words.nd (pe_op op_addA (pv 9 (hv := v_law_plain_words__law_word)) (pe_ix (ix_K K) (pv 4 (hv := v_law_plain_words__law_letters)) (pe_op op_mod (pe_op op_addA (pe_ix (ix_K K) (pv 2 (hv := v_law_plain_words__law_xs)) (pe_op op_addA pe_int (pv 10 (hv := v_law_plain_words__law_j))) (fun _ _ => rfl)) (pe_op op_mulB (pv 8 (hv := v_law_plain_words__law_k)) (pe_bty call_intA z_int bt_int (pa_cons (pe_cmpR op_eqA (pv 10 (hv := v_law_plain_words__law_j)) (pv 6 (hv := v_law_plain_words__law_at)) (nomark _)) pa_nil) (hg := gl_law_plain_words_int)))) pe_int) (fun _ _ => rfl))) (hx := l_law_plain_words__law_word)))))))
      (pss_one (ps_expr (pe_bmK K PySem.F.plainAttrs_list PySem.F.slot_list_append PySem.F.type_list_append mt_appendA (pv 7 (hv := v_law_plain_words__law_words_here)) (pa_cons (pv 9 (hv := v_law_plain_words__law_word)) pa_nil))))))
      (pss_one (ps_ret (pv 7 (hv := v_law_plain_words__law_words_here))))))))))), ?_⟩
  walk_at "rd1"
  refine ⟨c, 10, rfl, by decide, by decide, fun xp H1 ms sm1 hxp hxl hxn hxb => ?_⟩
  have item : ∀ {H' : Hp} {i : Int}, Same H1 H' → 0 ≤ i → i < 10 → ∃ v : Int, ∃ xs v', (SqL K H' xp xs ∨ SqT K H' xp xs) ∧ atI xs i = some v' ∧ v' = .int v := fun {H' i} sm h0 h1 => by
    obtain ⟨v, _, hv⟩ := at_lst (xs := ms) h0 (by omega)
    exact ⟨v, _, _, .inl (SqL.of (sm _ _ hxl)), at_map h0 ‹_›, rfl⟩
  obtain ⟨v0, hv0⟩ : ∃ v, ms[0]? = some v := ⟨ms[0], List.getElem?_eq_getElem (by omega)⟩
  obtain ⟨v1, hv1⟩ : ∃ v, ms[1]? = some v := ⟨ms[1], List.getElem?_eq_getElem (by omega)⟩
  walk_at "nx"
  refine ⟨by decide, ite2 (fun c0 => ?_) (fun c0 => ?_)⟩
  · refine ⟨by decide, fun mp hmp => ?_⟩
    generalize hH2 : upd H1 mp _ = H2
    have sm2 := al_same hH2 hmp
    have e2 := al_at hH2
    walk_at "nx"
    refine ⟨by decide, fun np hnp => ?_⟩
    generalize hH3 : upd H2 np _ = H3
    have sm3 := al_same hH3 hnp
    have e3 := al_at hH3
    refine ⟨_, _, sm3 _ _ e2, e3, by decide, fun pp hpp => ?_⟩
    generalize hH4 : upd H3 pp _ = H4
    have sm4 := al_same hH4 hpp
    have e4 : H4 pp = some (.lst ((["open", "close", "read", "write", "lend", "back", "end", "a", "b", "ab", "ba", "do", "tie", "copy", "if", "zzzzzzzz"] : List Str).map V.str)) := al_at hH4
    have hm : ∀ s ∈ (["open", "close", "read", "write", "lend", "back", "end", "a", "b", "ab", "ba", "do", "tie", "copy", "if", "zzzzzzzz"] : List Str), wordS s = true := by decide +kernel
    have hm16 : (["open", "close", "read", "write", "lend", "back", "end", "a", "b", "ab", "ba", "do", "tie", "copy", "if", "zzzzzzzz"] : List Str).length = 16 := rfl
    have hmd : (["open", "close", "read", "write", "lend", "back", "end", "a", "b", "ab", "ba", "do", "tie", "copy", "if", "zzzzzzzz"] : List Str).Nodup := by decide +kernel
    revert e4 hm hm16 hmd
    generalize (["open", "close", "read", "write", "lend", "back", "end", "a", "b", "ab", "ba", "do", "tie", "copy", "if", "zzzzzzzz"] : List Str) = menu
    intro e4 hm hm16 hmd
    walk_at "nx"
    refine ⟨by omega, by omega, fun L hL => ?_⟩
    have sm14 : Same H1 H4 := (sm2.trans sm3).trans sm4
    refine compW_range (fun i ys H' => ∃ ss : List Str, Same H4 H' ∧ H' L = some (.lst ys) ∧ ys = ss.map V.str ∧ ss.length = i ∧ (∀ s ∈ ss, wordS s = true) ∧ ∀ (k : Nat) s, ss[k]? = some s → menu[((v0 + (0 + (k : Int))) % 16).toNat]? = some s) ⟨[], same_new hL _, upd_same, rfl, rfl, by simp, by simp⟩ ?_ ?_
    · rintro i ys H' hi ⟨ss, sm, hl, rfl, hn, hb, hk⟩
      walk_at "rd1"
      refine ⟨_, _, .inl (SqL.of ((sm14.trans sm) _ _ hxl)), at_map (by decide) hv0, ?_⟩
      walk_at "rd1"
      obtain ⟨w', hw, hw'⟩ := at_lst (xs := menu) (i := (v0 + (0 + (i : Int))) % 16) (by omega) (by omega)
      refine ⟨by decide, _, .str w', .inl (SqL.of (sm _ _ e4)), at_map (by omega) hw, ?_⟩
      refine cstep hi (by rw [List.length_map]; exact hn) (smallL (by omega)) hl ⟨ss ++ [w'], sm.upd hL _, ?_, ?_, by simp [hn], fun s hs => ?_, key_push hn hk hw⟩
      · rw [upd_same]
      · rw [List.map_append]; rfl
      · rcases List.mem_append.mp hs with z | z
        · exact hb s z
        · rw [List.mem_singleton.mp z]; exact hm _ (List.mem_of_getElem? hw)
    · rintro ys H' ⟨ss, sm, hl, rfl, hn, hb, hk⟩
      refine q L H' ss (sm1.trans (sm14.trans sm)) (sm1.free (sm14.free hL)) hl (by omega) hb (nodup_key hk fun i j s hi hj e1 e2 => ?_)
      have e3 := at_inj hmd e1 e2
      omega
  · walk_at "nx"
    walk_at "nx"
    refine ⟨_, _, .inl (SqL.of hxl), at_map (by decide) hv0, ?_⟩
    walk_at "rd1"
    refine ⟨by decide, ?_⟩
    walk_at "nx"
    obtain ⟨v9, xs, v', h1, h2, rfl⟩ := item (Same.refl H1) (show (0 : Int) ≤ 9 by decide) (by decide)
    refine ⟨xs, _, h1, h2, ?_⟩
    walk_at "rd1"
    refine ⟨by omega, ?_⟩
    generalize hsz : 1 + v0 % 8 = sz
    have sz0 : 1 ≤ sz := by omega
    have sz1 : sz ≤ 8 := by omega
    have at0 : 0 ≤ v9 % sz := Int.emod_nonneg _ (by omega)
    have at1 : v9 % sz < sz := Int.emod_lt_of_pos _ (by omega)
    generalize v9 % sz = at9 at at0 at1 ⊢
    obtain ⟨xa, hxa⟩ : ∃ v, ms[(1 + at9).toNat]? = some v := ⟨ms[(1 + at9).toNat], List.getElem?_eq_getElem (by omega)⟩
    walk_at "nx"
    refine ⟨by decide, fun L hL => ?_⟩
    generalize hH2 : upd H1 L _ = H2
    have sm2 := al_same hH2 hL
    have e2 := al_at hH2
    walk_at "nx"
    refine ⟨by omega, by omega, ?_⟩
    refine forW_range (fun i σ H' => ∃ (ss : List Str) (o8 o9 o10 : Option V), σ = [some (.int c), some (.int n), some (.ref xp), none, some (.str letters), some (.int sz), some (.int at9), some (.ref L), o8, o9, o10] ∧ Same H1 H' ∧ H' L = some (.lst (ss.map V.str)) ∧ ss.length = i ∧ (∀ s ∈ ss, wordS s = true) ∧ ∀ (k : Nat) s, ss[k]? = some s → WKey (decide (c % 3 = 1)) v1 xa at9.toNat k s)
      ⟨[], none, none, none, rfl, sm2, e2, rfl, by simp, by simp⟩ ?_ ?_
    · rintro i σ H' hi ⟨ss, o8, o9, o10, rfl, sm, hl, hn, hb, hky⟩
      refine seq_by (fun σ' H2' => ∃ (wd : Str) (o10 : Option V), σ' = [some (.int c), some (.int n), some (.ref xp), none, some (.str letters), some (.int sz), some (.int at9), some (.ref L), some (.int (0 + (i : Int))), some (.str wd), o10] ∧ H' = H2' ∧ wordS wd = true ∧ WKey (decide (c % 3 = 1)) v1 xa at9.toNat i wd) (fun k hk => ?_) ?_
      · walk_at "rd1"
        refine ⟨by decide, ite2 (fun c1 => ?_) (fun c1 => ?_)⟩
        · refine ⟨_, _, .inl (SqL.of (sm _ _ hxl)), at_map (by decide) hv1, ⟨by decide, by decide⟩, .inl ⟨by decide, by decide⟩, ?_⟩
          have z1 := letters_small
          have z2 := lc_at (v1 + 13 * ((0 + (i : Int)) / 8))
          walk_at "rd1"
          refine ⟨by decide, _, z1, z2, ?_⟩
          walk_at "nx"
          refine ⟨by decide, by omega, by omega, ?_⟩
          refine forW_range (fun j σ H2' => ∃ (wd : Str) (o10 : Option V), σ = [some (.int c), some (.int n), some (.ref xp), none, some (.str letters), some (.int sz), some (.int at9), some (.ref L), some (.int (0 + (i : Int))), some (.str wd), o10] ∧ H' = H2' ∧ wd.length = j + 1 ∧ LetT (T wd) ∧ (T wd)[0]? = some (lc (v1 + 13 * ((0 + (i : Int)) / 8))))
            ⟨_, o10, rfl, rfl, rfl, fun c hc => by rw [List.mem_singleton.mp hc]; exact lc_mem _, rfl⟩ ?_ ?_
          · rintro j σ H2' hj ⟨wd, o10, rfl, rfl, hw, hwl, hw0⟩
            walk_at "rd1"
            obtain ⟨v2, xs, v', h1, h2, rfl⟩ := item sm (show (0 : Int) ≤ 2 + (0 + (j : Int)) by omega) (by omega)
            refine ⟨xs, _, h1, h2, ?_⟩
            obtain ⟨c', z1, z2, z3⟩ := letter_at v2
            walk_at "rd1"
            refine ⟨by decide, c', z1, z2, ?_⟩
            exact ⟨by rw [hw]; exact smallL (by show j + 1 + 1 ≤ _; omega), _, _, rfl, by rw [len_app1, hw], let_app1 hwl z3, at_app1 _ hw0⟩
          · rintro σ H2' ⟨wd, o10, rfl, rfl, hw, hwl, hw0⟩
            refine hk _ _ ⟨wd, o10, rfl, rfl, wordS_of (by rw [T_len]; omega) (by rw [T_len]; omega) hwl, ?_⟩
            rw [decide_eq_true c1]
            exact ⟨by omega, by rw [hw0, Int.zero_add]⟩
        · walk_at "nx"
          refine ⟨by omega, by omega, ?_⟩
          refine forW_range (fun j σ H2' => ∃ (wd : Str) (o10 : Option V), σ = [some (.int c), some (.int n), some (.ref xp), none, some (.str letters), some (.int sz), some (.int at9), some (.ref L), some (.int (0 + (i : Int))), some (.str wd), o10] ∧ H' = H2' ∧ wd.length = j ∧ LetT (T wd) ∧ (at9 < (j : Int) → (T wd)[at9.toNat]? = some (lc (xa + (0 + (i : Int))))))
            ⟨_, o10, rfl, rfl, rfl, (fun c hc => nomatch hc), fun h => absurd h (by omega)⟩ ?_ ?_
          · rintro j σ H2' hj ⟨wd, o10, rfl, rfl, hw, hwl, hw0⟩
            walk_at "rd1"
            obtain ⟨v2, hv2⟩ : ∃ v, ms[(1 + (0 + (j : Int))).toNat]? = some v := ⟨ms[(1 + (0 + (j : Int))).toNat], List.getElem?_eq_getElem (by omega)⟩
            refine ⟨_, _, .inl (SqL.of (sm _ _ hxl)), at_map (by omega) hv2, .inl ⟨by omega, by omega⟩, ?_⟩
            walk_at "rd1"
            have z1 := letters_small
            have z2 := lc_at (v2 + (0 + (i : Int)) * if decide (0 + (j : Int) = at9) = true then 1 else 0)
            refine ⟨by decide, _, z1, by simpa using z2, ?_⟩
            refine ⟨by rw [hw]; exact smallL (by show j + 1 ≤ _; omega), _, _, rfl, by rw [len_app1, hw], let_app1 hwl (lc_mem _), fun hlt => ?_⟩
            rcases Int.lt_or_le at9 (j : Int) with z | z
            · exact at_app1 _ (hw0 z)
            · have ej : at9 = 0 + (j : Int) := by omega
              have ev : v2 = xa := by rw [← ej, hxa] at hv2; exact (Option.some.inj hv2).symm
              rw [if_pos (by simpa using ej.symm), Int.mul_one, ev, show at9.toNat = j by omega, ← hw, Int.zero_add]
              exact at_last _ _
          · rintro σ H2' ⟨wd, o10, rfl, rfl, hw, hwl, hw0⟩
            refine hk _ _ ⟨wd, o10, rfl, rfl, wordS_of (by rw [T_len]; omega) (by rw [T_len]; omega) hwl, ?_⟩
            rw [decide_eq_false c1]
            show (T wd)[at9.toNat]? = some (lc (xa + (i : Int)))
            rw [hw0 (by omega), Int.zero_add]
      · rintro σ' H2' ⟨wd, o10', rfl, rfl, hw, hwk⟩
        walk_at "nx"
        refine ⟨⟨_, SqL.of hl⟩, _, hl, by rw [List.length_map]; exact small' (by omega), ?_⟩
        refine ⟨ss ++ [wd], _, _, _, rfl, sm.upd hL _, ?_, by simp [hn], fun s hs => ?_, key_push hn hky hwk⟩
        · rw [upd_same, List.map_append]; rfl
        · rcases List.mem_append.mp hs with z | z
          · exact hb s z
          · rw [List.mem_singleton.mp z]; exact hw
    · rintro σ H' ⟨ss, o8, o9, o10, rfl, sm, hl, hn, hb, hky⟩
      walk_at "nx"
      exact q L H' ss (sm1.trans sm) (sm1.free hL) hl (by omega) hb (nodup_key hky fun i j s hi hj e1 e2 => wkey_inj (by omega) (by omega) e1 e2)
def SKey (ws : List Str) (d : Nat) (i : Nat) (s : Str) : Prop := ∃ (a : List Nat) (v : Str), a.length = 1 ∧ (d = 2 → a = T (toString (1 + (i : Int) % 2))) ∧ (d = 1 ∨ d = 2) ∧ ws[i / d]? = some v ∧ T s = a ++ [46] ++ T v
theorem dot1 : T (Str.ofString ".") = [46] := by decide +kernel
theorem skey2 {ws : List Str} {i : Nat} {v : Str} (h : ws[((0 + (i : Int)) / 2).toNat]? = some v) : SKey ws 2 i ((toString (1 + (0 + (i : Int)) % 2) ++ Str.ofString ".") ++ v) := by
  refine ⟨T (toString (1 + (i : Int) % 2)), v, ?_, fun _ => rfl, .inr rfl, ?_, ?_⟩
  · rw [T_len]; exact (side_str _).2
  · rw [← h]; congr 1; omega
  · rw [T_app, T_app, dot1, Int.zero_add]
theorem skey1 {ws : List Str} {i : Nat} {u v : Str} (hu : u.length = 1) (h : ws[(0 + (i : Int)).toNat]? = some v) : SKey ws 1 i ((u ++ Str.ofString ".") ++ v) := by
  refine ⟨T u, v, ?_, fun z => absurd z (by decide), .inl rfl, ?_, ?_⟩
  · rw [T_len]; exact hu
  · rw [← h]; congr 1; omega
  · rw [T_app, T_app, dot1]
theorem skey_inj {ws : List Str} (nd : ws.Nodup) {d i j : Nat} {s : Str} (h1 : SKey ws d i s) (h2 : SKey ws d j s) : i = j := by
  obtain ⟨a, v, l1, p1, hd, e1, t1⟩ := h1
  obtain ⟨b, u, l2, p2, _, e2, t2⟩ := h2
  have e := t1.symm.trans t2
  rw [List.append_assoc, List.append_assoc] at e
  obtain ⟨ea, eb⟩ := List.append_inj e (by omega)
  have ev : T v = T u := by simpa using eb
  have ev' := T_inj ev
  subst ev'
  have hi := at_inj nd e1 e2
  rcases hd with rfl | rfl
  · simpa using hi
  · have z1 := p1 rfl
    have z2 := p2 rfl
    rw [z1, z2] at ea
    have h12 : T (toString (1 : Int)) ≠ T (toString (2 : Int)) := by decide +kernel
    have c1 : (i : Int) % 2 = 0 ∨ (i : Int) % 2 = 1 := by omega
    have c2 : (j : Int) % 2 = 0 ∨ (j : Int) % 2 = 1 := by omega
    have hm : (i : Int) % 2 = (j : Int) % 2 := by
      rcases c1 with c1 | c1 <;> rcases c2 with c2 | c2 <;> rw [c1, c2] at ea ⊢
      · exact absurd ea h12
      · exact absurd ea.symm h12
    omega
theorem ok_words (D : DefAt K mg "_law_words" s_law_words) (z_range : mg "range" = none) (z_sorted : mg "sorted" = none) (z_str : mg "str" = none) (c_law_mixed : Cal P w K mg base 1 "_law_mixed" ["_law_cell", "_law_many"] spMixed)
    (c_law_plain_words : Cal P w K mg base 2 "_law_plain_words" ["_law_cell", "_law_many"] spPlainN) : Cal P w K mg base 3 "_law_words" ["_law_cell", "_law_many", "_law_sides"] spWordsN := by
  refine D.cal sc_law_words (fun _ _ _ _ _ _ us hl => match us, hl with | [_, _, _], _ => rfl) (fun vs H Q E h => by obtain ⟨c, n, s, rfl, _⟩ := h; rfl) (fun f cdv A outer s H vs Q E hr h => ?_)
  obtain ⟨c, n, si, rfl, n0, n1, hsi, q⟩ := h
  refine ⟨_, (pss_cons (ps_let 3 sc_law_words.nd (pe_cal c_law_plain_words hr (pa_cons (pe_op op_fdiv (pv 0 (hv := v_law_words__law_cell)) pe_int) (pa_cons (pv 1 (hv := v_law_words__law_many)) pa_nil)) (hg := gl_law_words__law_plain_words)) (hx := l_law_words__law_words_here))
      (pss_cons (ps_if (pt_cmpR op_eqA (pv 2 (hv := v_law_words__law_sides)) pe_int (nomark _)) (pss_one (ps_ret (pe_blt (call_sortS K) z_sorted bt_sorted (pa_cons (pv 3 (hv := v_law_words__law_words_here)) pa_nil) (hg := gl_law_words_sorted)))) pss_nil)
      (pss_cons (ps_if (pt_cmpR op_eqA (pe_op op_mod (pv 0 (hv := v_law_words__law_cell)) pe_int) pe_int (nomark _)) (pss_one (ps_ret (pe_blt (call_sortS K) z_sorted bt_sorted (pa_cons (pe_comp (CompSc.to (fsc := (defScope s_law_words)) (N := ["_law_cell", "_law_many", "_law_sides", "_law_words_here", "_law_xs"]) (N0 := ["_law_cell", "_law_many", "_law_sides", "_law_words_here", "_law_xs"]) (T := ["_law_k"]) ⟨by decide +kernel, by decide +kernel, by decide +kernel, by decide +kernel, by decide +kernel, by decide +kernel, by decide +kernel⟩ rfl rfl) rfl (pi_range1 gl_law_words_range z_range (pa_cons (pv 1 (hv := v_law_words__law_many)) pa_nil)) (fun _ _ _ _ => (pg_let 5 (show (["_law_cell", "_law_many", "_law_sides", "_law_words_here", "_law_xs", "_law_k"] : List Str).Nodup from by decide +kernel) (hx := (locC (defScope s_law_words) (by decide +kernel))) (hf := fnC (defScope s_law_words) (by decide +kernel)))) (gfr_name (show (["_law_cell", "_law_many", "_law_sides", "_law_words_here", "_law_xs"] : List Str).length ≤ 5 from by decide)) (fun _ _ _ _ => pifs_nil) (fun _ _ _ _ => (pe_op op_addA (pe_op op_addA (pe_bty call_strI z_str bt_str (pa_cons (pe_op op_addA pe_int (pe_op op_mod (pv 5 (hv := (visC (defScope s_law_words) (by decide +kernel)))) pe_int)) pa_nil) (hg := (glC (defScope s_law_words) (by decide +kernel)))) pe_str) (pe_ix (ix_K K) (pv 3 (hv := (visC (defScope s_law_words) (by decide +kernel)))) (pe_op op_fdiv (pv 5 (hv := (visC (defScope s_law_words) (by decide +kernel)))) pe_int) (fun _ _ => rfl))))) pa_nil) (hg := gl_law_words_sorted)))) pss_nil)
      (pss_cons (ps_let 4 sc_law_words.nd (pe_cal c_law_mixed hr (pa_cons (pe_op op_fdiv (pv 0 (hv := v_law_words__law_cell)) pe_int) (pa_cons (pv 1 (hv := v_law_words__law_many)) pa_nil)) (hg := gl_law_words__law_mixed)) (hx := l_law_words__law_xs))
      (pss_one (ps_ret (pe_blt (call_sortS K) z_sorted bt_sorted (pa_cons (pe_comp (CompSc.to (fsc := (defScope s_law_words)) (N := ["_law_cell", "_law_many", "_law_sides", "_law_words_here", "_law_xs"]) (N0 := ["_law_cell", "_law_many", "_law_sides", "_law_words_here", "_law_xs"]) (T := ["_law_k"]) ⟨by decide +kernel, by decide +kernel, by decide +kernel, by decide +kernel, by decide +kernel, by decide +kernel, by decide +kernel⟩ rfl rfl) rfl (pi_range1 gl_law_words_range z_range (pa_cons (pv 1 (hv := v_law_words__law_many)) pa_nil)) (fun _ _ _ _ => (pg_let 5 (show (["_law_cell", "_law_many", "_law_sides", "_law_words_here", "_law_xs", "_law_k"] : List Str).Nodup from by decide +kernel) (hx := (locC (defScope s_law_words) (by decide +kernel))) (hf := fnC (defScope s_law_words) (by decide +kernel)))) (gfr_name (show (["_law_cell", "_law_many", "_law_sides", "_law_words_here", "_law_xs"] : List Str).length ≤ 5 from by decide)) (fun _ _ _ _ => pifs_nil) (fun _ _ _ _ => (pe_op op_addA (pe_op op_addA (pe_bty call_strI z_str bt_str (pa_cons (pe_op op_addA pe_int (pe_op op_mod (pe_op op_fdiv (pe_ix (ix_K K) (pv 4 (hv := (visC (defScope s_law_words) (by decide +kernel)))) (pv 5 (hv := (visC (defScope s_law_words) (by decide +kernel)))) (fun _ _ => rfl)) pe_int) pe_int)) pa_nil) (hg := (glC (defScope s_law_words) (by decide +kernel)))) pe_str) (pe_ix (ix_K K) (pv 3 (hv := (visC (defScope s_law_words) (by decide +kernel)))) (pv 5 (hv := (visC (defScope s_law_words) (by decide +kernel)))) (fun _ _ => rfl))))) pa_nil) (hg := gl_law_words_sorted)))))))), ?_⟩
  walk_at "rd1"
  refine ⟨⟨by decide, by decide⟩, _, n, rfl, n0, n1, fun wp H1 ws sm1 hwp hwl hwn hwb hwd => ?_⟩
  have word : ∀ {H' : Hp} {i : Int}, Same H1 H' → 0 ≤ i → i < n → ∃ v : Str, wordS v = true ∧ ws[i.toNat]? = some v ∧ ∃ xs v', (SqL K H' wp xs ∨ SqT K H' wp xs) ∧ atI xs i = some v' ∧ v' = .str v := fun {H' i} sm h0 h1 => by
    obtain ⟨v, hv, _⟩ := at_lst (xs := ws) h0 (by omega)
    exact ⟨v, hwb v (List.mem_of_getElem? hv), hv, _, _, .inl (SqL.of (sm _ _ hwl)), at_map h0 hv, rfl⟩
  walk_at "nx"
  refine ite2 (fun c0 => ?_) (fun c0 => ?_)
  · exact texts_sortedN q sm1 hwn n1 (fun s hs => ⟨by rw [c0]; exact hwb s hs, by have := (word_tx (hwb s hs)).2.1; rw [T_len] at this; omega⟩) hwd (SqL.of hwl)
  walk_at "nx"
  refine ⟨by decide, ite2 (fun c1 => ?_) (fun c1 => ?_)⟩
  · refine ⟨by omega, by omega, fun L hL => ?_⟩
    refine compW_range (fun i ys H' => ∃ ss : List Str, Same H1 H' ∧ H' L = some (.lst ys) ∧ ys = ss.map V.str ∧ ss.length = i ∧ (∀ s ∈ ss, wordOf 2 s = true ∧ s.length ≤ 10) ∧ ∀ (k : Nat) s, ss[k]? = some s → SKey ws 2 k s) ⟨[], same_new hL _, upd_same, rfl, rfl, by simp, by simp⟩ ?_ ?_
    · rintro i ys H' hi ⟨ss, sm, hl, rfl, hn, hb, hky⟩
      walk_at "rd1"
      obtain ⟨s1, s2⟩ := side_str (0 + (i : Int))
      obtain ⟨v, hv, hvx, xs, v', h1, h2, rfl⟩ := word sm (show (0 : Int) ≤ (0 + (i : Int)) / 2 by omega) (by omega)
      obtain ⟨l1, l2⟩ := sided_len s2 (by have := (word_tx hv).2.1; rw [T_len] at this; exact this)
      refine ⟨by decide, s1, ?_, ⟨by decide, by decide⟩, xs, _, h1, h2, ?_⟩
      · rw [← Str.length_append, l1]; exact smallL (by omega)
      walk_at "rd1"
      refine ⟨?_, cstep hi (by rw [List.length_map]; exact hn) (smallL (by omega)) hl ⟨_, sm.upd hL _, upd_same, map_push _ _, len_push hn, all_push hb ⟨side_ok hv, l2⟩, key_push hn hky (skey2 hvx)⟩⟩
      rw [← Str.length_append]; exact smallL (by omega)
    · rintro ys H' ⟨ss, sm, hl, rfl, hn, hb, hky⟩
      walk_at "rd1"
      exact texts_sortedN q (sm1.trans sm) (by omega) n1 (by rw [show si = 2 by omega]; exact hb) (nodup_key hky fun i j s _ _ e1 e2 => skey_inj hwd e1 e2) (SqL.of hl)
  walk_at "nx"
  refine ⟨⟨by decide, by decide⟩, _, n, rfl, n0, by omega, fun xp H2 ms sm2 hxp hxl hxn hxb => ?_⟩
  walk_at "nx"
  refine ⟨by omega, by omega, fun L hL => ?_⟩
  refine compW_range (fun i ys H' => ∃ ss : List Str, Same H2 H' ∧ H' L = some (.lst ys) ∧ ys = ss.map V.str ∧ ss.length = i ∧ (∀ s ∈ ss, wordOf 2 s = true ∧ s.length ≤ 10) ∧ ∀ (k : Nat) s, ss[k]? = some s → SKey ws 1 k s) ⟨[], same_new hL _, upd_same, rfl, rfl, by simp, by simp⟩ ?_ ?_
  · rintro i ys H' hi ⟨ss, sm, hl, rfl, hn, hb, hky⟩
    walk_at "rd1"
    obtain ⟨m, hm, _⟩ := at_lst (xs := ms) (i := 0 + (i : Int)) (by omega) (by omega)
    refine ⟨_, _, .inl (SqL.of (sm _ _ hxl)), at_map (by omega) hm, ?_⟩
    walk_at "rd1"
    obtain ⟨s1, s2⟩ := side_str (m / 8)
    obtain ⟨v, hv, hvx, xs, v', h1, h2, rfl⟩ := word (sm2.trans sm) (show (0 : Int) ≤ 0 + (i : Int) by omega) (by omega)
    obtain ⟨l1, l2⟩ := sided_len s2 (by have := (word_tx hv).2.1; rw [T_len] at this; exact this)
    refine ⟨⟨by decide, by decide⟩, by decide, s1, ?_, xs, _, h1, h2, ?_⟩
    · rw [← Str.length_append, l1]; exact smallL (by omega)
    walk_at "rd1"
    refine ⟨?_, cstep hi (by rw [List.length_map]; exact hn) (smallL (by omega)) hl ⟨_, sm.upd hL _, upd_same, map_push _ _, len_push hn, all_push hb ⟨side_ok hv, l2⟩, key_push hn hky (skey1 s2 hvx)⟩⟩
    rw [← Str.length_append]; exact smallL (by omega)
  · rintro ys H' ⟨ss, sm, hl, rfl, hn, hb, hky⟩
    walk_at "rd1"
    exact texts_sortedN q (sm1.trans (sm2.trans sm)) (by omega) n1 (by rw [show si = 2 by omega]; exact hb) (nodup_key hky fun i j s _ _ e1 e2 => skey_inj hwd e1 e2) (SqL.of hl)
end
/-! ### what is a rule, of anything -/
def Thing (H : Hp) : V → Prop
  | .non => True
  | .bl _ => True
  | .int _ => True
  | .str y => y.length ≤ 1000
  | .ref a => (∃ xs : List V, (H a = some (.lst xs) ∨ H a = some (.tup xs)) ∧ xs.length ≤ 1000) ∨ ∃ kvs, H a = some (.dK kvs)
  | _ => False
def DT : Nat → Hp → V → Prop
  | 0, H, x => Thing H x
  | n + 1, H, x => Thing H x ∧ ∀ a xs, x = .ref a → (H a = some (.lst xs) ∨ H a = some (.tup xs)) → ∀ y ∈ xs, DT n H y
theorem DT.th {n : Nat} {H : Hp} {x : V} (h : DT n H x) : Thing H x := by
  cases n with
  | zero => exact h
  | succ n => exact h.1
theorem Thing.mono {H H' : Hp} (sm : Same H H') {x : V} (h : Thing H x) : Thing H' x := by
  cases x with
  | ref a =>
    rcases h with ⟨xs, h | h, hl⟩ | ⟨k, h⟩
    · exact .inl ⟨xs, .inl (sm _ _ h), hl⟩
    · exact .inl ⟨xs, .inr (sm _ _ h), hl⟩
    · exact .inr ⟨k, sm _ _ h⟩
  | _ => exact h
theorem Thing.seq {H H' : Hp} (sm : Same H H') {a : Addr} (h : Thing H (.ref a)) {xs : List V} (e : H' a = some (.lst xs) ∨ H' a = some (.tup xs)) : H a = some (.lst xs) ∨ H a = some (.tup xs) := by
  rcases h with ⟨ys, h | h, _⟩ | ⟨k, h⟩
  · have := sm _ _ h
    rw [this] at e
    rcases e with e | e <;> cases e
    exact .inl h
  · have := sm _ _ h
    rw [this] at e
    rcases e with e | e <;> cases e
    exact .inr h
  · have := sm _ _ h
    rw [this] at e
    rcases e with e | e <;> cases e
theorem DT.mono {H H' : Hp} (sm : Same H H') : ∀ {n : Nat} {x : V}, DT n H x → DT n H' x
  | 0, x, h => Thing.mono sm h
  | n + 1, x, h => ⟨Thing.mono sm h.1, fun a xs e he y hy => by subst e; exact DT.mono sm (h.2 a xs rfl (Thing.seq sm h.1 he) y hy)⟩
theorem th_list {H : Hp} {x : V} (h : Thing H x) : (∃ a xs, x = .ref a ∧ H a = some (.lst xs) ∧ xs.length ≤ 1000 ∧ tyName H x = some "list") ∨ ∃ T, tyName H x = some T ∧ isT T "list" = false ∧ ∀ a xs, x = .ref a → H a ≠ some (.lst xs) := by
  cases x with
  | ref a =>
    rcases h with ⟨xs, h | h, hl⟩ | ⟨k, h⟩
    · exact .inl ⟨a, xs, rfl, h, hl, by simp [tyName, h]⟩
    · exact .inr ⟨"tuple", by simp [tyName, h], by decide, fun b ys e z => by cases e; rw [h] at z; cases z⟩
    · exact .inr ⟨"dict", by simp [tyName, h], by decide, fun b ys e z => by cases e; rw [h] at z; cases z⟩
  | non => exact .inr ⟨_, rfl, by decide, fun b ys e => by cases e⟩
  | bl b => exact .inr ⟨_, rfl, by decide, fun b ys e => by cases e⟩
  | int i => exact .inr ⟨_, rfl, by decide, fun b ys e => by cases e⟩
  | str y => exact .inr ⟨_, rfl, by decide, fun b ys e => by cases e⟩
  | _ => exact h.elim
theorem th_tup {H : Hp} {x : V} (h : Thing H x) : (∃ a xs, x = .ref a ∧ H a = some (.tup xs) ∧ tyName H x = some "tuple") ∨ ∃ T, tyName H x = some T ∧ isT T "tuple" = false ∧ ∀ a xs, x = .ref a → H a ≠ some (.tup xs) := by
  cases x with
  | ref a =>
    rcases h with ⟨xs, h | h, hl⟩ | ⟨k, h⟩
    · exact .inr ⟨"list", by simp [tyName, h], by decide, fun b ys e z => by cases e; rw [h] at z; cases z⟩
    · exact .inl ⟨a, xs, rfl, h, by simp [tyName, h]⟩
    · exact .inr ⟨"dict", by simp [tyName, h], by decide, fun b ys e z => by cases e; rw [h] at z; cases z⟩
  | non => exact .inr ⟨_, rfl, by decide, fun b ys e => by cases e⟩
  | bl b => exact .inr ⟨_, rfl, by decide, fun b ys e => by cases e⟩
  | int i => exact .inr ⟨_, rfl, by decide, fun b ys e => by cases e⟩
  | str y => exact .inr ⟨_, rfl, by decide, fun b ys e => by cases e⟩
  | _ => exact h.elim
theorem th_str {H : Hp} {x : V} (h : Thing H x) : (∃ y, x = .str y ∧ y.length ≤ 1000) ∨ ∃ T, tyName H x = some T ∧ isT T "str" = false ∧ ∀ y, x ≠ .str y := by
  cases x with
  | ref a =>
    rcases h with ⟨xs, h | h, hl⟩ | ⟨k, h⟩
    · exact .inr ⟨"list", by simp [tyName, h], by decide, fun y e => by cases e⟩
    · exact .inr ⟨"tuple", by simp [tyName, h], by decide, fun y e => by cases e⟩
    · exact .inr ⟨"dict", by simp [tyName, h], by decide, fun y e => by cases e⟩
  | non => exact .inr ⟨_, rfl, by decide, fun y e => by cases e⟩
  | bl b => exact .inr ⟨_, rfl, by decide, fun y e => by cases e⟩
  | int i => exact .inr ⟨_, rfl, by decide, fun y e => by cases e⟩
  | str y => exact .inl ⟨y, rfl, h⟩
  | _ => exact h.elim
def wholeV : V → Bool
  | .int _ => true
  | _ => false
def wayA (n : Int) : V → Bool
  | .non => true
  | .int i => decide (0 ≤ i) && decide (i < n)
  | _ => false
def wordA (s : Int) : V → Bool
  | .str y => wordOf s y
  | _ => false
def lstA (H : Hp) : V → Option (List V)
  | .ref a => match H a with
    | some (.lst xs) => some xs
    | _ => none
  | _ => none
def roomA (H : Hp) (m n : Int) (x : V) : Bool := match lstA H x with
  | some xs => decide ((xs.length : Int) = m) && xs.all (wayA n)
  | none => false
def roomsA (H : Hp) (m : Int) (x : V) : Bool := match lstA H x with
  | some xs => decide (1 ≤ xs.length ∧ xs.length ≤ 60) && xs.all (roomA H m xs.length)
  | none => false
def strA : V → Str
  | .str y => y
  | _ => ""
def wordsA (H : Hp) (s : Int) (x : V) : Bool := match lstA H x with
  | some xs => decide (xs.length ≤ 16) && (xs.all (wordA s) && risingB (xs.map strA))
  | none => false
def ruleT3 (H : Hp) : List V → Bool
  | [.int s, ws, rs] => decide (s = 1 ∨ s = 2) && (wordsA H s ws && roomsA H ((lstA H ws).getD []).length rs)
  | _ => false
def ruleA (H : Hp) : V → Bool
  | .ref a => match H a with
    | some (.tup xs) => ruleT3 H xs
    | _ => false
  | _ => false
theorem lstA_of {H : Hp} {a : Addr} {xs : List V} (h : H a = some (.lst xs)) : lstA H (.ref a) = some xs := by simp [lstA, h]
theorem lstA_no {H : Hp} {x : V} (h : ∀ a xs, x = .ref a → H a ≠ some (.lst xs)) : lstA H x = none := by
  cases x with
  | ref a =>
    show (match H a with | some (.lst xs) => some xs | _ => none) = none
    split
    · rename_i xs e; exact absurd e (h a xs rfl)
    · rfl
  | _ => rfl
theorem lstA_mono {H H' : Hp} (sm : Same H H') {x : V} (h : Thing H x) : lstA H' x = lstA H x := by
  rcases th_list h with ⟨a, xs, rfl, e, _, _⟩ | ⟨T, _, _, hn⟩
  · rw [lstA_of e, lstA_of (sm _ _ e)]
  · rw [lstA_no hn, lstA_no fun a xs e z => ?_]
    subst e
    rcases Thing.seq sm h (.inl z) with e | e
    · exact hn a xs rfl e
    · rw [sm _ _ e] at z; cases z
theorem roomA_mono {H H' : Hp} (sm : Same H H') {m n : Int} {x : V} (h : Thing H x) : roomA H' m n x = roomA H m n x := by
  unfold roomA; rw [lstA_mono sm h]
theorem roomsA_mono {H H' : Hp} (sm : Same H H') {m : Int} {x : V} (h : DT 1 H x) : roomsA H' m x = roomsA H m x := by
  unfold roomsA
  rw [lstA_mono sm h.1]
  cases e : lstA H x with
  | none => rfl
  | some xs =>
    have he : ∃ a, x = .ref a ∧ H a = some (.lst xs) := by
      rcases th_list h.1 with ⟨a, ys, rfl, e', _, _⟩ | ⟨T, _, _, hn⟩
      · rw [lstA_of e'] at e; cases e; exact ⟨a, rfl, e'⟩
      · rw [lstA_no hn] at e; cases e
    obtain ⟨a, rfl, e'⟩ := he
    show (_ && _) = (_ && _)
    congr 1
    rw [Bool.eq_iff_iff, List.all_eq_true, List.all_eq_true]
    exact ⟨fun z y hy => by rw [← roomA_mono sm (h.2 a xs rfl (.inl e') y hy)]; exact z y hy, fun z y hy => by rw [roomA_mono sm (h.2 a xs rfl (.inl e') y hy)]; exact z y hy⟩
def spWholeA : Sp := fun vs H Q _ => ∃ x : V, vs = [x] ∧ Thing H x ∧ Q (.bl (wholeV x)) H
def spSidedA : Sp := fun vs H Q _ => ∃ x : V, vs = [x] ∧ Thing H x ∧ ∀ (H' : Hp), Same H H' → Q (.bl (wordA 2 x)) H'
def spRising (K : PySem.W.Frag) : Sp := fun vs H Q _ => ∃ (p : Addr) (ws : List Str), vs = [.ref p] ∧ H p = some (.lst (ws.map V.str)) ∧ ws.length ≤ 1000 ∧ ∀ H', Same H H' → Q (.bl (risingB ws)) H'
section
variable {P : Program} {w : World} {K : PySem.W.Frag} {mg : Str → Option Value} {base : Heap}
theorem ok_wholeA (D : DefAt K mg "is_whole" s_is_whole) (z_isinstance : mg "isinstance" = none) (z_int : mg "int" = none) (z_bool : mg "bool" = none) : Cal P w K mg base 1 "is_whole" ["thing"] spWholeA := by
  refine D.cal (k := 0) sc_is_whole (fun _ _ _ _ _ _ us hl => match us, hl with | [_], _ => rfl) (fun vs H Q E h => by obtain ⟨x, rfl, _⟩ := h; rfl) (fun f cdv A outer s H vs Q E hr h => ?_)
  obtain ⟨x, rfl, hx, q⟩ := h
  refine ⟨_, (pss_one (ps_ret (pe_and (pe_blt call_isT z_isinstance bt_isinstance (pa_cons (pv 0 (hv := v_is_whole_thing)) (pa_cons (pe_gty z_int bt_int (hg := gl_is_whole_int)) pa_nil)) (hg := gl_is_whole_isinstance)) (pe_one (pe_not (pe_blt call_isT z_isinstance bt_isinstance (pa_cons (pv 0 (hv := v_is_whole_thing)) (pa_cons (pe_gty z_bool bt_bool (hg := gl_is_whole_bool)) pa_nil)) (hg := gl_is_whole_isinstance))))))), ?_⟩
  walk_at "rd1"
  cases x with
  | non => exact ⟨"NoneType", rfl, by decide, ite2 (fun c => absurd c (by decide)) (fun _ => q)⟩
  | bl b => exact ⟨"bool", rfl, by decide, ite2 (fun _ => ⟨"bool", rfl, by decide, q⟩) (fun c => absurd (by decide) c)⟩
  | int i => exact ⟨"int", rfl, by decide, ite2 (fun _ => ⟨"int", rfl, by decide, q⟩) (fun c => absurd (by decide) c)⟩
  | str y => exact ⟨"str", rfl, by decide, ite2 (fun c => absurd c (by decide)) (fun _ => q)⟩
  | ref a =>
    rcases hx with ⟨xs, h | h, hl⟩ | ⟨k, h⟩
    · exact ⟨"list", by simp [tyName, h], by decide, ite2 (fun c => absurd c (by decide)) (fun _ => q)⟩
    · exact ⟨"tuple", by simp [tyName, h], by decide, ite2 (fun c => absurd c (by decide)) (fun _ => q)⟩
    · exact ⟨"dict", by simp [tyName, h], by decide, ite2 (fun c => absurd c (by decide)) (fun _ => q)⟩
  | _ => exact hx.elim
theorem ok_sidedA (D : DefAt K mg "is_sided_word" s_is_sided_word) (z_isinstance : mg "isinstance" = none) (z_str : mg "str" = none) (c_is_word : Cal P w K mg base 1 "is_word" ["thing"] spWord) : Cal P w K mg base 2 "is_sided_word" ["thing"] spSidedA := by
  refine D.cal (k := 1) sc_is_sided_word (fun _ _ _ _ _ _ us hl => match us, hl with | [_], _ => rfl) (fun vs H Q E h => by obtain ⟨y, rfl, _⟩ := h; rfl) (fun f cdv A outer s H vs Q E hr h => ?_)
  obtain ⟨x, rfl, hx, q⟩ := h
  refine ⟨_, (pss_one (ps_ret (pe_and (pe_blt call_isT z_isinstance bt_isinstance (pa_cons (pv 0 (hv := v_is_sided_word_thing)) (pa_cons (pe_gty z_str bt_str (hg := gl_is_sided_word_str)) pa_nil)) (hg := gl_is_sided_word_isinstance)) (pe_and (pe_cmpR (op_inK K) (pe_slice sl_str (pv 0 (hv := v_is_sided_word_thing)) po_none (po_some pe_int)) (pe_tup (pa_cons pe_str (pa_cons pe_str pa_nil))) (by with_unfolding_all rfl)) (pe_one (pe_cal c_is_word hr (pa_cons (pe_slice sl_str (pv 0 (hv := v_is_sided_word_thing)) (po_some pe_int) po_none) pa_nil) (hg := gl_is_sided_word_is_word))))))), ?_⟩
  walk_at "rd1"
  rcases th_str hx with ⟨y, rfl, hy⟩ | ⟨T, hT, hn, hs⟩
  rotate_left
  · refine ⟨T, hT, by decide, ?_⟩
    rw [hn]
    refine ite2 (fun c => absurd c (by decide)) (fun _ => ?_)
    have e : wordA 2 x = false := by
      cases x with
      | str y => exact absurd rfl (hs y)
      | _ => rfl
    rw [← e]; exact q _ (Same.refl _)
  walk_at "rd1"
  refine ⟨"str", rfl, by decide, ite2 (fun _ => ?_) (fun c => absurd (by decide) c)⟩
  refine ⟨smallL (by omega), by decide, fun p hp => ?_⟩
  have sm := same_new hp (.tup [V.str "1.", V.str "2."])
  have ep : upd H p (.tup [V.str "1.", V.str "2."]) p = some (.tup [V.str "1.", V.str "2."]) := upd_same
  generalize upd H p (.tup [V.str "1.", V.str "2."]) = H1 at sm ep ⊢
  have e0 : wordA 2 (.str y) = sidedS y := rfl
  refine ⟨_, .inr (SqT.of ep), rfl, rfl, ite2 (fun c => ?_) (fun c => ?_)⟩
  · have hl := Txt.slice_le y (some 2) none
    refine ⟨smallL (by omega), _, "str", rfl, rfl, fun z e => by cases e; exact smallL (by omega), fun H' s' => ?_⟩
    have e : sidedS y = wordV (.str (Txt.slice y (some 2) none)) := by unfold sidedS; rw [c]; rfl
    rw [← e, ← e0]
    exact q _ (sm.trans s')
  · have e : sidedS y = false := by
      unfold sidedS
      rw [show inV (.str (Txt.slice y none (some 2))) [.str "1.", .str "2."] = false by simpa using c]; rfl
    rw [← e, ← e0]
    exact q _ sm
theorem ok_rising (D : DefAt K mg "is_rising" s_is_rising) (z_len : mg "len" = none) (z_range : mg "range" = none) (z_all : mg "all" = none) : Cal P w K mg base 1 "is_rising" ["texts"] (spRising K) := by
  refine D.cal (k := 0) sc_is_rising (fun _ _ _ _ _ _ us hl => match us, hl with | [_], _ => rfl) (fun vs H Q E h => by obtain ⟨p, ws, rfl, _⟩ := h; rfl) (fun f cdv A outer s H vs Q E hr h => ?_)
  obtain ⟨p, ws, rfl, hp, hn, q⟩ := h
  refine ⟨_, (pss_one (ps_ret (pe_blt (call_allK K) z_all bt_all (pa_cons (pe_comp (CompSc.to (fsc := (defScope s_is_rising)) (N := ["texts"]) (N0 := ["texts"]) (T := ["at"]) ⟨by decide +kernel, by decide +kernel, by decide +kernel, by decide +kernel, by decide +kernel, by decide +kernel, by decide +kernel⟩ rfl rfl) rfl (pi_range2 gl_is_rising_range z_range (pa_cons pe_int (pa_cons (pe_blt (call_lenK K) z_len bt_len (pa_cons (pv 0 (hv := v_is_rising_texts)) pa_nil) (hg := gl_is_rising_len)) pa_nil))) (fun _ _ _ _ => (pg_let 1 (show (["texts", "at"] : List Str).Nodup from by decide +kernel) (hx := (locC (defScope s_is_rising) (by decide +kernel))) (hf := fnC (defScope s_is_rising) (by decide +kernel)))) (gfr_name (show (["texts"] : List Str).length ≤ 1 from by decide)) (fun _ _ _ _ => pifs_nil) (fun _ _ _ _ => (pe_cmpR op_ltA (pe_ix (ix_K K) (pv 0 (hv := (visC (defScope s_is_rising) (by decide +kernel)))) (pe_op op_sub (pv 1 (hv := (visC (defScope s_is_rising) (by decide +kernel)))) pe_int) (fun _ _ => rfl)) (pe_ix (ix_K K) (pv 0 (hv := (visC (defScope s_is_rising) (by decide +kernel)))) (pv 1 (hv := (visC (defScope s_is_rising) (by decide +kernel)))) (fun _ _ => rfl)) (nomark _)))) pa_nil) (hg := gl_is_rising_all)))), ?_⟩
  walk_at "rd1"
  refine ⟨_, .inl (SqL.of hp), ?_⟩
  rw [List.length_map]
  refine ⟨⟨by decide, by decide, by omega, by omega⟩, fun L hL => ?_⟩
  rw [show ((ws.length : Int) - 1).toNat = ws.length - 1 by omega]
  refine compW_range (fun i ys H' => Same H H' ∧ H' L = some (.lst ys) ∧ ys = ((List.range i).map fun j => decide ((ws.getD j "").cps.toList < (ws.getD (j + 1) "").cps.toList)).map V.bl) ⟨same_new hL _, upd_same, rfl⟩ ?_ ?_
  · rintro i ys H' hi ⟨sm, hD, rfl⟩
    have hg : ∀ j, j < ws.length → (ws.map V.str)[j]? = some (.str (ws.getD j "")) := fun j hj => by
      rw [List.getElem?_map, List.getElem?_eq_getElem hj, List.getD_eq_getElem?_getD, List.getElem?_eq_getElem hj]; rfl
    walk_at "rd1"
    refine ⟨_, _, .inl (SqL.of (sm _ _ hp)), (by rw [show (1 : Int) + (i : Int) - 1 = ((i : Nat) : Int) by omega]; exact atI_nat (hg i (by omega))), ?_⟩
    refine ⟨_, _, .inl (SqL.of (sm _ _ hp)), (by rw [show (1 : Int) + (i : Int) = ((i + 1 : Nat) : Int) by omega]; exact atI_nat (hg (i + 1) (by omega))), ?_⟩
    walk_at "rd1"
    refine cstep hi (by simp) (smallL (by omega)) hD ⟨sm.upd hL _, upd_same, ?_⟩
    rw [List.range_succ, List.map_append, List.map_append]; rfl
  · rintro ys H' ⟨sm, hD, rfl⟩
    walk_at "rd1"
    refine ⟨_, SqL.of hD, ?_⟩
    have e : risingB ws = ((List.range (ws.length - 1)).map fun j => decide ((ws.getD j "").cps.toList < (ws.getD (j + 1) "").cps.toList)).all id := by
      unfold risingB; rw [List.all_map]; rfl
    rw [← e]
    exact q _ sm
theorem map_strA {xs : List V} {s : Int} (h : xs.all (wordA s) = true) : (xs.map strA).map V.str = xs := by
  rw [List.map_map]
  conv => rhs; rw [← List.map_id xs]
  refine List.map_congr_left fun x hx => ?_
  have := List.all_eq_true.mp h x hx
  cases x with
  | str y => rfl
  | _ => cases this
def spAreA : Sp := fun vs H Q _ => ∃ (x : V) (s : Int), vs = [x, .int s] ∧ DT 1 H x ∧ (s = 1 ∨ s = 2) ∧ ∀ H', Same H H' → Q (.bl (wordsA H s x)) H'
theorem ok_areA (D : DefAt K mg "are_words" s_are_words) (z_isinstance : mg "isinstance" = none) (z_list : mg "list" = none) (z_len : mg "len" = none) (g_MOST_WORDS : ∃ t, mg "MOST_WORDS" = some (.int 16 t)) (c_is_word : Cal P w K mg base 1 "is_word" ["thing"] spWord)
    (c_is_sided_word : Cal P w K mg base 2 "is_sided_word" ["thing"] spSidedA) (c_is_rising : Cal P w K mg base 1 "is_rising" ["texts"] (spRising K)) : Cal P w K mg base 3 "are_words" ["thing", "sides"] spAreA := by
  refine D.cal (k := 2) sc_are_words (fun _ _ _ _ _ _ us hl => match us, hl with | [_, _], _ => rfl) (fun vs H Q E h => by obtain ⟨x, s, rfl, _⟩ := h; rfl) (fun f cdv A outer sh H vs Q E hr h => ?_)
  obtain ⟨x, s, rfl, hx, hs, q⟩ := h
  refine ⟨_, (pss_cons (ps_if (PW.pt' (pw_or (pt_not (pt_val (pe_blt call_isT z_isinstance bt_isinstance (pa_cons (pv 0 (hv := v_are_words_thing)) (pa_cons (pe_gty z_list bt_list (hg := gl_are_words_list)) pa_nil)) (hg := gl_are_words_isinstance)))) (pw_or1 (pt_cmpR op_gt (pe_blt (call_lenK K) z_len bt_len (pa_cons (pv 0 (hv := v_are_words_thing)) pa_nil) (hg := gl_are_words_len)) (pe_gint g_MOST_WORDS (hg := gl_are_words_MOST_WORDS)) (nomark _))))) (pss_one (ps_ret pe_bl)) pss_nil)
      (pss_cons (ps_for PassesOwn.never rfl (pi_listK K (pv 0 (hv := v_are_words_thing))) (pg_let 2 sc_are_words.nd (hx := l_are_words_word)) (pss_one (ps_if (pt_not (pt_ifExp (pt_cmpR op_eqA (pv 1 (hv := v_are_words_sides)) pe_int (nomark _)) (pt_val (pe_cal c_is_word hr (pa_cons (pv 2 (hv := v_are_words_word)) pa_nil) (hg := gl_are_words_is_word))) (pt_val (pe_cal c_is_sided_word hr (pa_cons (pv 2 (hv := v_are_words_word)) pa_nil) (hg := gl_are_words_is_sided_word))))) (pss_one (ps_ret pe_bl)) pss_nil)))
      (pss_one (ps_ret (pe_cal c_is_rising hr (pa_cons (pv 0 (hv := v_are_words_thing)) pa_nil) (hg := gl_are_words_is_rising)))))), ?_⟩
  walk_at "rd1"
  rcases th_list hx.1 with ⟨p, xs, rfl, hp, hn, hT⟩ | ⟨T, hT, hno, hnl⟩
  rotate_left
  · refine ⟨T, hT, by decide, ?_⟩
    rw [hno]
    refine ite2 (fun _ => ?_) (fun c => absurd (by decide) c)
    have e : wordsA H s x = false := by unfold wordsA; rw [lstA_no hnl]
    rw [← e]; exact q _ (Same.refl _)
  have hel := hx.2 p xs rfl (.inl hp)
  have ew0 : wordsA H s (.ref p) = (decide (xs.length ≤ 16) && (xs.all (wordA s) && risingB (xs.map strA))) := by unfold wordsA; rw [lstA_of hp]
  rw [ew0] at q
  refine ⟨"list", hT, by decide, ite2 (fun c => absurd c (by decide)) (fun _ => ?_)⟩
  refine ⟨_, .inl (SqL.of hp), ?_⟩
  walk_at "rd1"
  refine ite2 (fun c => ?_) (fun c => ?_)
  · rw [decide_eq_false (show ¬ xs.length ≤ 16 by omega)] at q
    exact q _ (Same.refl _)
  have h16 : xs.length ≤ 16 := by omega
  rw [decide_eq_true h16, Bool.true_and] at q
  walk_at "nx"
  refine ⟨⟨_, SqL.of hp⟩, ?_⟩
  refine forW_list (xs := xs) (fun i σ H' => ∃ o2 : Option V, σ = [some (.ref p), some (.int s), o2] ∧ Same H H' ∧ (xs.take i).all (wordA s) = true) ⟨none, rfl, Same.refl _, rfl⟩ (fun i σ H' _ h => by obtain ⟨_, _, sm, _⟩ := h; exact SqL.of (sm _ _ hp)) ?_ ?_
  · rintro i x σ H' hx ⟨o2, rfl, sm, hall⟩
    have hxm := List.mem_of_getElem? hx
    have hxt : Thing H' x := Thing.mono sm (hel x hxm)
    have nx : wordA s x = true → (xs.take (i + 1)).all (wordA s) = true := fun e => by rw [List.take_add_one, hx, List.all_append, hall]; simp [e]
    have no : wordA s x = false → (xs.all (wordA s) && risingB (xs.map strA)) = false := fun e => by
      have : xs.all (wordA s) = false := by
        rw [List.all_eq_false]
        exact ⟨x, hxm, by rw [e]; simp⟩
      rw [this]; rfl
    walk_at "rd1"
    refine ite2 (fun c1 => ?_) (fun c1 => ?_)
    · obtain ⟨T, hT, hlen⟩ : ∃ T, tyName H' x = some T ∧ ∀ y, x = .str y → y.length ≤ sizeLine := by
        rcases th_str hxt with ⟨y, rfl, hy⟩ | ⟨T, hT, _, hs⟩
        · exact ⟨"str", rfl, fun z e => by cases e; exact smallL (by omega)⟩
        · exact ⟨T, hT, fun y e => absurd e (hs y)⟩
      refine ⟨_, T, rfl, hT, hlen, fun H2 s2 => ?_⟩
      have ew : wordV x = wordA s x := by
        cases x with
        | str y => show wordS y = wordOf s y; unfold wordOf; rw [if_pos c1]
        | _ => rfl
      rw [ew]
      walk_at "rd1"
      cases e : wordA s x with
      | true => exact ite2 (fun c => absurd c (by simp)) (fun _ => ⟨_, rfl, sm.trans s2, nx e⟩)
      | false => refine ite2 (fun _ => ?_) (fun c => absurd rfl c); rw [← no e]; exact q _ (sm.trans s2)
    · refine ⟨x, rfl, hxt, fun H2 s2 => ?_⟩
      have ew : wordA 2 x = wordA s x := by rw [show s = 2 by omega]
      rw [ew]
      walk_at "rd1"
      cases e : wordA s x with
      | true => exact ite2 (fun c => absurd c (by simp)) (fun _ => ⟨_, rfl, sm.trans s2, nx e⟩)
      | false => refine ite2 (fun _ => ?_) (fun c => absurd rfl c); rw [← no e]; exact q _ (sm.trans s2)
  · rintro σ H' ⟨o2, rfl, sm, hall⟩
    rw [List.take_length] at hall
    walk_at "nx"
    refine ⟨p, xs.map strA, rfl, by rw [map_strA hall]; exact sm _ _ hp, by rw [List.length_map]; omega, fun H2 s2 => ?_⟩
    rw [hall, Bool.true_and] at q
    exact q _ (sm.trans s2)
def spIsWayA : Sp := fun vs H Q _ => ∃ (x : V) (n : Int), vs = [x, .int n] ∧ Thing H x ∧ Q (.bl (wayA n x)) H
theorem ok_iswayA (D : DefAt K mg "is_way" s_is_way) (c_is_whole : Cal P w K mg base 1 "is_whole" ["thing"] spWholeA) : Cal P w K mg base 2 "is_way" ["thing", "count"] spIsWayA := by
  refine D.cal (k := 1) sc_is_way (fun _ _ _ _ _ _ us hl => match us, hl with | [_, _], _ => rfl) (fun vs H Q E h => by obtain ⟨o, n, rfl, _⟩ := h; rfl) (fun f cdv A outer sh H vs Q E hr h => ?_)
  obtain ⟨x, n, rfl, hx, q⟩ := h
  refine ⟨_, (pss_one (ps_ret (pe_or (pe_cmpR op_isNA (pv 0 (hv := v_is_way_thing)) pe_non (nomark _)) (pe_one (pe_and (pe_cal c_is_whole hr (pa_cons (pv 0 (hv := v_is_way_thing)) pa_nil) (hg := gl_is_way_is_whole)) (pe_one (pe_chain op_le op_ltA pe_int (pv 0 (hv := v_is_way_thing)) (pv 1 (hv := v_is_way_count))))))))), ?_⟩
  walk_at "rd1"
  by_cases hn : x = .non
  · subst hn
    exact ite2 (fun _ => q) (fun c => absurd rfl c)
  · refine ite2 (fun c => absurd c (by simpa using hn)) (fun _ => ?_)
    refine ⟨x, rfl, hx, _, rfl, ?_⟩
    cases x with
    | int i =>
      refine ite2 (fun _ => ?_) (fun c => absurd rfl c)
      walk_at "rd1"
      by_cases h0 : 0 ≤ i
      · refine ite2 (fun _ => ?_) (fun c => absurd (by simpa using h0) c)
        have e : wayA n (.int i) = decide (i < n) := by show (decide (0 ≤ i) && _) = _; rw [decide_eq_true h0]; rfl
        rw [← e]; exact q
      · refine ite2 (fun c => absurd (by simpa using c) h0) (fun _ => ?_)
        have e : wayA n (.int i) = false := by show (decide (0 ≤ i) && _) = _; rw [decide_eq_false h0]; rfl
        rw [← e]; exact q
    | non => exact absurd rfl hn
    | _ => exact ite2 (fun c => absurd c (show ¬ (false = true) by decide)) (fun _ => q)
def spIsRoomA : Sp := fun vs H Q _ => ∃ (x : V) (m n : Int), vs = [x, .int m, .int n] ∧ DT 1 H x ∧ ∀ H', Same H H' → Q (.bl (roomA H m n x)) H'
theorem ok_isroomA (D : DefAt K mg "is_room" s_is_room) (z_isinstance : mg "isinstance" = none) (z_list : mg "list" = none) (z_len : mg "len" = none) (z_all : mg "all" = none) (c_is_way : Cal P w K mg base 2 "is_way" ["thing", "count"] spIsWayA) : Cal P w K mg base 3 "is_room" ["thing", "width", "count"] spIsRoomA := by
  refine D.cal (k := 2) sc_is_room (fun _ _ _ _ _ _ us hl => match us, hl with | [_, _, _], _ => rfl) (fun vs H Q E h => by obtain ⟨x, m, n, rfl, _⟩ := h; rfl) (fun f cdv A outer sh H vs Q E hr h => ?_)
  obtain ⟨x, m, n, rfl, hx, q⟩ := h
  refine ⟨_, (pss_cons (ps_if (PW.pt' (pw_or (pt_not (pt_val (pe_blt call_isT z_isinstance bt_isinstance (pa_cons (pv 0 (hv := v_is_room_thing)) (pa_cons (pe_gty z_list bt_list (hg := gl_is_room_list)) pa_nil)) (hg := gl_is_room_isinstance)))) (pw_or1 (pt_cmpR op_neA (pe_blt (call_lenK K) z_len bt_len (pa_cons (pv 0 (hv := v_is_room_thing)) pa_nil) (hg := gl_is_room_len)) (pv 1 (hv := v_is_room_width)) (nomark _))))) (pss_one (ps_ret pe_bl)) pss_nil)
      (pss_one (ps_ret (pe_blt (call_allK K) z_all bt_all (pa_cons (pe_comp (CompSc.to (fsc := (defScope s_is_room)) (N := ["thing", "width", "count"]) (N0 := ["thing", "width", "count"]) (T := ["way"]) ⟨by decide +kernel, by decide +kernel, by decide +kernel, by decide +kernel, by decide +kernel, by decide +kernel, by decide +kernel⟩ rfl rfl) rfl (pi_listK K (pv 0 (hv := v_is_room_thing))) (fun _ _ _ _ => (pg_let 3 (show (["thing", "width", "count", "way"] : List Str).Nodup from by decide +kernel) (hx := (locC (defScope s_is_room) (by decide +kernel))) (hf := fnC (defScope s_is_room) (by decide +kernel)))) (gfr_name (show (["thing", "width", "count"] : List Str).length ≤ 3 from by decide)) (fun _ _ _ _ => pifs_nil) (fun _ _ _ _ => (pe_cal c_is_way hr (pa_cons (pv 3 (hv := (visC (defScope s_is_room) (by decide +kernel)))) (pa_cons (pv 2 (hv := (visC (defScope s_is_room) (by decide +kernel)))) pa_nil)) (hg := (glC (defScope s_is_room) (by decide +kernel)))))) pa_nil) (hg := gl_is_room_all))))), ?_⟩
  walk_at "rd1"
  rcases th_list hx.1 with ⟨a, xs, rfl, ha, hn, hT⟩ | ⟨T, hT, hno, hnl⟩
  rotate_left
  · refine ⟨T, hT, by decide, ?_⟩
    rw [hno]
    refine ite2 (fun _ => ?_) (fun c => absurd (by decide) c)
    have e : roomA H m n x = false := by unfold roomA; rw [lstA_no hnl]
    rw [← e]; exact q _ (Same.refl _)
  have hel := hx.2 a xs rfl (.inl ha)
  have e0 : roomA H m n (.ref a) = (decide ((xs.length : Int) = m) && xs.all (wayA n)) := by unfold roomA; rw [lstA_of ha]
  rw [e0] at q
  refine ⟨"list", hT, by decide, ite2 (fun c => absurd c (by decide)) (fun _ => ?_)⟩
  refine ⟨_, .inl (SqL.of ha), ?_⟩
  walk_at "rd1"
  refine ite2 (fun c => ?_) (fun c => ?_)
  · rw [decide_eq_false (by simpa using c)] at q
    exact q _ (Same.refl _)
  have hm : (xs.length : Int) = m := by simpa using c
  rw [decide_eq_true hm, Bool.true_and] at q
  walk_at "nx"
  refine ⟨⟨_, SqL.of ha⟩, fun L hL => ?_⟩
  refine compW_list (xs := xs) (fun i ys H' => Same H H' ∧ H' L = some (.lst ys) ∧ ys = ((xs.take i).map (wayA n)).map V.bl) ⟨same_new hL _, upd_same, rfl⟩ (fun i ys H' _ h => SqL.of (h.1 _ _ ha)) ?_ ?_
  · rintro i ys H' v hv hi ⟨sm, hD, rfl⟩
    walk_at "rd1"
    refine ⟨v, n, rfl, Thing.mono sm (hel v (List.mem_of_getElem? hv)), ?_⟩
    refine cstep hi (by simp; omega) (smallL (by omega)) hD ⟨sm.upd hL _, upd_same, ?_⟩
    rw [List.take_add_one, hv, List.map_append, List.map_append]; rfl
  · rintro ys H' ⟨sm, hD, rfl⟩
    walk_at "rd1"
    refine ⟨_, SqL.of hD, ?_⟩
    rw [List.take_length, List.all_map]
    exact q _ sm
def spAreRoomsA : Sp := fun vs H Q _ => ∃ (x : V) (m : Int), vs = [x, .int m] ∧ DT 2 H x ∧ ∀ H', Same H H' → Q (.bl (roomsA H m x)) H'
theorem ok_areroomsA (D : DefAt K mg "are_rooms" s_are_rooms) (z_isinstance : mg "isinstance" = none) (z_list : mg "list" = none) (z_len : mg "len" = none) (z_all : mg "all" = none) (g_MOST_ROOMS : ∃ t, mg "MOST_ROOMS" = some (.int 60 t)) (c_is_room : Cal P w K mg base 3 "is_room" ["thing", "width", "count"] spIsRoomA) : Cal P w K mg base 4 "are_rooms" ["thing", "width"] spAreRoomsA := by
  refine D.cal (k := 3) sc_are_rooms (fun _ _ _ _ _ _ us hl => match us, hl with | [_, _], _ => rfl) (fun vs H Q E h => by obtain ⟨x, m, rfl, _⟩ := h; rfl) (fun f cdv A outer sh H vs Q E hr h => ?_)
  obtain ⟨x, m, rfl, hx, q⟩ := h
  refine ⟨_, (pss_cons (ps_if (PW.pt' (pw_or (pt_not (pt_val (pe_blt call_isT z_isinstance bt_isinstance (pa_cons (pv 0 (hv := v_are_rooms_thing)) (pa_cons (pe_gty z_list bt_list (hg := gl_are_rooms_list)) pa_nil)) (hg := gl_are_rooms_isinstance)))) (pw_or1 (pt_not (pt_chain op_le op_le pe_int (pe_blt (call_lenK K) z_len bt_len (pa_cons (pv 0 (hv := v_are_rooms_thing)) pa_nil) (hg := gl_are_rooms_len)) (pe_gint g_MOST_ROOMS (hg := gl_are_rooms_MOST_ROOMS))))))) (pss_one (ps_ret pe_bl)) pss_nil)
      (pss_one (ps_ret (pe_blt (call_allK K) z_all bt_all (pa_cons (pe_comp (CompSc.to (fsc := (defScope s_are_rooms)) (N := ["thing", "width"]) (N0 := ["thing", "width"]) (T := ["room"]) ⟨by decide +kernel, by decide +kernel, by decide +kernel, by decide +kernel, by decide +kernel, by decide +kernel, by decide +kernel⟩ rfl rfl) rfl (pi_listK K (pv 0 (hv := v_are_rooms_thing))) (fun _ _ _ _ => (pg_let 2 (show (["thing", "width", "room"] : List Str).Nodup from by decide +kernel) (hx := (locC (defScope s_are_rooms) (by decide +kernel))) (hf := fnC (defScope s_are_rooms) (by decide +kernel)))) (gfr_name (show (["thing", "width"] : List Str).length ≤ 2 from by decide)) (fun _ _ _ _ => pifs_nil) (fun _ _ _ _ => (pe_cal c_is_room hr (pa_cons (pv 2 (hv := (visC (defScope s_are_rooms) (by decide +kernel)))) (pa_cons (pv 1 (hv := (visC (defScope s_are_rooms) (by decide +kernel)))) (pa_cons (pe_blt (call_lenK K) z_len bt_len (pa_cons (pv 0 (hv := (visC (defScope s_are_rooms) (by decide +kernel)))) pa_nil) (hg := (glC (defScope s_are_rooms) (by decide +kernel)))) pa_nil))) (hg := (glC (defScope s_are_rooms) (by decide +kernel)))))) pa_nil) (hg := gl_are_rooms_all))))), ?_⟩
  walk_at "rd1"
  rcases th_list hx.1 with ⟨p, xs, rfl, hp, hn, hT⟩ | ⟨T, hT, hno, hnl⟩
  rotate_left
  · refine ⟨T, hT, by decide, ?_⟩
    rw [hno]
    refine ite2 (fun _ => ?_) (fun c => absurd (by decide) c)
    have e : roomsA H m x = false := by unfold roomsA; rw [lstA_no hnl]
    rw [← e]; exact q _ (Same.refl _)
  have hel := hx.2 p xs rfl (.inl hp)
  have e0 : roomsA H m (.ref p) = (decide (1 ≤ xs.length ∧ xs.length ≤ 60) && xs.all (roomA H m xs.length)) := by unfold roomsA; rw [lstA_of hp]
  rw [e0] at q
  refine ⟨"list", hT, by decide, ite2 (fun c => absurd c (by decide)) (fun _ => ?_)⟩
  refine ⟨_, .inl (SqL.of hp), ?_⟩
  walk_at "rd1"
  have bad : ¬ (1 ≤ xs.length ∧ xs.length ≤ 60) → ∀ H', Same H H' → Q (.bl false) H' := fun z => by rw [decide_eq_false z] at q; exact q
  refine ite2 (fun c1 => ?_) (fun c1 => ?_)
  · refine ite2 (fun c2 => ?_) (fun c2 => ?_)
    · exact bad (fun z => by simp at c2; omega) _ (Same.refl _)
    have hb : 1 ≤ xs.length ∧ xs.length ≤ 60 := ⟨by omega, by simp at c2; omega⟩
    rw [decide_eq_true hb, Bool.true_and] at q
    walk_at "nx"
    refine ⟨⟨_, SqL.of hp⟩, fun L hL => ?_⟩
    refine compW_list (xs := xs) (fun i ys H' => Same H H' ∧ H' L = some (.lst ys) ∧ ys = ((xs.take i).map (roomA H m xs.length)).map V.bl) ⟨same_new hL _, upd_same, rfl⟩ (fun i ys H' _ h => SqL.of (h.1 _ _ hp)) ?_ ?_
    · rintro i ys H' v hv hi ⟨sm, hD, rfl⟩
      have hvt := hel v (List.mem_of_getElem? hv)
      walk_at "rd1"
      refine ⟨_, .inl (SqL.of (sm _ _ hp)), ?_⟩
      refine ⟨v, m, xs.length, rfl, hvt.mono sm, fun H2 s2 => ?_⟩
      rw [roomA_mono sm hvt.1]
      have sm2 := sm.trans s2
      refine cstep hi (by simp; omega) (smallL (by omega)) (s2 _ _ hD) ⟨sm2.upd hL _, upd_same, ?_⟩
      rw [List.take_add_one, hv, List.map_append, List.map_append]; rfl
    · rintro ys H' ⟨sm, hD, rfl⟩
      walk_at "rd1"
      refine ⟨_, SqL.of hD, ?_⟩
      rw [List.take_length, List.all_map]
      exact q _ sm
  · exact bad (fun z => by omega) _ (Same.refl _)
def spIsRuleA : Sp := fun vs H Q _ => ∃ x : V, vs = [x] ∧ DT 3 H x ∧ ∀ H', Same H H' → Q (.bl (ruleA H x)) H'
theorem ok_isruleA (D : DefAt K mg "is_rule" s_is_rule) (z_isinstance : mg "isinstance" = none) (z_tuple : mg "tuple" = none) (z_len : mg "len" = none) (c_is_whole : Cal P w K mg base 1 "is_whole" ["thing"] spWholeA) (c_are_words : Cal P w K mg base 3 "are_words" ["thing", "sides"] spAreA) (c_are_rooms : Cal P w K mg base 4 "are_rooms" ["thing", "width"] spAreRoomsA) : Cal P w K mg base 5 "is_rule" ["thing"] spIsRuleA := by
  refine D.cal (k := 4) sc_is_rule (fun _ _ _ _ _ _ us hl => match us, hl with | [_], _ => rfl) (fun vs H Q E h => by obtain ⟨x, rfl, _⟩ := h; rfl) (fun f cdv A outer sh H vs Q E hr h => ?_)
  obtain ⟨x, rfl, hx, q⟩ := h
  refine ⟨_, (pss_cons (ps_if (PW.pt' (pw_or (pt_not (pt_val (pe_blt call_isT z_isinstance bt_isinstance (pa_cons (pv 0 (hv := v_is_rule_thing)) (pa_cons (pe_gty z_tuple bt_tuple (hg := gl_is_rule_tuple)) pa_nil)) (hg := gl_is_rule_isinstance)))) (pw_or1 (pt_cmpR op_neA (pe_blt (call_lenK K) z_len bt_len (pa_cons (pv 0 (hv := v_is_rule_thing)) pa_nil) (hg := gl_is_rule_len)) pe_int (nomark _))))) (pss_one (ps_ret pe_bl)) pss_nil)
      (pss_cons (ps_let 1 sc_is_rule.nd (pe_ix (ix_K K) (pv 0 (hv := v_is_rule_thing)) pe_int (fun _ _ => rfl)) (hx := l_is_rule_sides))
      (pss_cons (ps_if (PW.pt' (pw_or (pt_not (pt_val (pe_cal c_is_whole hr (pa_cons (pv 1 (hv := v_is_rule_sides)) pa_nil) (hg := gl_is_rule_is_whole)))) (pw_or1 (pt_cmpR (op_notInK K) (pv 1 (hv := v_is_rule_sides)) (pe_tup (pa_cons pe_int (pa_cons pe_int pa_nil))) (by with_unfolding_all rfl))))) (pss_one (ps_ret pe_bl)) pss_nil)
      (pss_one (ps_ret (pe_and (pe_cal c_are_words hr (pa_cons (pe_ix (ix_K K) (pv 0 (hv := v_is_rule_thing)) pe_int (fun _ _ => rfl)) (pa_cons (pv 1 (hv := v_is_rule_sides)) pa_nil)) (hg := gl_is_rule_are_words)) (pe_one (pe_cal c_are_rooms hr (pa_cons (pe_ix (ix_K K) (pv 0 (hv := v_is_rule_thing)) pe_int (fun _ _ => rfl)) (pa_cons (pe_blt (call_lenK K) z_len bt_len (pa_cons (pe_ix (ix_K K) (pv 0 (hv := v_is_rule_thing)) pe_int (fun _ _ => rfl)) pa_nil) (hg := gl_is_rule_len)) pa_nil)) (hg := gl_is_rule_are_rooms))))))))), ?_⟩
  walk_at "rd1"
  rcases th_tup hx.1 with ⟨p, xs, rfl, hp, hT⟩ | ⟨T, hT, hno, hnl⟩
  rotate_left
  · refine ⟨T, hT, by decide, ?_⟩
    rw [hno]
    refine ite2 (fun _ => ?_) (fun c => absurd (by decide) c)
    have e : ruleA H x = false := by
      cases x with
      | ref a =>
        show (match H a with | some (.tup xs) => ruleT3 H xs | _ => false) = false
        split
        · rename_i xs e; exact absurd e (hnl a xs rfl)
        · rfl
      | _ => rfl
    rw [← e]; exact q _ (Same.refl _)
  have hel := hx.2 p xs rfl (.inr hp)
  have e0 : ruleA H (.ref p) = ruleT3 H xs := by show (match H p with | some (.tup xs) => ruleT3 H xs | _ => false) = _; rw [hp]
  rw [e0] at q
  refine ⟨"tuple", hT, by decide, ite2 (fun c => absurd c (by decide)) (fun _ => ?_)⟩
  refine ⟨_, .inr (SqT.of hp), ?_⟩
  walk_at "rd1"
  refine ite2 (fun c => ?_) (fun c => ?_)
  · have e : ruleT3 H xs = false := by
      unfold ruleT3
      split
      · simp at c
      · rfl
    rw [e] at q; exact q _ (Same.refl _)
  obtain ⟨s, ws, rs, rfl⟩ : ∃ s ws rs, xs = [s, ws, rs] := by
    have hl : xs.length = 3 := by simp at c; omega
    match xs, hl with
    | [s, ws, rs], _ => exact ⟨s, ws, rs, rfl⟩
  have ts := hel s (by simp)
  have tw := hel ws (by simp)
  have tr := hel rs (by simp)
  walk_at "nx"
  refine ⟨_, _, .inr (SqT.of hp), at0, ?_⟩
  walk_at "nx"
  refine ⟨s, rfl, ts.th, _, rfl, ?_⟩
  have other : wholeV s = false → ∀ H', Same H H' → Q (.bl false) H' := fun z => by
    have e : ruleT3 H [s, ws, rs] = false := by
      cases s with
      | int i => cases z
      | _ => rfl
    rw [e] at q; exact q
  cases s with
  | int s =>
    refine ite2 (fun c => absurd c (show ¬ (false = true) by decide)) (fun _ => ?_)
    refine ⟨by decide, fun t2 ht2 => ?_⟩
    have sm := same_new ht2 (.tup [V.int 1, V.int 2])
    have et : upd H t2 (.tup [V.int 1, V.int 2]) t2 = some (.tup [V.int 1, V.int 2]) := upd_same
    generalize upd H t2 (.tup [V.int 1, V.int 2]) = H1 at sm et ⊢
    walk_at "rd1"
    have hin : inV (V.int s) [V.int 1, V.int 2] = decide (s = 1 ∨ s = 2) := by
      rw [Bool.eq_iff_iff, decide_eq_true_eq]
      simp [inV, eqV]
      omega
    refine ⟨_, .inr (SqT.of et), rfl, rfl, ?_⟩
    rw [hin]
    have er : ruleT3 H [.int s, ws, rs] = (decide (s = 1 ∨ s = 2) && (wordsA H s ws && roomsA H ((lstA H ws).getD []).length rs)) := rfl
    rw [er] at q
    by_cases hs : s = 1 ∨ s = 2
    · rw [decide_eq_true hs] at q ⊢
      rw [Bool.true_and] at q
      refine ite2 (fun c => absurd c (by decide)) (fun _ => ?_)
      walk_at "nx"
      have tw1 : DT 1 H ws := ⟨tw.1, fun a xs e he y hy => (tw.2 a xs e he y hy).th⟩
      refine ⟨_, _, .inr (SqT.of (sm _ _ hp)), atI_nat (j := 1) rfl, ws, s, rfl, tw1.mono sm, hs, fun H2 s2 => ?_⟩
      have sm2 := sm.trans s2
      have ewm : wordsA H1 s ws = wordsA H s ws := by unfold wordsA; rw [lstA_mono sm tw.1]
      rw [ewm]
      walk_at "rd1"
      cases ea : wordsA H s ws with
      | false =>
        refine ite2 (fun c => absurd c (by decide)) (fun _ => ?_)
        rw [ea] at q
        exact q _ sm2
      | true =>
        refine ite2 (fun _ => ?_) (fun c => absurd rfl c)
        rw [ea, Bool.true_and] at q
        refine ⟨_, _, .inr (SqT.of (sm2 _ _ hp)), atI_nat (j := 2) rfl, _, _, .inr (SqT.of (sm2 _ _ hp)), atI_nat (j := 1) rfl, ?_⟩
        rcases th_list tw.1 with ⟨pw, wl, rfl, hw, _, _⟩ | ⟨T, _, _, hnl⟩
        · walk_at "rd1"
          refine ⟨_, .inl (SqL.of (sm2 _ _ hw)), ?_⟩
          refine ⟨rs, wl.length, rfl, tr.mono sm2, fun H3 s3 => ?_⟩
          have tr1 : DT 1 H rs := ⟨tr.1, fun a xs e he y hy => (tr.2 a xs e he y hy).th⟩
          rw [roomsA_mono sm2 tr1]
          rw [lstA_of hw] at q
          exact q _ (sm2.trans s3)
        · have : wordsA H s ws = false := by unfold wordsA; rw [lstA_no hnl]
          rw [this] at ea; cases ea
    · rw [decide_eq_false hs] at q ⊢
      refine ite2 (fun _ => ?_) (fun c => absurd rfl c)
      exact q _ sm
  | _ => exact ite2 (fun _ => other rfl _ (Same.refl _)) (fun c => absurd rfl c)
end
def WordsOk (r : Rl) : Prop := r.ws.all (wordOf r.s) = true ∧ risingB r.ws = true
def spRule02 (K : PySem.W.Frag) : Sp := fun vs H Q _ => ∃ (a : Addr) (ns : List Int), vs = [.ref a] ∧ SqL K H a (ns.map V.int) ∧ ns.length ≤ 63 ∧ ∀ (p : Addr) (H' : Hp) (r : Rl), Same H H' → RuleAt H' p r → RlOk r → WordsOk r → Q (.ref p) H'
section
variable {P : Program} {w : World} {K : PySem.W.Frag} {mg : Str → Option Value} {base : Heap}
theorem ok_rule (D : DefAt K mg "_law_rule" s_law_rule) (z_range : mg "range" = none) (z_min : mg "min" = none) (z_len : mg "len" = none) (c_law_cell_at : Cal P w K mg base 1 "_law_cell_at" ["_law_script", "_law_k"] (spCell K)) (c_law_words : Cal P w K mg base 3 "_law_words" ["_law_cell", "_law_many", "_law_sides"] spWordsN)
    (c_law_mixed : Cal P w K mg base 1 "_law_mixed" ["_law_cell", "_law_many"] spMixed) (c_law_way : Cal P w K mg base 1 "_law_way" ["_law_number", "_law_share", "_law_many"] spWay) : Cal P w K mg base 4 "_law_rule" ["_law_script"] (spRule02 K) := by
  refine D.cal sc_law_rule (fun _ _ _ _ _ _ us hl => match us, hl with | [_], _ => rfl) (fun vs H Q E h => by obtain ⟨a, ns, rfl, _⟩ := h; rfl) (fun f cdv A outer s H vs Q E hr h => ?_)
  obtain ⟨a, ns, rfl, hS, h63, q⟩ := h
  refine ⟨_, (pss_cons (ps_let 1 sc_law_rule.nd (pe_cal c_law_cell_at hr (pa_cons (pv 0 (hv := v_law_rule__law_script)) (pa_cons pe_int pa_nil)) (hg := gl_law_rule__law_cell_at)) (hx := l_law_rule__law_first))
      (pss_cons (ps_let 2 sc_law_rule.nd (pe_op op_addA pe_int (pe_op op_mod (pv 1 (hv := v_law_rule__law_first)) pe_int)) (hx := l_law_rule__law_sides))
      (pss_cons (ps_let 3 sc_law_rule.nd (pe_op op_mod (pe_op op_fdiv (pv 1 (hv := v_law_rule__law_first)) pe_int) pe_int) (hx := l_law_rule__law_many))
      (pss_cons (ps_if (pt_cmpR op_eqA (pe_op op_mod (pe_op op_fdiv (pv 1 (hv := v_law_rule__law_first)) pe_int) pe_int) pe_int (nomark _)) (pss_one (ps_let 3 sc_law_rule.nd pe_int (hx := l_law_rule__law_many))) pss_nil)
      (pss_cons (ps_let 4 sc_law_rule.nd (pe_op op_addA pe_int (pe_op op_mod (pe_op op_fdiv (pe_cal c_law_cell_at hr (pa_cons (pv 0 (hv := v_law_rule__law_script)) (pa_cons pe_int pa_nil)) (hg := gl_law_rule__law_cell_at)) pe_int) pe_int)) (hx := l_law_rule__law_size))
      (pss_cons (ps_if (pt_cmpR op_eqA (pe_op op_mod (pe_op op_fdiv (pe_cal c_law_cell_at hr (pa_cons (pv 0 (hv := v_law_rule__law_script)) (pa_cons pe_int pa_nil)) (hg := gl_law_rule__law_cell_at)) pe_int) pe_int) pe_int (nomark _)) (pss_one (ps_let 4 sc_law_rule.nd (pe_op op_addA pe_int (pe_op op_mod (pe_op op_fdiv (pe_cal c_law_cell_at hr (pa_cons (pv 0 (hv := v_law_rule__law_script)) (pa_cons pe_int pa_nil)) (hg := gl_law_rule__law_cell_at)) pe_int) pe_int)) (hx := l_law_rule__law_size))) pss_nil)
      (pss_cons (ps_let 5 sc_law_rule.nd (pe_cal c_law_words hr (pa_cons (pe_cal c_law_cell_at hr (pa_cons (pv 0 (hv := v_law_rule__law_script)) (pa_cons pe_int pa_nil)) (hg := gl_law_rule__law_cell_at)) (pa_cons (pv 3 (hv := v_law_rule__law_many)) (pa_cons (pv 2 (hv := v_law_rule__law_sides)) pa_nil))) (hg := gl_law_rule__law_words)) (hx := l_law_rule__law_words_here))
      (pss_cons (ps_let 6 sc_law_rule.nd (pe_ix (ix_K K) (pe_lst (pa_cons pe_int (pa_cons pe_int (pa_cons pe_int (pa_cons pe_int pa_nil))))) (pe_op op_mod (pe_cal c_law_cell_at hr (pa_cons (pv 0 (hv := v_law_rule__law_script)) (pa_cons pe_int pa_nil)) (hg := gl_law_rule__law_cell_at)) pe_int) (fun _ _ => rfl)) (hx := l_law_rule__law_share))
      (pss_cons (ps_let 7 sc_law_rule.nd (pe_cal c_law_mixed hr (pa_cons (pe_cal c_law_cell_at hr (pa_cons (pv 0 (hv := v_law_rule__law_script)) (pa_cons pe_int pa_nil)) (hg := gl_law_rule__law_cell_at)) (pa_cons (pe_op op_mulB (pv 3 (hv := v_law_rule__law_many)) (pv 4 (hv := v_law_rule__law_size))) pa_nil)) (hg := gl_law_rule__law_mixed)) (hx := l_law_rule__law_xs))
      (pss_cons (ps_for PassesOwn.never rfl (pi_range1 gl_law_rule_range z_range (pa_cons (pe_blt call_minA z_min bt_min (pa_cons (pe_op op_sub (pe_blt (call_lenK K) z_len bt_len (pa_cons (pv 0 (hv := v_law_rule__law_script)) pa_nil) (hg := gl_law_rule_len)) pe_int) (pa_cons (pe_op op_mulB (pv 3 (hv := v_law_rule__law_many)) (pv 4 (hv := v_law_rule__law_size))) pa_nil)) (hg := gl_law_rule_min)) pa_nil)) (pg_let 8 sc_law_rule.nd (hx := l_law_rule__law_k)) (pss_one (ps_asg (pe_op op_mod (pe_ix (ix_K K) (pv 0 (hv := v_law_rule__law_script)) (pe_op op_addA pe_int (pv 8 (hv := v_law_rule__law_k))) (fun _ _ => rfl)) pe_int) (pg_sub (pv 7 (hv := v_law_rule__law_xs)) (pv 8 (hv := v_law_rule__law_k)) set_A))))
      (pss_cons (ps_let 9 sc_law_rule.nd (pe_lst pa_nil) (hx := l_law_rule__law_rooms))
      (pss_cons (ps_for PassesOwn.never rfl (pi_range1 gl_law_rule_range z_range (pa_cons (pv 4 (hv := v_law_rule__law_size)) pa_nil)) (pg_let 10 sc_law_rule.nd (hx := l_law_rule__law_r)) (pss_one (ps_expr (pe_bmK K PySem.F.plainAttrs_list PySem.F.slot_list_append PySem.F.type_list_append mt_appendA (pv 9 (hv := v_law_rule__law_rooms)) (pa_cons (pe_comp (CompSc.to (fsc := (defScope s_law_rule)) (N := ["_law_script", "_law_first", "_law_sides", "_law_many", "_law_size", "_law_words_here", "_law_share", "_law_xs", "_law_k", "_law_rooms", "_law_r"]) (N0 := ["_law_script", "_law_first", "_law_sides", "_law_many", "_law_size", "_law_words_here", "_law_share", "_law_xs", "_law_k", "_law_rooms", "_law_r"]) (T := ["_law_j"]) ⟨by decide +kernel, by decide +kernel, by decide +kernel, by decide +kernel, by decide +kernel, by decide +kernel, by decide +kernel⟩ rfl rfl) rfl (pi_range1 gl_law_rule_range z_range (pa_cons (pv 3 (hv := v_law_rule__law_many)) pa_nil)) (fun _ _ _ _ => (pg_let 11 (show (["_law_script", "_law_first", "_law_sides", "_law_many", "_law_size", "_law_words_here", "_law_share", "_law_xs", "_law_k", "_law_rooms", "_law_r", "_law_j"] : List Str).Nodup from by decide +kernel) (hx := (locC (defScope s_law_rule) (by decide +kernel))) (hf := fnC (defScope s_law_rule) (by decide +kernel)))) (gfr_name (show (["_law_script", "_law_first", "_law_sides", "_law_many", "_law_size", "_law_words_here", "_law_share", "_law_xs", "_law_k", "_law_rooms", "_law_r"] : List Str).length ≤ 11 from by decide)) (fun _ _ _ _ => pifs_nil) (fun _ _ _ _ => (pe_cal c_law_way hr (pa_cons (pe_ix (ix_K K) (pv 7 (hv := (visC (defScope s_law_rule) (by decide +kernel)))) (pe_op op_addA (pe_op op_mulB (pv 3 (hv := (visC (defScope s_law_rule) (by decide +kernel)))) (pv 10 (hv := (visC (defScope s_law_rule) (by decide +kernel))))) (pv 11 (hv := (visC (defScope s_law_rule) (by decide +kernel))))) (fun _ _ => rfl)) (pa_cons (pv 6 (hv := (visC (defScope s_law_rule) (by decide +kernel)))) (pa_cons (pv 4 (hv := (visC (defScope s_law_rule) (by decide +kernel)))) pa_nil))) (hg := (glC (defScope s_law_rule) (by decide +kernel)))))) pa_nil)))))
      (pss_one (ps_ret (pe_tup (pa_cons (pv 2 (hv := v_law_rule__law_sides)) (pa_cons (pv 5 (hv := v_law_rule__law_words_here)) (pa_cons (pv 9 (hv := v_law_rule__law_rooms)) pa_nil)))))))))))))))))), ?_⟩
  walk_at "rd1"
  refine ⟨a, ns, 0, rfl, hS, by decide, ?_⟩
  generalize ns.getD (Int.toNat 0) 0 = c0
  walk_at "nx"
  refine ⟨by decide, ?_⟩
  generalize hsd : 1 + c0 % 2 = sd
  have hsd' : sd = 1 ∨ sd = 2 := by omega
  walk_at "nx"
  refine ⟨⟨by decide, by decide⟩, by decide, ?_⟩
  refine seq_by (fun σ' H' => ∃ n : Int, 0 ≤ n ∧ n ≤ 16 ∧ σ' = [some (.ref a), some (.int c0), some (.int sd), some (.int n), none, none, none, none, none, none, none] ∧ H = H') (fun k hk => ?_) ?_
  · walk_at "rd1"
    refine ⟨⟨by decide, by decide⟩, by decide, ite2 (fun _ => ?_) (fun _ => ?_)⟩
    · exact hk _ _ ⟨16, by decide, by decide, rfl, rfl⟩
    · exact hk _ _ ⟨_, by omega, by omega, rfl, rfl⟩
  rintro σ' H' ⟨n, n0, n1, rfl, rfl⟩
  walk_at "nx"
  refine ⟨a, ns, 2, rfl, hS, by decide, ?_⟩
  walk_at "rd1"
  refine ⟨⟨by decide, by decide⟩, by decide, ?_⟩
  refine seq_by (fun σ' H' => ∃ z : Int, 1 ≤ z ∧ z ≤ 60 ∧ σ' = [some (.ref a), some (.int c0), some (.int sd), some (.int n), some (.int z), none, none, none, none, none, none] ∧ H = H') (fun k hk => ?_) ?_
  · walk_at "rd1"
    refine ⟨a, ns, 2, rfl, hS, by decide, ?_⟩
    walk_at "rd1"
    refine ⟨⟨by decide, by decide⟩, by decide, ite2 (fun _ => ?_) (fun _ => ?_)⟩
    · refine ⟨a, ns, 2, rfl, hS, by decide, ?_⟩
      walk_at "rd1"
      exact ⟨⟨by decide, by decide⟩, by decide, hk _ _ ⟨_, by omega, by omega, rfl, rfl⟩⟩
    · exact hk _ _ ⟨_, by omega, by omega, rfl, rfl⟩
  rintro σ' H' ⟨z, z0, z1, rfl, rfl⟩
  obtain ⟨b0, b1⟩ := mul_16_60 n0 n1 z0 z1
  walk_at "nx"
  refine ⟨a, ns, 1, rfl, hS, by decide, ?_⟩
  refine ⟨_, n, sd, rfl, n0, n1, hsd', fun wp H1 ws sm1 hwp hwl hwn hwb hwd hws => ?_⟩
  walk_at "nx"
  refine ⟨by decide, fun lp hlp => ?_⟩
  generalize hH2 : upd H1 lp _ = H2
  have sm2 := al_same hH2 hlp
  have e2 := al_at hH2
  refine ⟨a, ns, 2, rfl, (sm1.trans sm2).seq hS, by decide, ?_⟩
  generalize ns.getD (Int.toNat 2) 0 = c2
  walk_at "rd1"
  obtain ⟨sh, hsh, sh0, sh1⟩ := share_at [2, 5, 9, 1000003] c2 rfl (by decide)
  refine ⟨by decide, ⟨_, _, .inl (SqL.of e2), hsh, ?_⟩⟩
  walk_at "nx"
  refine ⟨a, ns, 2, rfl, (sm1.trans sm2).seq hS, by decide, ?_⟩
  walk_at "rd1"
  refine ⟨.inl ⟨by omega, by omega⟩, _, _, rfl, b0, by omega, fun xp H3' ms' sm3' hxp hxl' hxn' _ => ?_⟩
  refine seq_by (fun σ' H3 => ∃ (ms : List Int) (o : Option V), σ' = [some (.ref a), some (.int c0), some (.int sd), some (.int n), some (.int z), some (.ref wp), some (.int sh), some (.ref xp), o, none, none] ∧ Same H2 H3 ∧ H3 xp = some (.lst (ms.map V.int)) ∧ (ms.length : Int) = n * z) (fun k hk => ?_) ?_
  · walk_at "rd1"
    refine ⟨_, .inl ((sm1.trans (sm2.trans sm3')).seq hS), .inl ⟨by omega, by omega⟩, ?_⟩
    rw [List.length_map]
    generalize hmn : (if n * z < (ns.length : Int) - 5 then n * z else (ns.length : Int) - 5) = mn
    have hmn1 : mn ≤ n * z := by rw [← hmn]; split <;> omega
    have hmn2 : mn ≤ (ns.length : Int) - 5 := by rw [← hmn]; split <;> omega
    have hmn0 : -1000 ≤ mn := by rw [← hmn]; split <;> omega
    refine ⟨by omega, by omega, ?_⟩
    refine forW_range (fun i σ' H3 => ∃ (ms : List Int) (o : Option V), σ' = [some (.ref a), some (.int c0), some (.int sd), some (.int n), some (.int z), some (.ref wp), some (.int sh), some (.ref xp), o, none, none] ∧ Same H2 H3 ∧ H3 xp = some (.lst (ms.map V.int)) ∧ (ms.length : Int) = n * z)
      ⟨ms', none, rfl, sm3', hxl', hxn'⟩ ?_ (fun σ' H3 h => hk _ _ h)
    rintro i σ H3 hi ⟨ms, o, rfl, sm3, hxl, hxn⟩
    have hi1 : (i : Int) < mn := by omega
    walk_at "rd1"
    obtain ⟨v, hv, _⟩ := at_lst (xs := ns) (i := 5 + (0 + (i : Int))) (by omega) (by omega)
    refine ⟨_, _, .inl ((sm1.trans (sm2.trans sm3)).seq hS), at_map (by omega) hv, ?_⟩
    walk_at "rd1"
    refine ⟨by decide, _, i, hxl, ?_, ?_⟩
    · rw [List.length_map]
      unfold ixN
      rw [if_pos (by omega), if_pos (by omega)]
      congr 1
      omega
    · refine ⟨ms.set i (v % 998244353), _, rfl, sm3.upd hxp _, ?_, by rw [List.length_set]; exact hxn⟩
      rw [upd_same, List.map_set]
  rintro σ' H3 ⟨ms, ok, rfl, sm3, hxl, hxn⟩
  walk_at "nx"
  refine ⟨by decide, fun rp hrp => ?_⟩
  generalize hH4 : upd H3 rp _ = H4
  have sm4 := al_same hH4 hrp
  have e4 := al_at hH4
  have sm13 : Same H1 H3 := sm2.trans sm3
  walk_at "nx"
  refine ⟨by omega, by omega, ?_⟩
  refine forW_range (fun i σ H' => ∃ (as : List Addr) (rows : List (List (Option Nat))) (o : Option V), σ = [some (.ref a), some (.int c0), some (.int sd), some (.int n), some (.int z), some (.ref wp), some (.int sh), some (.ref xp), ok, some (.ref rp), o] ∧ Same H3 H' ∧ H' rp = some (.lst (as.map V.ref)) ∧ as.length = i ∧ rows.length = i
      ∧ (∀ (j : Nat) b x, as[j]? = some b → rows[j]? = some x → H' b = some (.lst (x.map wayV)) ∧ b ≠ rp) ∧ ∀ x ∈ rows, (x.length : Int) = n ∧ ∀ k, some k ∈ x → (k : Int) < z)
    ⟨[], [], none, rfl, sm4, e4, rfl, rfl, by simp, by simp⟩ ?_ ?_
  · rintro i σ H' hi ⟨as, rows, o, rfl, sm, hl, hn, hn', hrow, hrb⟩
    have hiz : (i : Int) < z := by omega
    walk_at "rd1"
    refine ⟨⟨_, SqL.of hl⟩, by omega, by omega, fun L hL => ?_⟩
    have nL : L ≠ rp := Ne.symm (ne_of_none hl hL)
    refine compW_range (fun j ys H'' => ∃ x : List (Option Nat), Same H' H'' ∧ H'' L = some (.lst ys) ∧ ys = x.map wayV ∧ x.length = j ∧ ∀ k, some k ∈ x → (k : Int) < z) ⟨[], same_new hL _, upd_same, rfl, rfl, by simp⟩ ?_ ?_
    · rintro j ys H'' hj ⟨x, smx, hlx, rfl, hx, hxk⟩
      have hjn : (j : Int) < n := by omega
      walk_at "rd1"
      obtain ⟨m, hm, _⟩ := at_lst (xs := ms) (i := n * (0 + (i : Int)) + (0 + (j : Int))) (mul_nn n0 (by omega) (by omega)) (by rw [hxn]; exact mul_in n0 (by omega) (by omega))
      refine ⟨.inl ⟨by omega, by omega⟩, ⟨_, _, .inl (SqL.of ((sm.trans smx) _ _ hxl)), (at_map (mul_nn n0 (by omega) (by omega)) hm), ?_⟩⟩
      walk_at "rd1"
      refine ⟨_, _, _, rfl, sh0, sh1, by omega, by omega, fun o ho => ?_⟩
      refine cstep hj (by rw [List.length_map]; exact hx) (smallL (by omega)) hlx ⟨x ++ [o], smx.upd hL _, upd_same, map_push _ _, len_push hx, fun k hk => ?_⟩
      rcases List.mem_append.mp hk with z' | z'
      · exact hxk k z'
      · exact ho k (List.mem_singleton.mp z').symm
    · rintro ys H'' ⟨x, smx, hlx, rfl, hx, hxk⟩
      walk_at "rd1"
      refine ⟨_, smx _ _ hl, by rw [List.length_map]; exact small' (by omega), ?_⟩
      have hxn' : (x.length : Int) = n := by omega
      refine ⟨as ++ [L], rows ++ [x], _, rfl, (sm.trans smx).upd hrp _, ?_, by simp [hn], by simp [hn'], ?_, ?_⟩
      · rw [upd_same, List.map_append]; rfl
      · intro j b y e1 e2
        rcases Nat.lt_or_ge j i with z' | z'
        · rw [List.getElem?_append_left (by omega)] at e1 e2
          obtain ⟨q1, q2⟩ := hrow j b y e1 e2
          exact ⟨by rw [upd_ne q2]; exact smx _ _ q1, q2⟩
        · rw [List.getElem?_append_right (by omega)] at e1 e2
          have hj0 : j - as.length = 0 := by
            have := (List.getElem?_eq_some_iff.mp e1).1
            simp at this; omega
          have hj1 : j - rows.length = 0 := by omega
          rw [hj0] at e1
          rw [hj1] at e2
          have e1' : L = b := by simpa using e1
          have e2' : x = y := by simpa using e2
          subst e1' e2'
          exact ⟨by rw [upd_ne nL]; exact hlx, nL⟩
      · exact all_push hrb ⟨hxn', hxk⟩
  · rintro σ H' ⟨as, rows, o, rfl, sm, hl, hn, hn', hrow, hrb⟩
    walk_at "nx"
    refine ⟨by decide, fun tp htp => ?_⟩
    have smt := same_new htp (.tup [.int sd, .ref wp, .ref rp])
    refine q tp _ ⟨sd, ws, rows⟩ (((sm1.trans sm13).trans sm).trans smt) ⟨wp, rp, as, upd_same, smt _ _ (sm _ _ (sm13 _ _ hwl)), smt _ _ hl, by show as.length = rows.length; omega, fun j b x e1 e2 => smt _ _ (hrow j b x e1 e2).1⟩
      ⟨hsd', by show ws.length ≤ 16; omega, by show 1 ≤ rows.length; omega, by show rows.length ≤ 60; omega, fun x hx => ?_, fun u hu => (hwb u hu).2⟩ ⟨List.all_eq_true.mpr fun u hu => (hwb u hu).1, rising_of ws hws hwd⟩
    obtain ⟨x1, x2⟩ := hrb x hx
    exact ⟨by show x.length = ws.length; omega, fun k hk => by have := x2 k hk; show k < rows.length; omega⟩
end
theorem same_none {H H' : Hp} {a : Addr} (s : Same H H') (h : H' a = none) : H a = none := by
  cases e : H a with
  | none => rfl
  | some o => rw [s _ _ e] at h; cases h
/-- a rule all of whose lists are new -/
def FreshC (H H' : Hp) (p : Addr) (r : Rl) : Prop := ∃ pw pr as, H' p = some (.tup [.int r.s, .ref pw, .ref pr]) ∧ H' pw = some (.lst (r.ws.map V.str)) ∧ RoomsAs H' pr r.rs as ∧ H p = none ∧ H pw = none ∧ H pr = none ∧ (∀ a ∈ as, H a = none) ∧ as.Nodup ∧ pw ∉ as ∧ pr ∉ as ∧ pw ≠ pr
theorem FreshC.at {H H' : Hp} {p : Addr} {r : Rl} (h : FreshC H H' p r) : RuleAt H' p r := let ⟨pw, pr, as, h1, h2, h3, _⟩ := h; ⟨pw, pr, as, h1, h2, h3⟩
theorem FreshC.mono {H H' H2 : Hp} {p : Addr} {r : Rl} (h : FreshC H H' p r) (sm : Same H' H2) : FreshC H H2 p r := let ⟨pw, pr, as, h1, h2, h3, h4⟩ := h; ⟨pw, pr, as, sm _ _ h1, sm _ _ h2, h3.mono sm, h4⟩
def spCopy : Sp := fun vs H Q _ => ∃ (p : Addr) (r : Rl), vs = [.ref p] ∧ RuleAt H p r ∧ RlOk r ∧ ∀ (t : Addr) (H' : Hp), Same H H' → FreshC H H' t r → Q (.ref t) H'
section
variable {P : Program} {w : World} {K : PySem.W.Frag} {mg : Str → Option Value} {base : Heap}
theorem ok_copyof (D : DefAt K mg "copy_of" s_copy_of) (z_list : mg "list" = none) : Cal P w K mg base 1 "copy_of" ["rule"] spCopy := by
  refine D.cal (k := 0) sc_copy_of (fun _ _ _ _ _ _ us hl => match us, hl with | [_], _ => rfl) (fun vs H Q E h => by obtain ⟨p, r, rfl, _⟩ := h; rfl) (fun f cdv A outer s H vs Q E hr h => ?_)
  obtain ⟨p, r, rfl, ⟨pw, pr, as, h1, h2, h3⟩, ok, q⟩ := h
  refine ⟨_, (pss_one (ps_ret (pe_tup (pa_cons (pe_ix (ix_K K) (pv 0 (hv := v_copy_of_rule)) pe_int (fun _ _ => rfl)) (pa_cons (pe_bty (call_listA K) z_list bt_list (pa_cons (pe_ix (ix_K K) (pv 0 (hv := v_copy_of_rule)) pe_int (fun _ _ => rfl)) pa_nil) (hg := gl_copy_of_list)) (pa_cons (pe_comp (CompSc.to (fsc := (defScope s_copy_of)) (N := ["rule"]) (N0 := ["rule"]) (T := ["room"]) ⟨by decide +kernel, by decide +kernel, by decide +kernel, by decide +kernel, by decide +kernel, by decide +kernel, by decide +kernel⟩ rfl rfl) rfl (pi_listK K (pe_ix (ix_K K) (pv 0 (hv := v_copy_of_rule)) pe_int (fun _ _ => rfl))) (fun _ _ _ _ => (pg_let 1 (show (["rule", "room"] : List Str).Nodup from by decide +kernel) (hx := (locC (defScope s_copy_of) (by decide +kernel))) (hf := fnC (defScope s_copy_of) (by decide +kernel)))) (gfr_name (show (["rule"] : List Str).length ≤ 1 from by decide)) (fun _ _ _ _ => pifs_nil) (fun _ _ _ _ => (pe_bty (call_listA K) z_list bt_list (pa_cons (pv 1 (hv := (visC (defScope s_copy_of) (by decide +kernel)))) pa_nil) (hg := (glC (defScope s_copy_of) (by decide +kernel)))))) pa_nil)))))), ?_⟩
  walk_at "rd1"
  refine ⟨_, _, .inr (SqT.of h1), at0, ?_⟩
  refine ⟨_, _, .inr (SqT.of h1), atI_nat (j := 1) rfl, ?_⟩
  walk_at "rd1"
  refine ⟨_, .inl (SqL.of h2), fun wl hwl => ?_⟩
  generalize hH1 : upd H wl _ = H1
  have sm1 := al_same hH1 hwl
  have e1 := al_at hH1
  refine ⟨_, _, .inr (SqT.of (sm1 _ _ h1)), atI_nat (j := 2) rfl, ?_⟩
  have h31 := h3.mono sm1
  walk_at "rd1"
  refine ⟨⟨_, SqL.of h31.1⟩, fun L hL => ?_⟩
  refine copy_rooms h31 ok.n1 hL (fun a xs H' C z1 z2 => ?_) (fun H2 bs sm2 hB hbn hnd => ?_)
  · walk_at "rd1"
    exact ⟨_, .inl (SqL.of z1), z2⟩
  walk_at "rd1"
  refine ⟨by decide, fun t ht => ?_⟩
  have sm3 := same_new ht (.tup [.int r.s, .ref wl, .ref L])
  have sm12 := sm1.trans sm2
  refine q t _ (sm12.trans sm3) ⟨wl, L, bs, upd_same, sm3 _ _ (sm2 _ _ e1), hB.mono sm3, same_none sm12 ht, hwl, same_none sm1 hL, fun b hb => same_none sm1 (hbn b hb).1, hnd, fun hm => ?_, fun hm => (hbn L hm).2 rfl, (ne_of_none e1 hL)⟩
  have := (hbn wl hm).1
  rw [e1] at this; cases this
theorem ok_lawcopy (D : DefAt K mg "_law_copy" s_law_copy) (z_list : mg "list" = none) : Cal P w K mg base 1 "_law_copy" ["_law_rule_here"] spCopy := by
  refine D.cal (k := 0) sc_law_copy (fun _ _ _ _ _ _ us hl => match us, hl with | [_], _ => rfl) (fun vs H Q E h => by obtain ⟨p, r, rfl, _⟩ := h; rfl) (fun f cdv A outer s H vs Q E hr h => ?_)
  obtain ⟨p, r, rfl, ⟨pw, pr, as, h1, h2, h3⟩, ok, q⟩ := h
  refine ⟨_, (pss_one (ps_ret (pe_tup (pa_cons (pe_ix (ix_K K) (pv 0 (hv := v_law_copy__law_rule_here)) pe_int (fun _ _ => rfl)) (pa_cons (pe_bty (call_listA K) z_list bt_list (pa_cons (pe_ix (ix_K K) (pv 0 (hv := v_law_copy__law_rule_here)) pe_int (fun _ _ => rfl)) pa_nil) (hg := gl_law_copy_list)) (pa_cons (pe_comp (CompSc.to (fsc := (defScope s_law_copy)) (N := ["_law_rule_here"]) (N0 := ["_law_rule_here"]) (T := ["_law_room"]) ⟨by decide +kernel, by decide +kernel, by decide +kernel, by decide +kernel, by decide +kernel, by decide +kernel, by decide +kernel⟩ rfl rfl) rfl (pi_listK K (pe_ix (ix_K K) (pv 0 (hv := v_law_copy__law_rule_here)) pe_int (fun _ _ => rfl))) (fun _ _ _ _ => (pg_let 1 (show (["_law_rule_here", "_law_room"] : List Str).Nodup from by decide +kernel) (hx := (locC (defScope s_law_copy) (by decide +kernel))) (hf := fnC (defScope s_law_copy) (by decide +kernel)))) (gfr_name (show (["_law_rule_here"] : List Str).length ≤ 1 from by decide)) (fun _ _ _ _ => pifs_nil) (fun _ _ _ _ => (pe_bty (call_listA K) z_list bt_list (pa_cons (pv 1 (hv := (visC (defScope s_law_copy) (by decide +kernel)))) pa_nil) (hg := (glC (defScope s_law_copy) (by decide +kernel)))))) pa_nil)))))), ?_⟩
  walk_at "rd1"
  refine ⟨_, _, .inr (SqT.of h1), at0, ?_⟩
  refine ⟨_, _, .inr (SqT.of h1), atI_nat (j := 1) rfl, ?_⟩
  walk_at "rd1"
  refine ⟨_, .inl (SqL.of h2), fun wl hwl => ?_⟩
  generalize hH1 : upd H wl _ = H1
  have sm1 := al_same hH1 hwl
  have e1 := al_at hH1
  refine ⟨_, _, .inr (SqT.of (sm1 _ _ h1)), atI_nat (j := 2) rfl, ?_⟩
  have h31 := h3.mono sm1
  walk_at "rd1"
  refine ⟨⟨_, SqL.of h31.1⟩, fun L hL => ?_⟩
  refine copy_rooms h31 ok.n1 hL (fun a xs H' C z1 z2 => ?_) (fun H2 bs sm2 hB hbn hnd => ?_)
  · walk_at "rd1"
    exact ⟨_, .inl (SqL.of z1), z2⟩
  walk_at "rd1"
  refine ⟨by decide, fun t ht => ?_⟩
  have sm3 := same_new ht (.tup [.int r.s, .ref wl, .ref L])
  have sm12 := sm1.trans sm2
  refine q t _ (sm12.trans sm3) ⟨wl, L, bs, upd_same, sm3 _ _ (sm2 _ _ e1), hB.mono sm3, same_none sm12 ht, hwl, same_none sm1 hL, fun b hb => same_none sm1 (hbn b hb).1, hnd, fun hm => ?_, fun hm => (hbn L hm).2 rfl, (ne_of_none e1 hL)⟩
  have := (hbn wl hm).1
  rw [e1] at this; cases this
end
def spAlike : Sp := fun vs H Q _ => ∃ (p p0 : Addr) (r : Rl), vs = [.ref p, .ref p0] ∧ RuleAt H p r ∧ RuleAt H p0 r ∧ RlOk r ∧ ∀ H', Same H H' → Q (.bl true) H'
section
variable {P : Program} {w : World} {K : PySem.W.Frag} {mg : Str → Option Value} {base : Heap}
theorem ok_alike (D : DefAt K mg "_law_alike" s_law_alike) (z_isinstance : mg "isinstance" = none) (z_tuple : mg "tuple" = none) (z_len : mg "len" = none) (z_list : mg "list" = none) : Cal P w K mg base 1 "_law_alike" ["_law_found", "_law_rule_here"] spAlike := by
  refine D.cal (k := 0) sc_law_alike (fun _ _ _ _ _ _ us hl => match us, hl with | [_, _], _ => rfl) (fun vs H Q E h => by obtain ⟨p, p0, r, rfl, _⟩ := h; rfl) (fun f cdv A outer s H vs Q E hr h => ?_)
  obtain ⟨p, p0, r, rfl, hR, hR0, ok, q⟩ := h
  obtain ⟨pw, pr, as, h1, h2, h3⟩ := id hR
  refine ⟨_, (pss_cons (ps_if (PW.pt' (pw_or (pt_not (pt_val (pe_blt call_isT z_isinstance bt_isinstance (pa_cons (pv 0 (hv := v_law_alike__law_found)) (pa_cons (pe_gty z_tuple bt_tuple (hg := gl_law_alike_tuple)) pa_nil)) (hg := gl_law_alike_isinstance)))) (pw_or (pt_cmpR op_neA (pe_blt (call_lenK K) z_len bt_len (pa_cons (pv 0 (hv := v_law_alike__law_found)) pa_nil) (hg := gl_law_alike_len)) pe_int (nomark _)) (pw_or (pt_cmpR op_isB (pe_ix (ix_K K) (pv 0 (hv := v_law_alike__law_found)) pe_int (fun _ _ => rfl)) pe_bl (nomark _)) (pw_or1 (pt_cmpR (op_neKD K hr) (pv 0 (hv := v_law_alike__law_found)) (pv 1 (hv := v_law_alike__law_rule_here)) (nomark _))))))) (pss_one (ps_ret pe_bl)) pss_nil)
      (pss_cons (ps_for PassesOwn.never rfl (pi_listK K (pe_ix (ix_K K) (pv 0 (hv := v_law_alike__law_found)) pe_int (fun _ _ => rfl))) (pg_let 2 sc_law_alike.nd (hx := l_law_alike__law_room)) (pss_one (ps_if (PW.pt' (pw_or (pt_not (pt_val (pe_blt call_isT z_isinstance bt_isinstance (pa_cons (pv 2 (hv := v_law_alike__law_room)) (pa_cons (pe_gty z_list bt_list (hg := gl_law_alike_list)) pa_nil)) (hg := gl_law_alike_isinstance)))) (pw_or1 (pt_cmpR (op_inK K) pe_bl (pe_comp (CompSc.to (fsc := (defScope s_law_alike)) (N := ["_law_found", "_law_rule_here", "_law_room"]) (N0 := ["_law_found", "_law_rule_here", "_law_room"]) (T := ["_law_to"]) ⟨by decide +kernel, by decide +kernel, by decide +kernel, by decide +kernel, by decide +kernel, by decide +kernel, by decide +kernel⟩ rfl rfl) rfl (pi_listK K (pv 2 (hv := v_law_alike__law_room))) (fun _ _ _ _ => (pg_let 3 (show (["_law_found", "_law_rule_here", "_law_room", "_law_to"] : List Str).Nodup from by decide +kernel) (hx := (locC (defScope s_law_alike) (by decide +kernel))) (hf := fnC (defScope s_law_alike) (by decide +kernel)))) (gfr_name (show (["_law_found", "_law_rule_here", "_law_room"] : List Str).length ≤ 3 from by decide)) (fun _ _ _ _ => pifs_nil) (fun _ _ _ _ => (pe_or (pe_cmpR op_isB (pv 3 (hv := (visC (defScope s_law_alike) (by decide +kernel)))) pe_bl (nomark _)) (pe_one (pe_cmpR op_isB (pv 3 (hv := (visC (defScope s_law_alike) (by decide +kernel)))) pe_bl (nomark _)))))) (by with_unfolding_all rfl))))) (pss_one (ps_ret pe_bl)) pss_nil)))
      (pss_one (ps_ret (pe_and (pe_blt call_isT z_isinstance bt_isinstance (pa_cons (pe_ix (ix_K K) (pv 0 (hv := v_law_alike__law_found)) pe_int (fun _ _ => rfl)) (pa_cons (pe_gty z_list bt_list (hg := gl_law_alike_list)) pa_nil)) (hg := gl_law_alike_isinstance)) (pe_one (pe_blt call_isT z_isinstance bt_isinstance (pa_cons (pe_ix (ix_K K) (pv 0 (hv := v_law_alike__law_found)) pe_int (fun _ _ => rfl)) (pa_cons (pe_gty z_list bt_list (hg := gl_law_alike_list)) pa_nil)) (hg := gl_law_alike_isinstance)))))))), ?_⟩
  walk_at "rd1"
  refine ⟨"tuple", by simp [tyName, h1], by decide, ite2 (fun c => absurd c (by decide)) (fun _ => ?_)⟩
  refine ⟨_, .inr (SqT.of h1), ite2 (fun c => absurd c (by simp)) (fun _ => ?_)⟩
  refine ⟨_, _, .inr (SqT.of h1), at0, rfl, ite2 (fun c => absurd c (by simp)) (fun _ => ?_)⟩
  refine ⟨2, true, by decide, rule_eq hR hR0, ite2 (fun c => absurd c (by decide)) (fun _ => ?_)⟩
  walk_at "nx"
  refine ⟨_, _, .inr (SqT.of h1), atI_nat (j := 2) rfl, ?_⟩
  walk_at "rd1"
  refine ⟨⟨_, SqL.of h3.1⟩, ?_⟩
  have hal : as.length = r.rs.length := h3.2.1
  have n1 := ok.n1
  have nw := ok.nw
  refine forW_list (xs := as.map V.ref) (fun i σ H' => ∃ o : Option V, σ = [some (.ref p), some (.ref p0), o] ∧ Same H H') ⟨none, rfl, Same.refl _⟩ (fun i σ H' _ h => by obtain ⟨_, _, sm⟩ := h; exact SqL.of (sm _ _ h3.1)) ?_ ?_
  · rintro i v σ H' hv ⟨o, rfl, sm⟩
    have hi := (List.getElem?_eq_some_iff.mp hv).1
    rw [List.length_map] at hi
    rw [List.getElem?_map, List.getElem?_eq_getElem hi] at hv
    cases hv
    have hir : i < r.rs.length := by omega
    have hbi := sm _ _ (h3.2.2 i as[i] r.rs[i] (List.getElem?_eq_getElem hi) (List.getElem?_eq_getElem hir))
    have hxl := (ok.row _ (List.getElem_mem hir)).1
    generalize r.rs[i] = x at hbi hxl
    generalize as[i] = b at hbi
    walk_at "rd1"
    refine ⟨"list", by simp [tyName, hbi], by decide, ite2 (fun c => absurd c (by decide)) (fun _ => ?_)⟩
    refine ⟨⟨_, SqL.of hbi⟩, fun L hL => ?_⟩
    refine compW_list (xs := x.map wayV) (fun j zs H'' => Same H' H'' ∧ H'' L = some (.lst zs) ∧ zs = List.replicate j (V.bl false)) ⟨same_new hL _, upd_same, rfl⟩ (fun j zs H'' _ h => SqL.of (h.1 _ _ hbi)) ?_ ?_
    · rintro j zs H'' u hu hj ⟨smx, hLx, rfl⟩
      have huf := ways_flat x u (List.mem_of_getElem? hu)
      have hub : ∀ b, u ≠ V.bl b := fun b z => by
        obtain ⟨o, _, e⟩ := List.mem_map.mp (List.mem_of_getElem? hu)
        rw [z] at e
        cases o <;> cases e
      rw [List.length_map] at hj
      walk_at "rd1"
      refine ⟨huf, ite2 (fun c => absurd c (hub _)) (fun _ => ⟨huf, ?_⟩)⟩
      rw [decide_eq_false (hub _)]
      refine cstep (by rw [List.length_map]; exact hj) (by simp) (smallL (by rw [List.length_map]; omega)) hLx ⟨smx.upd hL _, upd_same, ?_⟩
      rw [← List.replicate_succ']
    · rintro zs H'' ⟨smx, hLx, rfl⟩
      walk_at "rd1"
      refine ⟨_, .inl (SqL.of hLx), rfl, by simp [flatV], ite2 (fun c => absurd c ?_) (fun _ => ⟨_, rfl, sm.trans smx⟩)⟩
      intro c
      unfold inV at c
      obtain ⟨y, hy, e⟩ := List.any_eq_true.mp c
      rw [List.eq_of_mem_replicate hy] at e
      exact absurd e (by decide)
  · rintro σ H' ⟨o, rfl, sm⟩
    walk_at "nx"
    refine ⟨_, _, .inr (SqT.of (sm _ _ h1)), atI_nat (j := 1) rfl, ?_⟩
    walk_at "rd1"
    refine ⟨"list", by simp [tyName, sm _ _ h2], by decide, ite2 (fun _ => ?_) (fun c => absurd (by decide) c)⟩
    refine ⟨_, _, .inr (SqT.of (sm _ _ h1)), atI_nat (j := 2) rfl, ?_⟩
    walk_at "rd1"
    exact ⟨"list", by simp [tyName, sm _ _ h3.1], by decide, q _ sm⟩
end
/-! ### things that are no rules -/
def Spoiled (H : Hp) (x : V) : Prop := DT 3 H x ∧ ruleA H x = false
theorem dt_flat {H : Hp} {x : V} (h : Thing H x) (hr : ∀ a, x ≠ .ref a) : ∀ {n : Nat}, DT n H x
  | 0 => h
  | n + 1 => ⟨h, fun a xs e => absurd e (hr a)⟩
theorem dt_int {H : Hp} {i : Int} {n : Nat} : DT n H (.int i) := dt_flat (x := .int i) trivial (fun _ e => by cases e)
theorem dt_non {H : Hp} {n : Nat} : DT n H .non := dt_flat (x := .non) trivial (fun _ e => by cases e)
theorem dt_bl {H : Hp} {b : Bool} {n : Nat} : DT n H (.bl b) := dt_flat (x := .bl b) trivial (fun _ e => by cases e)
theorem dt_str {H : Hp} {y : Str} {n : Nat} (h : y.length ≤ 1000) : DT n H (.str y) := dt_flat (x := .str y) h (fun _ e => by cases e)
theorem dt_seq {H : Hp} {a : Addr} {xs : List V} {n : Nat} (h : H a = some (.lst xs) ∨ H a = some (.tup xs)) (hl : xs.length ≤ 1000) (hx : ∀ y ∈ xs, DT n H y) : DT (n + 1) H (.ref a) := by
  refine ⟨.inl ⟨xs, h, hl⟩, fun b ys e he y hy => ?_⟩
  cases e
  rcases h with h | h <;> rw [h] at he <;> rcases he with he | he <;> cases he <;> exact hx y hy
theorem dt_way {H : Hp} {o : Option Nat} {n : Nat} : DT n H (wayV o) := by
  cases o with
  | none => exact dt_non
  | some k => exact dt_int
theorem dt_ways {H : Hp} {a : Addr} {x : List (Option Nat)} {n : Nat} (h : H a = some (.lst (x.map wayV))) (hl : x.length ≤ 1000) : DT (n + 1) H (.ref a) :=
  dt_seq (.inl h) (by rw [List.length_map]; exact hl) (fun y hy => by obtain ⟨o, _, rfl⟩ := List.mem_map.mp hy; exact dt_way)
theorem dt_words {H : Hp} {a : Addr} {ws : List Str} {n : Nat} (h : H a = some (.lst (ws.map V.str))) (hl : ws.length ≤ 1000) (hw : ∀ y ∈ ws, y.length ≤ 1000) : DT (n + 1) H (.ref a) :=
  dt_seq (.inl h) (by rw [List.length_map]; exact hl) (fun y hy => by obtain ⟨o, ho, rfl⟩ := List.mem_map.mp hy; exact dt_str (hw o ho))
theorem dt_refs {H : Hp} {a : Addr} {as : List Addr} {n : Nat} (h : H a = some (.lst (as.map V.ref))) (hl : as.length ≤ 1000) (hx : ∀ b ∈ as, DT n H (.ref b)) : DT (n + 1) H (.ref a) :=
  dt_seq (.inl h) (by rw [List.length_map]; exact hl) (fun y hy => by obtain ⟨o, ho, rfl⟩ := List.mem_map.mp hy; exact hx o ho)
theorem dt_rooms {H : Hp} {a : Addr} {rs : List (List (Option Nat))} {as : List Addr} {n : Nat} (h : RoomsAs H a rs as) (hl : rs.length ≤ 1000) (hw : ∀ x ∈ rs, x.length ≤ 1000) : (∀ b ∈ as, DT (n + 1) H (.ref b)) ∧ DT (n + 2) H (.ref a) := by
  have hb : ∀ b ∈ as, DT (n + 1) H (.ref b) := fun b hb => by
    obtain ⟨i, hi, rfl⟩ := List.mem_iff_getElem.mp hb
    have hi' : i < rs.length := by have := h.2.1; omega
    exact dt_ways (h.2.2 i _ _ (List.getElem?_eq_getElem hi) (List.getElem?_eq_getElem hi')) (hw _ (List.getElem_mem hi'))
  exact ⟨hb, dt_refs h.1 (by have := h.2.1; omega) hb⟩
theorem ruleA_tup {H : Hp} {a : Addr} {xs : List V} (h : H a = some (.tup xs)) : ruleA H (.ref a) = ruleT3 H xs := by
  show (match H a with | some (.tup xs) => ruleT3 H xs | _ => false) = _
  rw [h]
theorem spoil_tup {H : Hp} {a : Addr} {xs : List V} (h : H a = some (.tup xs)) (hl : xs.length ≤ 1000) (hx : ∀ y ∈ xs, DT 2 H y) (hf : ruleT3 H xs = false) : Spoiled H (.ref a) := ⟨dt_seq (.inr h) hl hx, by rw [ruleA_tup h]; exact hf⟩
theorem spoil_lst {H : Hp} {a : Addr} {xs : List V} (h : H a = some (.lst xs)) (hl : xs.length ≤ 1000) (hx : ∀ y ∈ xs, DT 2 H y) : Spoiled H (.ref a) := ⟨dt_seq (.inl h) hl hx, by
  show (match H a with | some (.tup xs) => ruleT3 H xs | _ => false) = _
  rw [h]⟩
theorem t3_sides {H : Hp} {s : Int} {ws rs : V} (h : ¬ (s = 1 ∨ s = 2)) : ruleT3 H [.int s, ws, rs] = false := by
  show (decide (s = 1 ∨ s = 2) && (wordsA H s ws && roomsA H ((lstA H ws).getD []).length rs)) = false
  rw [decide_eq_false h, Bool.false_and]
theorem t3_rooms {H : Hp} {s : Int} {ws rs : V} (h : ∀ m, roomsA H m rs = false) : ruleT3 H [.int s, ws, rs] = false := by
  show (_ && (_ && roomsA H _ rs)) = false
  rw [h, Bool.and_false, Bool.and_false]
theorem t3_words {H : Hp} {s : Int} {ws rs : V} (h : wordsA H s ws = false) : ruleT3 H [.int s, ws, rs] = false := by
  show (_ && (wordsA H s ws && _)) = false
  rw [h, Bool.false_and, Bool.and_false]
theorem rooms_many {H : Hp} {a : Addr} {xs : List V} (h : H a = some (.lst xs)) (hl : ¬ (1 ≤ xs.length ∧ xs.length ≤ 60)) (m : Int) : roomsA H m (.ref a) = false := by
  unfold roomsA
  rw [lstA_of h]
  show (decide _ && _) = false
  rw [decide_eq_false hl]; rfl
theorem rooms_bad {H : Hp} {a : Addr} {xs : List V} {m : Int} (h : H a = some (.lst xs)) (y : V) (hy : y ∈ xs) (hb : roomA H m xs.length y = false) : roomsA H m (.ref a) = false := by
  unfold roomsA
  rw [lstA_of h]
  show (decide _ && _) = false
  have : xs.all (roomA H m xs.length) = false := by rw [List.all_eq_false]; exact ⟨y, hy, by rw [hb]; decide⟩
  rw [this, Bool.and_false]
theorem all3 {H : Hp} {n : Nat} {x y z : V} (hx : DT n H x) (hy : DT n H y) (hz : DT n H z) : ∀ u ∈ [x, y, z], DT n H u := by
  intro u hu
  simp only [List.mem_cons, List.not_mem_nil, or_false] at hu
  rcases hu with rfl | rfl | rfl <;> assumption
theorem odd6 {k : Int} (k0 : 0 ≤ k) (k1 : k < 6) : ∃ v, atI [V.int 0, V.int 3, V.int (-1), V.str "1", V.non, V.int (10 ^ Int.toNat 30)] k = some v ∧ (∀ {n : Nat} {H : Hp}, DT n H v) ∧ ∀ (H : Hp) {a b : V}, ruleT3 H [v, a, b] = false := by
  have h : k = 0 ∨ k = 1 ∨ k = 2 ∨ k = 3 ∨ k = 4 ∨ k = 5 := by omega
  rcases h with rfl | rfl | rfl | rfl | rfl | rfl
  · exact ⟨_, atI_nat (j := 0) rfl, dt_int, fun H a b => rfl⟩
  · exact ⟨_, atI_nat (j := 1) rfl, dt_int, fun H a b => rfl⟩
  · exact ⟨_, atI_nat (j := 2) rfl, dt_int, fun H a b => rfl⟩
  · exact ⟨_, atI_nat (j := 3) rfl, dt_str (by decide), fun H a b => rfl⟩
  · exact ⟨_, atI_nat (j := 4) rfl, dt_non, fun H a b => rfl⟩
  · exact ⟨_, atI_nat (j := 5) rfl, dt_int, fun H a b => t3_sides (by decide)⟩
def spHead : Sp := fun vs H Q _ => ∃ (r : Rl) (wp rp : Addr) (as : List Addr) (k : Int), vs = [.int r.s, .ref wp, .ref rp, .int k] ∧ H wp = some (.lst (r.ws.map V.str)) ∧ RoomsAs H rp r.rs as ∧ RlOk r ∧ 0 ≤ k ∧ k < 13 ∧ ∀ (x : V) (H' : Hp), Same H H' → Spoiled H' x → Q x H'
section
variable {P : Program} {w : World} {K : PySem.W.Frag} {mg : Str → Option Value} {base : Heap}
theorem ok_head (D : DefAt K mg "_law_spoiled_head" s_law_spoiled_head) (z_len : mg "len" = none) : Cal P w K mg base 1 "_law_spoiled_head" ["_law_sides", "_law_words_here", "_law_rooms", "_law_way_here"] spHead := by
  refine D.cal (k := 0) sc_law_spoiled_head (fun _ _ _ _ _ _ us hl => match us, hl with | [_, _, _, _], _ => rfl) (fun vs H Q E h => by obtain ⟨r, wp, rp, as, k, rfl, _⟩ := h; rfl) (fun f cdv A outer s H vs Q E hr h => ?_)
  obtain ⟨r, wp, rp, as, k, rfl, hw, hR, ok, k0, k1, q⟩ := h
  have nw := ok.nw
  have n0 := ok.n0
  have n1 := ok.n1
  have hal := hR.2.1
  have dw : ∀ {H'}, Same H H' → ∀ {n}, DT (n + 1) H' (.ref wp) := fun sm _ => dt_words (sm _ _ hw) (by omega) (fun y hy => by have := ok.lw y hy; omega)
  have dr : ∀ {H'}, Same H H' → (∀ b ∈ as, DT 1 H' (.ref b)) ∧ DT 2 H' (.ref rp) := fun sm => dt_rooms (hR.mono sm) (by omega) (fun x hx => by rw [(ok.row x hx).1]; omega)
  have fin : ∀ {H'}, Same H H' → ∀ (p : Addr), H' p = none → ∀ (xs : List V), xs.length ≤ 1000 → (∀ y ∈ xs, DT 2 H' y) → (∀ H2, Same H' H2 → ruleT3 H2 xs = false) → Q (.ref p) (upd H' p (.tup xs)) := fun sm p hp xs hl hx hf => q _ _ (sm.trans (same_new hp _)) (spoil_tup upd_same hl (fun y hy => (hx y hy).mono (same_new hp _)) (hf _ (same_new hp _)))
  refine ⟨_, (pss_cons (ps_if (pt_cmpR op_ltA (pv 3 (hv := v_law_spoiled_head__law_way_here)) pe_int (nomark _)) (pss_one (ps_ret (pe_tup (pa_cons (pe_ix (ix_K K) (pe_lst (pa_cons pe_int (pa_cons pe_int (pa_cons (pe_un un_neg pe_int) (pa_cons pe_str (pa_cons pe_non (pa_cons (pe_op op_pow pe_int pe_int) pa_nil))))))) (pv 3 (hv := v_law_spoiled_head__law_way_here)) (fun _ _ => rfl)) (pa_cons (pv 1 (hv := v_law_spoiled_head__law_words_here)) (pa_cons (pv 2 (hv := v_law_spoiled_head__law_rooms)) pa_nil)))))) pss_nil)
      (pss_cons (ps_if (pt_cmpR op_eqA (pv 3 (hv := v_law_spoiled_head__law_way_here)) pe_int (nomark _)) (pss_one (ps_ret (pe_tup (pa_cons (pe_cmpR op_eqA (pv 0 (hv := v_law_spoiled_head__law_sides)) pe_int (nomark _)) (pa_cons (pv 1 (hv := v_law_spoiled_head__law_words_here)) (pa_cons (pv 2 (hv := v_law_spoiled_head__law_rooms)) pa_nil)))))) pss_nil)
      (pss_cons (ps_if (pt_cmpR op_eqA (pv 3 (hv := v_law_spoiled_head__law_way_here)) pe_int (nomark _)) (pss_one (ps_ret (pe_lst (pa_cons (pv 0 (hv := v_law_spoiled_head__law_sides)) (pa_cons (pv 1 (hv := v_law_spoiled_head__law_words_here)) (pa_cons (pv 2 (hv := v_law_spoiled_head__law_rooms)) pa_nil)))))) pss_nil)
      (pss_cons (ps_if (pt_cmpR op_eqA (pv 3 (hv := v_law_spoiled_head__law_way_here)) pe_int (nomark _)) (pss_one (ps_ret (pe_tup (pa_cons (pv 0 (hv := v_law_spoiled_head__law_sides)) (pa_cons (pv 1 (hv := v_law_spoiled_head__law_words_here)) pa_nil))))) pss_nil)
      (pss_cons (ps_if (pt_cmpR op_eqA (pv 3 (hv := v_law_spoiled_head__law_way_here)) pe_int (nomark _)) (pss_one (ps_ret (pe_tup (pa_cons (pv 0 (hv := v_law_spoiled_head__law_sides)) (pa_cons (pv 1 (hv := v_law_spoiled_head__law_words_here)) (pa_cons (pv 2 (hv := v_law_spoiled_head__law_rooms)) (pa_cons (pe_lst pa_nil) pa_nil))))))) pss_nil)
      (pss_cons (ps_if (pt_cmpR op_eqA (pv 3 (hv := v_law_spoiled_head__law_way_here)) pe_int (nomark _)) (pss_one (ps_ret (pe_tup (pa_cons (pv 0 (hv := v_law_spoiled_head__law_sides)) (pa_cons (pv 1 (hv := v_law_spoiled_head__law_words_here)) (pa_cons (pe_lst pa_nil) pa_nil)))))) pss_nil)
      (pss_cons (ps_if (pt_cmpR op_eqA (pv 3 (hv := v_law_spoiled_head__law_way_here)) pe_int (nomark _)) (pss_one (ps_ret (pe_tup (pa_cons (pv 0 (hv := v_law_spoiled_head__law_sides)) (pa_cons (pv 1 (hv := v_law_spoiled_head__law_words_here)) (pa_cons (pe_tup (pa_cons (pe_ix (ix_K K) (pv 2 (hv := v_law_spoiled_head__law_rooms)) pe_int (fun _ _ => rfl)) pa_nil)) pa_nil)))))) pss_nil)
      (pss_one (ps_ret (pe_tup (pa_cons (pv 0 (hv := v_law_spoiled_head__law_sides)) (pa_cons (pv 1 (hv := v_law_spoiled_head__law_words_here)) (pa_cons (pe_op op_addA (pv 2 (hv := v_law_spoiled_head__law_rooms)) (pe_op op_rep (pe_lst (pa_cons (pe_ix (ix_K K) (pv 2 (hv := v_law_spoiled_head__law_rooms)) pe_int (fun _ _ => rfl)) pa_nil)) (pe_op op_sub pe_int (pe_blt (call_lenK K) z_len bt_len (pa_cons (pv 2 (hv := v_law_spoiled_head__law_rooms)) pa_nil) (hg := gl_law_spoiled_head_len))))) pa_nil))))))))))))), ?_⟩
  walk_at "rd1"
  refine ite2 (fun c => ?_) (fun c => ?_)
  · refine ⟨⟨by decide, by decide, by decide⟩, by decide, fun p hp => ?_⟩
    obtain ⟨v, hv, hd, hf⟩ := odd6 k0 c
    have sm := same_new hp (.lst [V.int 0, V.int 3, V.int (-1), V.str "1", V.non, V.int (10 ^ Int.toNat 30)])
    exact ⟨_, _, .inl (SqL.of upd_same), hv, by decide, fun t ht => fin sm t ht _ (by simp) (all3 hd (dw sm) (dr sm).2) fun H2 _ => hf H2⟩
  walk_at "nx"
  refine ite2 (fun c => ?_) (fun c => ?_)
  · exact ⟨by decide, fun t ht => fin (Same.refl _) t ht _ (by simp) (all3 dt_bl (dw (Same.refl _)) (dr (Same.refl _)).2) fun H2 _ => rfl⟩
  walk_at "nx"
  refine ite2 (fun c => ?_) (fun c => ?_)
  · exact ⟨by decide, fun t ht => q _ _ (same_new ht _) (spoil_lst upd_same (by simp) (all3 dt_int (dw (same_new ht _)) (dr (same_new ht _)).2))⟩
  walk_at "nx"
  refine ite2 (fun c => ?_) (fun c => ?_)
  · refine ⟨by decide, fun t ht => fin (Same.refl _) t ht _ (by simp) (fun y hy => ?_) fun H2 _ => rfl⟩
    simp only [List.mem_cons, List.not_mem_nil, or_false] at hy
    rcases hy with rfl | rfl
    · exact dt_int
    · exact dw (Same.refl _)
  walk_at "nx"
  refine ite2 (fun c => ?_) (fun c => ?_)
  · refine ⟨by decide, fun p hp => ⟨by decide, fun t ht => ?_⟩⟩
    have sm := same_new hp (.lst [])
    refine fin sm t ht _ (by simp) (fun y hy => ?_) fun H2 _ => rfl
    simp only [List.mem_cons, List.not_mem_nil, or_false] at hy
    rcases hy with rfl | rfl | rfl | rfl
    · exact dt_int
    · exact dw sm
    · exact (dr sm).2
    · exact dt_seq (.inl upd_same) (by simp) (by simp)
  walk_at "nx"
  refine ite2 (fun c => ?_) (fun c => ?_)
  · refine ⟨by decide, fun p hp => ⟨by decide, fun t ht => ?_⟩⟩
    have sm := same_new hp (.lst [])
    exact fin sm t ht _ (by simp) (all3 dt_int (dw sm) (dt_seq (.inl upd_same) (by simp) (by simp))) fun H2 s2 => t3_rooms (rooms_many (s2 _ _ upd_same) (by simp))
  obtain ⟨a0, ha0⟩ : ∃ a0, as[0]? = some a0 := ⟨as[0], List.getElem?_eq_getElem (by omega)⟩
  have h0m := List.mem_of_getElem? ha0
  have at00 : atI (as.map V.ref) 0 = some (.ref a0) := atI_nat (j := 0) (by rw [List.getElem?_map, ha0]; rfl)
  walk_at "nx"
  refine ite2 (fun c => ?_) (fun c => ?_)
  · refine ⟨_, _, .inl (SqL.of hR.1), at00, by decide, fun p hp => ⟨by decide, fun t ht => ?_⟩⟩
    have sm := same_new hp (.tup [V.ref a0])
    refine fin sm t ht _ (by simp) (all3 dt_int (dw sm) (dt_seq (.inr upd_same) (by simp) (fun y hy => ?_))) fun H2 s2 => t3_rooms fun m => ?_
    · rw [List.mem_singleton.mp hy]; exact (dr sm).1 _ h0m
    · unfold roomsA
      rw [lstA_no]
      intro a xs e z
      cases e
      rw [s2 _ _ upd_same] at z
      cases z
  walk_at "nx"
  refine ⟨_, _, .inl (SqL.of hR.1), at00, by decide, fun p hp => ?_⟩
  have sm1 := same_new hp (.lst [V.ref a0])
  have e1 : upd H p (.lst [V.ref a0]) p = some (.lst [V.ref a0]) := upd_same
  generalize upd H p (.lst [V.ref a0]) = H1 at sm1 e1 ⊢
  refine ⟨_, .inl (SqL.of (sm1 _ _ hR.1)), ?_⟩
  rw [List.length_map, hal]
  refine ⟨p, _, _, rfl, rfl, e1, by omega, by omega, by rw [List.length_singleton]; exact smallL (by omega), fun p2 hp2 => ?_⟩
  have sm2 := same_new hp2 (.lst (List.replicate (61 - (r.rs.length : Int)).toNat [V.ref a0]).flatten)
  have e2 : upd H1 p2 (.lst (List.replicate (61 - (r.rs.length : Int)).toNat [V.ref a0]).flatten) p2 = some (.lst (List.replicate (61 - (r.rs.length : Int)).toNat [V.ref a0]).flatten) := upd_same
  have hlen := len_rep [V.ref a0] (61 - (r.rs.length : Int)).toNat
  rw [List.length_singleton, Nat.mul_one] at hlen
  have hel : ∀ y ∈ (List.replicate (61 - (r.rs.length : Int)).toNat [V.ref a0]).flatten, y = V.ref a0 := fun y hy => by
    obtain ⟨l, hl, hy⟩ := List.mem_flatten.mp hy
    rw [List.eq_of_mem_replicate hl] at hy
    exact List.mem_singleton.mp hy
  generalize (List.replicate (61 - (r.rs.length : Int)).toNat [V.ref a0]).flatten = ys at sm2 e2 hlen hel ⊢
  generalize upd H1 p2 (.lst ys) = H2 at sm2 e2 ⊢
  have sm12 := sm1.trans sm2
  walk_at "rd1"
  refine ⟨_, _, sm12 _ _ hR.1, e2, by rw [List.length_map]; exact smallL (by omega), fun p3 hp3 => ?_⟩
  have sm3 := same_new hp3 (.lst (as.map V.ref ++ ys))
  have e3 : upd H2 p3 (.lst (as.map V.ref ++ ys)) p3 = some (.lst (as.map V.ref ++ ys)) := upd_same
  generalize upd H2 p3 (.lst (as.map V.ref ++ ys)) = H3 at sm3 e3 ⊢
  have sm := sm12.trans sm3
  have hll : (as.map V.ref ++ ys).length = 61 := by rw [List.length_append, List.length_map]; omega
  walk_at "rd1"
  refine ⟨by decide, fun t ht => fin sm t ht _ (by simp) (all3 dt_int (dw sm) (dt_seq (.inl e3) (by omega) (fun y hy => ?_))) fun H2 s2 => t3_rooms (rooms_many (s2 _ _ e3) (by omega))⟩
  rcases List.mem_append.mp hy with z | z
  · obtain ⟨b, hb, rfl⟩ := List.mem_map.mp z
    exact (dr sm).1 b hb
  · rw [hel y z]; exact (dr sm).1 _ h0m
end
def FlatS (y : V) : Prop := ∀ (n : Nat) (H : Hp), DT n H y
def GrowF (H' : Hp) (L : Addr) (bs : List Addr) : Prop := ∀ b ∈ bs, b ≠ L ∧ ∃ xs : List V, H' b = some (.lst xs) ∧ xs.length ≤ 1000 ∧ ∀ y ∈ xs, FlatS y
theorem GrowF.put {H' H2 : Hp} {L b : Addr} {bs : List Addr} {xs : List V} {o : HO} (h : GrowF H' L bs) (sm : Same H' H2) (hb : H2 b = some (.lst xs)) (nb : b ≠ L) (hl : xs.length ≤ 1000) (hx : ∀ y ∈ xs, FlatS y) : GrowF (upd H2 L o) L (bs ++ [b]) := by
  intro c hc
  rcases List.mem_append.mp hc with z | z
  · obtain ⟨nc, ys, e, r⟩ := h c z
    exact ⟨nc, ys, by rw [upd_ne nc]; exact sm _ _ e, r⟩
  · rw [List.mem_singleton.mp z]
    exact ⟨nb, xs, by rw [upd_ne nb]; exact hb, hl, hx⟩
theorem GrowF.dt {H' : Hp} {L : Addr} {bs : List Addr} (h : GrowF H' L bs) (hL : H' L = some (.lst (bs.map V.ref))) (hl : bs.length ≤ 1000) : DT 2 H' (.ref L) :=
  dt_refs hL hl fun b hb => by obtain ⟨_, xs, e, l, f⟩ := h b hb; exact dt_seq (.inl e) l fun y hy => f y hy _ _
def GrowP (H : Hp) (L : Addr) : Nat → List V → Hp → Prop := fun i ys H' => ∃ bs : List Addr, Same H H' ∧ H' L = some (.lst ys) ∧ ys = bs.map V.ref ∧ bs.length = i ∧ GrowF H' L bs
/-- [a list of flat things for room in rooms] -/
theorem grow_rooms {K : PySem.W.Frag} {pr L : Addr} {g : TG} {te : TE} {nT : Nat} {σ : L2.St} {Q : VK} {H : Hp} {rs : List (List (Option Nat))} {as : List Addr} (hR : RoomsAs H pr rs as) (hn : rs.length ≤ 60) (hx : ∀ x ∈ rs, x.length ≤ 20) (hL : H L = none)
    (hs : ∀ (a : Addr) (x : List (Option Nat)) (H' : Hp) (C : VK), H' a = some (.lst (x.map wayV)) → x.length ≤ 20 → (∀ (l : Addr) (xs : List V) (H2 : Hp), Same H' H2 → H' l = none → H2 l = some (.lst xs) → xs.length ≤ 1000 → (∀ y ∈ xs, FlatS y) → C (.ref l) H2) → g (.ref a) (σ ++ List.replicate nT none) H' fun σ2 H2 => te σ2 H2 C)
    (q : ∀ H', Same H H' → DT 2 H' (.ref L) → Q (.ref L) H') : compW (Itl K pr) g tYes te nT σ L Q (upd H L (.lst [])) := by
  obtain ⟨h1, h2, h3⟩ := hR
  refine compW_list (xs := as.map V.ref) (GrowP H L) ⟨[], same_new hL _, upd_same, rfl, rfl, fun b hb => nomatch hb⟩ (fun i ys H' _ h => by obtain ⟨_, sm, _⟩ := h; exact SqL.of (sm _ _ h1)) ?_ ?_
  · rintro i ys H' x hx' hi ⟨bs, sm, hl, rfl, hb, hG⟩
    rw [List.length_map] at hi
    rw [List.getElem?_map, List.getElem?_eq_getElem hi] at hx'
    cases hx'
    have hi' : i < rs.length := by omega
    have ha := sm _ _ (h3 i _ _ (List.getElem?_eq_getElem hi) (List.getElem?_eq_getElem hi'))
    have e := hs as[i] rs[i] H' (CStep (as.map V.ref).length i (GrowP H L) L (bs.map V.ref)) ha (hx _ (List.getElem_mem hi')) ?_
    · have e2 : (compK (as.map V.ref).length i (GrowP H L) L (bs.map V.ref) te) = fun σ2 H2 => te σ2 H2 (CStep (as.map V.ref).length i (GrowP H L) L (bs.map V.ref)) := by
        funext σ2 H2; exact compK_at
      rw [e2]; exact e
    · intro l xs H2 s2 hl0 hl2 hxl hxf
      have nl : l ≠ L := (ne_of_none hl hl0).symm
      exact cstep (by rw [List.length_map]; exact hi) (by rw [List.length_map]; exact hb) (by rw [List.length_map]; exact smallL (by omega)) (s2 _ _ hl) ⟨bs ++ [l], (sm.trans s2).upd hL _, upd_same, map_push _ _, len_push hb, hG.put s2 hl2 nl hxl hxf⟩
  · rintro ys H' ⟨bs, sm, hl, rfl, hb, hG⟩
    rw [List.length_map] at hb
    exact q H' sm (hG.dt hl (by omega))
theorem flat_way {o : Option Nat} : FlatS (wayV o) := fun _ _ => dt_way
theorem flat_int {i : Int} : FlatS (.int i) := fun _ _ => dt_int
theorem flat_non : FlatS .non := fun _ _ => dt_non
theorem words_tup {H : Hp} {a : Addr} {xs : List V} {s : Int} (h : H a = some (.tup xs)) : wordsA H s (.ref a) = false := by
  unfold wordsA
  rw [lstA_no]
  intro b ys e z
  cases e
  rw [h] at z
  cases z
theorem words_long {H : Hp} {a : Addr} {xs : List V} {s : Int} (h : H a = some (.lst xs)) (hl : 16 < xs.length) : wordsA H s (.ref a) = false := by
  unfold wordsA
  rw [lstA_of h]
  show (decide _ && _) = false
  rw [decide_eq_false (by omega)]; rfl
theorem words_odd {H : Hp} {a : Addr} {xs : List V} {s : Int} (h : H a = some (.lst xs)) (y : V) (hy : y ∈ xs) (hb : wordA s y = false) : wordsA H s (.ref a) = false := by
  unfold wordsA
  rw [lstA_of h]
  show (decide _ && (_ && _)) = false
  have : xs.all (wordA s) = false := by rw [List.all_eq_false]; exact ⟨y, hy, by rw [hb]; decide⟩
  rw [this, Bool.false_and, Bool.and_false]
theorem words_fall {H : Hp} {a : Addr} {us : List Str} {s : Int} (h : H a = some (.lst (us.map V.str))) (hb : risingB us = false) : wordsA H s (.ref a) = false := by
  unfold wordsA
  rw [lstA_of h]
  show (decide _ && (_ && risingB ((us.map V.str).map strA))) = false
  have e : (us.map V.str).map strA = us := by
    rw [List.map_map]
    conv => rhs; rw [← List.map_id us]
    exact List.map_congr_left fun x _ => rfl
  rw [e, hb, Bool.and_false, Bool.and_false]
theorem falls_two (ws : List Str) (z : Str) : risingB (ws ++ [z, z]) = false := by
  unfold risingB
  rw [List.all_eq_false]
  refine ⟨ws.length, List.mem_range.mpr (by simp), ?_⟩
  have e1 : (ws ++ [z, z]).getD ws.length "" = z := by rw [List.getD_eq_getElem?_getD, List.getElem?_append_right (Nat.le_refl _), Nat.sub_self]; rfl
  have e2 : (ws ++ [z, z]).getD (ws.length + 1) "" = z := by rw [List.getD_eq_getElem?_getD, List.getElem?_append_right (by omega), show ws.length + 1 - ws.length = 1 by omega]; rfl
  rw [e1, e2, decide_eq_false (List.lt_irrefl _)]
  decide
def spWordsS : Sp := fun vs H Q _ => ∃ (r : Rl) (wp rp : Addr) (as : List Addr) (k c : Int), vs = [.int r.s, .ref wp, .ref rp, .int k, .int c] ∧ H wp = some (.lst (r.ws.map V.str)) ∧ RoomsAs H rp r.rs as ∧ RlOk r ∧ 13 ≤ k ∧ k < 18 ∧ ∀ (x : V) (H' : Hp), Same H H' → Spoiled H' x → Q x H'
section
variable {P : Program} {w : World} {K : PySem.W.Frag} {mg : Str → Option Value} {base : Heap}
theorem ok_wordsS (D : DefAt K mg "_law_spoiled_words" s_law_spoiled_words) (z_tuple : mg "tuple" = none) : Cal P w K mg base 1 "_law_spoiled_words" ["_law_sides", "_law_words_here", "_law_rooms", "_law_way_here", "_law_cell"] spWordsS := by
  refine D.cal (k := 0) sc_law_spoiled_words (fun _ _ _ _ _ _ us hl => match us, hl with | [_, _, _, _, _], _ => rfl) (fun vs H Q E h => by obtain ⟨r, wp, rp, as, k, c, rfl, _⟩ := h; rfl) (fun f cdv A outer s H vs Q E hr h => ?_)
  obtain ⟨r, wp, rp, as, k, cc, rfl, hw, hR, ok, k0, k1, q⟩ := h
  have nw := ok.nw
  have n0 := ok.n0
  have n1 := ok.n1
  have hal := hR.2.1
  have dw : ∀ {H'}, Same H H' → ∀ {n}, DT (n + 1) H' (.ref wp) := fun sm _ => dt_words (sm _ _ hw) (by omega) (fun y hy => by have := ok.lw y hy; omega)
  have dr : ∀ {H'}, Same H H' → (∀ b ∈ as, DT 1 H' (.ref b)) ∧ DT 2 H' (.ref rp) := fun sm => dt_rooms (hR.mono sm) (by omega) (fun x hx => by rw [(ok.row x hx).1]; omega)
  have fin : ∀ {H'}, Same H H' → ∀ (p : Addr), H' p = none → ∀ (xs : List V), xs.length ≤ 1000 → (∀ y ∈ xs, DT 2 H' y) → (∀ H2, Same H' H2 → ruleT3 H2 xs = false) → Q (.ref p) (upd H' p (.tup xs)) := fun sm p hp xs hl hx hf => q _ _ (sm.trans (same_new hp _)) (spoil_tup upd_same hl (fun y hy => (hx y hy).mono (same_new hp _)) (hf _ (same_new hp _)))
  refine ⟨_, (pss_cons (ps_let 5 sc_law_spoiled_words.nd (pe_ix (ix_K K) (pe_lst (pa_cons pe_str (pa_cons pe_str pa_nil))) (pe_op op_sub (pv 0 (hv := v_law_spoiled_words__law_sides)) pe_int) (fun _ _ => rfl)) (hx := l_law_spoiled_words__law_head))
      (pss_cons (ps_if (pt_cmpR op_eqA (pv 3 (hv := v_law_spoiled_words__law_way_here)) pe_int (nomark _)) (pss_one (ps_ret (pe_tup (pa_cons (pv 0 (hv := v_law_spoiled_words__law_sides)) (pa_cons (pe_bty (call_tupA K) z_tuple bt_tuple (pa_cons (pv 1 (hv := v_law_spoiled_words__law_words_here)) pa_nil) (hg := gl_law_spoiled_words_tuple)) (pa_cons (pv 2 (hv := v_law_spoiled_words__law_rooms)) pa_nil)))))) pss_nil)
      (pss_cons (ps_if (pt_cmpR op_eqA (pv 3 (hv := v_law_spoiled_words__law_way_here)) pe_int (nomark _)) (pss_one (ps_ret (pe_tup (pa_cons (pv 0 (hv := v_law_spoiled_words__law_sides)) (pa_cons (pe_op op_addA (pv 1 (hv := v_law_spoiled_words__law_words_here)) (pe_op op_rep (pe_lst (pa_cons (pe_op op_addA (pv 5 (hv := v_law_spoiled_words__law_head)) pe_str) pa_nil)) pe_int)) (pa_cons (pe_comp (CompSc.to (fsc := (defScope s_law_spoiled_words)) (N := ["_law_sides", "_law_words_here", "_law_rooms", "_law_way_here", "_law_cell", "_law_head", "_law_odd", "_law_letters"]) (N0 := ["_law_sides", "_law_words_here", "_law_rooms", "_law_way_here", "_law_cell", "_law_head", "_law_odd", "_law_letters"]) (T := ["_law_room"]) ⟨by decide +kernel, by decide +kernel, by decide +kernel, by decide +kernel, by decide +kernel, by decide +kernel, by decide +kernel⟩ rfl rfl) rfl (pi_listK K (pv 2 (hv := v_law_spoiled_words__law_rooms))) (fun _ _ _ _ => (pg_let 8 (show (["_law_sides", "_law_words_here", "_law_rooms", "_law_way_here", "_law_cell", "_law_head", "_law_odd", "_law_letters", "_law_room"] : List Str).Nodup from by decide +kernel) (hx := (locC (defScope s_law_spoiled_words) (by decide +kernel))) (hf := fnC (defScope s_law_spoiled_words) (by decide +kernel)))) (gfr_name (show (["_law_sides", "_law_words_here", "_law_rooms", "_law_way_here", "_law_cell", "_law_head", "_law_odd", "_law_letters"] : List Str).length ≤ 8 from by decide)) (fun _ _ _ _ => pifs_nil) (fun _ _ _ _ => (pe_op op_addA (pv 8 (hv := (visC (defScope s_law_spoiled_words) (by decide +kernel)))) (pe_lst (pa_cons pe_int (pa_cons pe_int pa_nil)))))) pa_nil)))))) pss_nil)
      (pss_cons (ps_let 6 sc_law_spoiled_words.nd (pe_lst (pa_cons (pe_op op_addA (pv 5 (hv := v_law_spoiled_words__law_head)) pe_str) (pa_cons (pe_op op_addA (pv 5 (hv := v_law_spoiled_words__law_head)) pe_str) (pa_cons (pe_op op_addA (pv 5 (hv := v_law_spoiled_words__law_head)) pe_str) (pa_cons (pe_ix (ix_K K) (pe_lst (pa_cons pe_str (pa_cons pe_str pa_nil))) (pe_op op_sub (pv 0 (hv := v_law_spoiled_words__law_sides)) pe_int) (fun _ _ => rfl)) (pa_cons pe_str (pa_cons pe_str (pa_cons pe_str (pa_cons pe_int (pa_cons pe_non (pa_cons (pe_tup (pa_cons pe_str pa_nil)) pa_nil))))))))))) (hx := l_law_spoiled_words__law_odd))
      (pss_cons (ps_if (pt_cmpR op_eqA (pv 3 (hv := v_law_spoiled_words__law_way_here)) pe_int (nomark _)) (pss_one (ps_ret (pe_tup (pa_cons (pv 0 (hv := v_law_spoiled_words__law_sides)) (pa_cons (pe_lst (pa_cons (pe_ix (ix_K K) (pv 6 (hv := v_law_spoiled_words__law_odd)) (pe_op op_mod (pv 4 (hv := v_law_spoiled_words__law_cell)) pe_int) (fun _ _ => rfl)) pa_nil)) (pa_cons (pe_comp (CompSc.to (fsc := (defScope s_law_spoiled_words)) (N := ["_law_sides", "_law_words_here", "_law_rooms", "_law_way_here", "_law_cell", "_law_head", "_law_odd", "_law_letters"]) (N0 := ["_law_sides", "_law_words_here", "_law_rooms", "_law_way_here", "_law_cell", "_law_head", "_law_odd", "_law_letters"]) (T := ["_law_room"]) ⟨by decide +kernel, by decide +kernel, by decide +kernel, by decide +kernel, by decide +kernel, by decide +kernel, by decide +kernel⟩ rfl rfl) rfl (pi_listK K (pv 2 (hv := v_law_spoiled_words__law_rooms))) (fun _ _ _ _ => (pg_let 8 (show (["_law_sides", "_law_words_here", "_law_rooms", "_law_way_here", "_law_cell", "_law_head", "_law_odd", "_law_letters", "_law_room"] : List Str).Nodup from by decide +kernel) (hx := (locC (defScope s_law_spoiled_words) (by decide +kernel))) (hf := fnC (defScope s_law_spoiled_words) (by decide +kernel)))) (gfr_name (show (["_law_sides", "_law_words_here", "_law_rooms", "_law_way_here", "_law_cell", "_law_head", "_law_odd", "_law_letters"] : List Str).length ≤ 8 from by decide)) (fun _ _ _ _ => pifs_nil) (fun _ _ _ _ => (pe_lst (pa_cons pe_non pa_nil)))) pa_nil)))))) pss_nil)
      (pss_cons (ps_if (pt_cmpR op_eqA (pv 3 (hv := v_law_spoiled_words__law_way_here)) pe_int (nomark _)) (pss_one (ps_ret (pe_tup (pa_cons (pv 0 (hv := v_law_spoiled_words__law_sides)) (pa_cons (pe_lst (pa_cons (pe_op op_addA (pv 5 (hv := v_law_spoiled_words__law_head)) pe_str) (pa_cons (pe_op op_addA (pv 5 (hv := v_law_spoiled_words__law_head)) pe_str) pa_nil))) (pa_cons (pe_comp (CompSc.to (fsc := (defScope s_law_spoiled_words)) (N := ["_law_sides", "_law_words_here", "_law_rooms", "_law_way_here", "_law_cell", "_law_head", "_law_odd", "_law_letters"]) (N0 := ["_law_sides", "_law_words_here", "_law_rooms", "_law_way_here", "_law_cell", "_law_head", "_law_odd", "_law_letters"]) (T := ["_law_room"]) ⟨by decide +kernel, by decide +kernel, by decide +kernel, by decide +kernel, by decide +kernel, by decide +kernel, by decide +kernel⟩ rfl rfl) rfl (pi_listK K (pv 2 (hv := v_law_spoiled_words__law_rooms))) (fun _ _ _ _ => (pg_let 8 (show (["_law_sides", "_law_words_here", "_law_rooms", "_law_way_here", "_law_cell", "_law_head", "_law_odd", "_law_letters", "_law_room"] : List Str).Nodup from by decide +kernel) (hx := (locC (defScope s_law_spoiled_words) (by decide +kernel))) (hf := fnC (defScope s_law_spoiled_words) (by decide +kernel)))) (gfr_name (show (["_law_sides", "_law_words_here", "_law_rooms", "_law_way_here", "_law_cell", "_law_head", "_law_odd", "_law_letters"] : List Str).length ≤ 8 from by decide)) (fun _ _ _ _ => pifs_nil) (fun _ _ _ _ => (pe_lst (pa_cons pe_int (pa_cons pe_non pa_nil))))) pa_nil)))))) pss_nil)
      (pss_cons (ps_let 7 sc_law_spoiled_words.nd pe_str (hx := l_law_spoiled_words__law_letters))
      (pss_one (ps_ret (pe_tup (pa_cons (pv 0 (hv := v_law_spoiled_words__law_sides)) (pa_cons (pe_comp (CompSc.to (fsc := (defScope s_law_spoiled_words)) (N := ["_law_sides", "_law_words_here", "_law_rooms", "_law_way_here", "_law_cell", "_law_head", "_law_odd", "_law_letters"]) (N0 := ["_law_sides", "_law_words_here", "_law_rooms", "_law_way_here", "_law_cell", "_law_head", "_law_odd", "_law_letters"]) (T := ["_law_letter"]) ⟨by decide +kernel, by decide +kernel, by decide +kernel, by decide +kernel, by decide +kernel, by decide +kernel, by decide +kernel⟩ rfl rfl) rfl (pi_str (pv 7 (hv := v_law_spoiled_words__law_letters))) (fun _ _ _ _ => (pg_let 8 (show (["_law_sides", "_law_words_here", "_law_rooms", "_law_way_here", "_law_cell", "_law_head", "_law_odd", "_law_letters", "_law_letter"] : List Str).Nodup from by decide +kernel) (hx := (locC (defScope s_law_spoiled_words) (by decide +kernel))) (hf := fnC (defScope s_law_spoiled_words) (by decide +kernel)))) (gfr_name (show (["_law_sides", "_law_words_here", "_law_rooms", "_law_way_here", "_law_cell", "_law_head", "_law_odd", "_law_letters"] : List Str).length ≤ 8 from by decide)) (fun _ _ _ _ => pifs_nil) (fun _ _ _ _ => (pe_op op_addA (pv 5 (hv := (visC (defScope s_law_spoiled_words) (by decide +kernel)))) (pv 8 (hv := (visC (defScope s_law_spoiled_words) (by decide +kernel))))))) (pa_cons (pe_comp (CompSc.to (fsc := (defScope s_law_spoiled_words)) (N := ["_law_sides", "_law_words_here", "_law_rooms", "_law_way_here", "_law_cell", "_law_head", "_law_odd", "_law_letters"]) (N0 := ["_law_sides", "_law_words_here", "_law_rooms", "_law_way_here", "_law_cell", "_law_head", "_law_odd", "_law_letters"]) (T := ["_law_room"]) ⟨by decide +kernel, by decide +kernel, by decide +kernel, by decide +kernel, by decide +kernel, by decide +kernel, by decide +kernel⟩ rfl rfl) rfl (pi_listK K (pv 2 (hv := v_law_spoiled_words__law_rooms))) (fun _ _ _ _ => (pg_let 8 (show (["_law_sides", "_law_words_here", "_law_rooms", "_law_way_here", "_law_cell", "_law_head", "_law_odd", "_law_letters", "_law_room"] : List Str).Nodup from by decide +kernel) (hx := (locC (defScope s_law_spoiled_words) (by decide +kernel))) (hf := fnC (defScope s_law_spoiled_words) (by decide +kernel)))) (gfr_name (show (["_law_sides", "_law_words_here", "_law_rooms", "_law_way_here", "_law_cell", "_law_head", "_law_odd", "_law_letters"] : List Str).length ≤ 8 from by decide)) (fun _ _ _ _ => pifs_nil) (fun _ _ _ _ => (pe_op op_rep (pe_lst (pa_cons pe_int pa_nil)) pe_int))) pa_nil))))))))))))), ?_⟩
  walk_at "rd1"
  refine ⟨by decide, fun lp hlp => ?_⟩
  obtain ⟨hd, hhd, hd2⟩ : ∃ hd : Str, atI [V.str "", V.str "1."] (r.s - 1) = some (.str hd) ∧ (r.s = 1 ∧ hd = "" ∨ r.s = 2 ∧ hd = "1.") := by
    rcases ok.s with e | e <;> rw [e]
    · exact ⟨"", atI_nat (j := 0) rfl, .inl ⟨rfl, rfl⟩⟩
    · exact ⟨"1.", atI_nat (j := 1) rfl, .inr ⟨rfl, rfl⟩⟩
  have hdl : hd.length ≤ 2 := by rcases hd2 with ⟨_, rfl⟩ | ⟨_, rfl⟩ <;> decide
  have sm0 := same_new hlp (.lst [V.str "", V.str "1."])
  refine ⟨_, _, .inl (SqL.of upd_same), hhd, ?_⟩
  generalize upd H lp (.lst [V.str "", V.str "1."]) = H0 at sm0 ⊢
  have n20 : ∀ x ∈ r.rs, x.length ≤ 20 := fun x hx => by rw [(ok.row x hx).1]; omega
  walk_at "nx"
  refine ite2 (fun c => ?_) (fun c => ?_)
  · refine ⟨_, .inl ⟨SqL.of (sm0 _ _ hw), fun l hl => ⟨by decide, fun t ht => ?_⟩⟩⟩
    have sm1 := sm0.trans (same_new hl (.tup (r.ws.map V.str)))
    refine fin sm1 t ht _ (by simp) (all3 dt_int (dt_seq (.inr upd_same) (by rw [List.length_map]; omega) (fun y hy => ?_)) (dr sm1).2) fun H2 s2 => t3_words (words_tup (s2 _ _ upd_same))
    obtain ⟨u, hu, rfl⟩ := List.mem_map.mp hy
    exact dt_str (by have := ok.lw u hu; omega)
  walk_at "nx"
  refine ite2 (fun c => ?_) (fun c => ?_)
  · have hz8 : (Str.ofString "zzzzzzzz").length = 8 := by decide
    have hzl : (hd ++ Str.ofString "zzzzzzzz").length ≤ 10 := by rw [Str.length_append, hz8]; omega
    refine ⟨by rw [hz8]; exact smallL (by omega), by decide, fun p hp => ?_⟩
    generalize hd ++ Str.ofString "zzzzzzzz" = z at hzl ⊢
    have sm1 := same_new hp (.lst [V.str z])
    have e1 : upd H0 p (.lst [V.str z]) p = some (.lst [V.str z]) := upd_same
    generalize upd H0 p (.lst [V.str z]) = H1 at sm1 e1 ⊢
    refine ⟨p, _, _, rfl, rfl, e1, by decide, by decide, smallL (show 1 * 2 ≤ 1000000 by decide), fun p2 hp2 => ?_⟩
    have er : (List.replicate (Int.toNat 2) [V.str z]).flatten = [V.str z, V.str z] := rfl
    rw [er]
    have sm2 := same_new hp2 (.lst [V.str z, V.str z])
    have e2 : upd H1 p2 (.lst [V.str z, V.str z]) p2 = some (.lst [V.str z, V.str z]) := upd_same
    generalize upd H1 p2 (.lst [V.str z, V.str z]) = H2 at sm2 e2 ⊢
    have sm02 := (sm0.trans sm1).trans sm2
    walk_at "rd1"
    refine ⟨_, _, sm02 _ _ hw, e2, by rw [List.length_map]; exact smallL (by show r.ws.length + 2 ≤ _; omega), fun p3 hp3 => ?_⟩
    have eu : r.ws.map V.str ++ [V.str z, V.str z] = (r.ws ++ [z, z]).map V.str := by rw [List.map_append]; rfl
    rw [eu]
    have sm3 := same_new hp3 (.lst ((r.ws ++ [z, z]).map V.str))
    have e3 : upd H2 p3 (.lst ((r.ws ++ [z, z]).map V.str)) p3 = some (.lst ((r.ws ++ [z, z]).map V.str)) := upd_same
    generalize upd H2 p3 (.lst ((r.ws ++ [z, z]).map V.str)) = H3 at sm3 e3 ⊢
    have sm03 := sm02.trans sm3
    have hR3 := hR.mono sm03
    walk_at "rd1"
    refine ⟨⟨_, SqL.of hR3.1⟩, fun L hL => ?_⟩
    refine grow_rooms hR3 n1 n20 hL (fun a x H' C ha hx hC => ?_) (fun H4 s4 hdt => ?_)
    · walk_at "rd1"
      refine ⟨by decide, fun b hb => ⟨_, _, same_new hb _ _ _ ha, upd_same, by rw [List.length_map]; exact smallL (by show x.length + 2 ≤ _; omega), fun b2 hb2 => ?_⟩⟩
      refine hC b2 _ _ ((same_new hb _).trans (same_new hb2 _)) (same_none (same_new hb _) hb2) upd_same (by simp; omega) fun y hy => ?_
      rcases List.mem_append.mp hy with z | z
      · obtain ⟨o, _, rfl⟩ := List.mem_map.mp z
        exact flat_way
      · simp only [List.mem_cons, List.not_mem_nil, or_false] at z
        rcases z with rfl | rfl <;> exact flat_int
    · walk_at "rd1"
      have sm04 := sm03.trans s4
      refine ⟨by decide, fun t ht => fin sm04 t ht _ (by simp) (all3 dt_int (dt_words (s4 _ _ e3) (by simp; omega) (fun y hy => ?_)) hdt) fun H5 s5 => t3_words (words_fall (s5 _ _ (s4 _ _ e3)) (falls_two _ _))⟩
      rcases List.mem_append.mp hy with z' | z'
      · have := ok.lw y z'; omega
      · simp only [List.mem_cons, List.not_mem_nil, or_false] at z'
        rcases z' with rfl | rfl <;> omega
  walk_at "nx"
  have hz9 : (Str.ofString "abcdefghi").length = 9 := by decide
  have hz0 : (Str.ofString "").length = 0 := by decide
  have hz2 : (Str.ofString "Ab").length = 2 := by decide
  obtain ⟨oa, hoa, hoa2⟩ : ∃ oa : Str, atI [V.str "1.a", V.str "a"] (r.s - 1) = some (.str oa) ∧ (r.s = 1 ∧ oa = "1.a" ∨ r.s = 2 ∧ oa = "a") := by
    rcases ok.s with e | e <;> rw [e]
    · exact ⟨"1.a", atI_nat (j := 0) rfl, .inl ⟨rfl, rfl⟩⟩
    · exact ⟨"a", atI_nat (j := 1) rfl, .inr ⟨rfl, rfl⟩⟩
  refine ⟨by rw [hz9]; exact smallL (by omega), by rw [hz0]; exact smallL (by omega), by rw [hz2]; exact smallL (by omega), by decide, fun p1 hp1 => ⟨_, _, .inl (SqL.of upd_same), hoa, ?_⟩⟩
  have sm1 := sm0.trans (same_new hp1 (.lst [V.str "1.a", V.str "a"]))
  generalize upd H0 p1 (.lst [V.str "1.a", V.str "a"]) = H1 at sm1 ⊢
  refine ⟨by decide, fun p2 hp2 => ?_⟩
  have sm2 := sm1.trans (same_new hp2 (.tup [V.str "a"]))
  have e2 : upd H1 p2 (.tup [V.str "a"]) p2 = some (.tup [V.str "a"]) := upd_same
  generalize upd H1 p2 (.tup [V.str "a"]) = H2 at sm2 e2 ⊢
  refine ⟨by decide, fun p3 hp3 => ?_⟩
  have hodd : ∀ v ∈ [V.str (hd ++ Str.ofString "abcdefghi"), V.str (hd ++ Str.ofString ""), V.str (hd ++ Str.ofString "Ab"), V.str oa, V.str "3.a", V.str ".a", V.str "a b", V.int 7, V.non, V.ref p2], wordA r.s v = false ∧ ∀ H', Same H2 H' → DT 1 H' v := by
    have dp2 : ∀ H', Same H2 H' → DT 1 H' (.ref p2) := fun H' s' => dt_seq (.inr (s' _ _ e2)) (by simp) (fun y hy => by rw [List.mem_singleton.mp hy]; exact dt_str (n := 0) (by decide))
    intro v hv
    simp only [List.mem_cons, List.not_mem_nil, or_false] at hv
    rcases hd2 with ⟨es, eh⟩ | ⟨es, eh⟩ <;> rcases hoa2 with ⟨es', eo⟩ | ⟨es', eo⟩ <;> rw [es] at es' <;> first | cases es' | skip
    all_goals
      rw [es]
      subst eh
      subst eo
      rcases hv with rfl | rfl | rfl | rfl | rfl | rfl | rfl | rfl | rfl | rfl
      all_goals first | exact ⟨by decide +kernel, fun H' _ => dt_str (by decide +kernel)⟩ | exact ⟨rfl, fun H' _ => dt_int⟩ | exact ⟨rfl, fun H' _ => dt_non⟩ | exact ⟨rfl, dp2⟩
  have hol : [V.str (hd ++ Str.ofString "abcdefghi"), V.str (hd ++ Str.ofString ""), V.str (hd ++ Str.ofString "Ab"), V.str oa, V.str "3.a", V.str ".a", V.str "a b", V.int 7, V.non, V.ref p2].length = 10 := rfl
  generalize [V.str (hd ++ Str.ofString "abcdefghi"), V.str (hd ++ Str.ofString ""), V.str (hd ++ Str.ofString "Ab"), V.str oa, V.str "3.a", V.str ".a", V.str "a b", V.int 7, V.non, V.ref p2] = odd at hodd hol ⊢
  have sm3' := same_new hp3 (.lst odd)
  have e3 : upd H2 p3 (.lst odd) p3 = some (.lst odd) := upd_same
  generalize upd H2 p3 (.lst odd) = H3 at sm3' e3 ⊢
  have sm3 := sm2.trans sm3'
  have each : ∀ {H4 : Hp}, Same H H4 → ∀ (wq : Addr) (us : List V), H4 wq = some (.lst us) → us.length ≤ 1000 → (∀ y ∈ us, DT 1 H4 y) → (∀ H5, Same H4 H5 → wordsA H5 r.s (.ref wq) = false) → ∀ {g : TG} {te : TE} {nT : Nat} {σ : L2.St} {L : Addr}, H4 L = none →
      (∀ (a : Addr) (x : List (Option Nat)) (H' : Hp) (C : VK), H' a = some (.lst (x.map wayV)) → x.length ≤ 20 → (∀ (l : Addr) (xs : List V) (H2 : Hp), Same H' H2 → H' l = none → H2 l = some (.lst xs) → xs.length ≤ 1000 → (∀ y ∈ xs, FlatS y) → C (.ref l) H2) → g (.ref a) (σ ++ List.replicate nT none) H' fun σ2 H2 => te σ2 H2 C) →
      compW (Itl K rp) g tYes te nT σ L (fun x H1 => 3 ≤ sizeLine ∧ ∀ (p_1 : Addr), H1 p_1 = none → Q (V.ref p_1) (upd H1 p_1 (HO.tup [V.int r.s, V.ref wq, x]))) (upd H4 L (.lst [])) := fun {H4} sm4 wq us hwq hul hud hno {g te nT σ L} hL hs => by
    refine grow_rooms (hR.mono sm4) n1 n20 hL hs (fun H5 s5 hdt => ⟨by decide, fun t ht => fin (sm4.trans s5) t ht _ (by simp) (all3 dt_int (dt_seq (.inl (s5 _ _ hwq)) hul fun y hy => (hud y hy).mono s5) hdt) fun H6 s6 => t3_words (hno _ (s5.trans s6))⟩)
  walk_at "nx"
  refine ite2 (fun c => ?_) (fun c => ?_)
  · obtain ⟨v, hv, _⟩ := at_lst (xs := odd) (i := cc % 10) (by omega) (by omega)
    obtain ⟨hv1, hv2⟩ := hodd v (List.mem_of_getElem? hv)
    refine ⟨by decide, _, v, .inl (SqL.of e3), (by have := atI_nat hv; rwa [show (((cc % 10).toNat : Nat) : Int) = cc % 10 by omega] at this), by decide, fun p hp => ?_⟩
    have sm4' := same_new hp (.lst [v])
    have e4 : upd H3 p (.lst [v]) p = some (.lst [v]) := upd_same
    generalize upd H3 p (.lst [v]) = H4 at sm4' e4 ⊢
    have sm4 := sm3.trans sm4'
    refine ⟨⟨_, SqL.of (hR.mono sm4).1⟩, fun L hL => ?_⟩
    refine each sm4 p [v] e4 (by simp) (fun y hy => by rw [List.mem_singleton.mp hy]; exact hv2 _ (sm3'.trans sm4')) (fun H5 s5 => words_odd (s5 _ _ e4) v (by simp) hv1) hL (fun a x H' C ha hx hC => ?_)
    walk_at "rd1"
    exact ⟨by decide, fun b hb => hC b _ _ (same_new hb _) hb upd_same (by simp) fun y hy => by rw [List.mem_singleton.mp hy]; exact flat_non⟩
  walk_at "nx"
  refine ite2 (fun c => ?_) (fun c => ?_)
  · have hb1 : (Str.ofString "b").length = 1 := by decide
    have ha1 : (Str.ofString "a").length = 1 := by decide
    refine ⟨by rw [hb1]; exact smallL (by omega), by rw [ha1]; exact smallL (by omega), by decide, fun p hp => ?_⟩
    have hfall : risingB [hd ++ Str.ofString "b", hd ++ Str.ofString "a"] = false := by rcases hd2 with ⟨_, rfl⟩ | ⟨_, rfl⟩ <;> decide +kernel
    have hlb : (hd ++ Str.ofString "b").length ≤ 10 := by rw [Str.length_append, hb1]; omega
    have hla : (hd ++ Str.ofString "a").length ≤ 10 := by rw [Str.length_append, ha1]; omega
    generalize hd ++ Str.ofString "b" = yb at hfall hlb ⊢
    generalize hd ++ Str.ofString "a" = ya at hfall hla ⊢
    have sm4' := same_new hp (.lst [V.str yb, V.str ya])
    have e4 : upd H3 p (.lst [V.str yb, V.str ya]) p = some (.lst ([yb, ya].map V.str)) := upd_same
    generalize upd H3 p (.lst [V.str yb, V.str ya]) = H4 at sm4' e4 ⊢
    have sm4 := sm3.trans sm4'
    refine ⟨⟨_, SqL.of (hR.mono sm4).1⟩, fun L hL => ?_⟩
    refine each sm4 p _ e4 (by simp) (fun y hy => ?_) (fun H5 s5 => words_fall (s5 _ _ e4) hfall) hL (fun a x H' C ha hx hC => ?_)
    · obtain ⟨u, hu, rfl⟩ := List.mem_map.mp hy
      simp only [List.mem_cons, List.not_mem_nil, or_false] at hu
      rcases hu with rfl | rfl <;> exact dt_str (by omega)
    walk_at "rd1"
    refine ⟨by decide, fun b hb => hC b _ _ (same_new hb _) hb upd_same (by simp) fun y hy => ?_⟩
    simp only [List.mem_cons, List.not_mem_nil, or_false] at hy
    rcases hy with rfl | rfl
    · exact flat_int
    · exact flat_non
  walk_at "nx"
  walk_at "nx"
  intro p hp
  have h17 : (Str.ofString "abcdefghijklmnopq").length = 17 := by decide
  refine compW_str (fun i ys H' => ∃ us : List Str, Same H3 H' ∧ H' p = some (.lst ys) ∧ ys = us.map V.str ∧ us.length = i ∧ ∀ u ∈ us, u.length ≤ 10) ⟨[], same_new hp _, upd_same, rfl, rfl, by simp⟩ ?_ ?_
  · rintro i ys H' ch hc hi ⟨us, sm, hl, rfl, hul, hu⟩
    walk_at "rd1"
    refine ⟨smallL (by show hd.length + 1 ≤ _; omega), cstep hi (by rw [List.length_map]; exact hul) (smallL (by omega)) hl ⟨us ++ [hd ++ ⟨#[ch]⟩], sm.upd hp _, upd_same, map_push _ _, len_push hul, all_push hu (by rw [len_app1]; omega)⟩⟩
  · rintro ys H4 ⟨us, sm4', hl4, rfl, hul, hu⟩
    have sm4 := sm3.trans sm4'
    refine ⟨⟨_, SqL.of (hR.mono sm4).1⟩, fun L hL => ?_⟩
    refine each sm4 p _ hl4 (by rw [List.length_map]; omega) (fun y hy => ?_) (fun H5 s5 => words_long (s5 _ _ hl4) (by rw [List.length_map]; omega)) hL (fun a x H' C ha hx hC => ?_)
    · obtain ⟨u, hu', rfl⟩ := List.mem_map.mp hy
      exact dt_str (by have := hu u hu'; omega)
    walk_at "rd1"
    refine ⟨by decide, fun b hb => ⟨b, _, _, rfl, rfl, upd_same, by decide, by decide, smallL (show 1 * 17 ≤ 1000000 by decide), fun b2 hb2 => ?_⟩⟩
    refine hC b2 _ _ ((same_new hb _).trans (same_new hb2 _)) (same_none (same_new hb _) hb2) upd_same (by rw [len_rep]; decide) fun y hy => ?_
    obtain ⟨l, hl, hy⟩ := List.mem_flatten.mp hy
    rw [List.eq_of_mem_replicate hl] at hy
    rw [List.mem_singleton.mp hy]; exact flat_int
end
theorem room_tup {H : Hp} {a : Addr} {xs : List V} {m n : Int} (h : H a = some (.tup xs)) : roomA H m n (.ref a) = false := by
  unfold roomA
  rw [lstA_no]
  intro b ys e z
  cases e
  rw [h] at z
  cases z
theorem room_len {H : Hp} {a : Addr} {xs : List V} {m n : Int} (h : H a = some (.lst xs)) (hl : (xs.length : Int) ≠ m) : roomA H m n (.ref a) = false := by
  unfold roomA
  rw [lstA_of h]
  show (decide _ && _) = false
  rw [decide_eq_false hl]; rfl
theorem room_way {H : Hp} {a : Addr} {xs : List V} {m n : Int} (h : H a = some (.lst xs)) (y : V) (hy : y ∈ xs) (hb : wayA n y = false) : roomA H m n (.ref a) = false := by
  unfold roomA
  rw [lstA_of h]
  show (decide _ && _) = false
  have : xs.all (wayA n) = false := by rw [List.all_eq_false]; exact ⟨y, hy, by rw [hb]; decide⟩
  rw [this, Bool.and_false]
theorem eq_nil {K : PySem.W.Frag} {H : Hp} {a b : Addr} {x : List (Option Nat)} (h1 : H a = some (.lst (x.map wayV))) (h2 : H b = some (.lst (([] : List (Option Nat)).map wayV))) : EqN K H (0 + 1) (.ref a) (.ref b) (decide (x = [])) := by
  cases x with
  | nil => exact EqN.seqFlat (.inl ⟨SqL.of h1, SqL.of h2⟩) (ways_flat _)
  | cons y t => exact .inr ⟨a, b, _, _, rfl, rfl, .inl ⟨SqL.of h1, SqL.of h2⟩, .inr ⟨SqL.of h1, SqL.of h2, by simp, rfl⟩⟩
theorem cut_short {xs : List V} (h : 1 ≤ xs.length) : (cutV xs none (some (-1))).length = xs.length - 1 ∧ ∀ y ∈ cutV xs none (some (-1)), y ∈ xs := by
  have e : HT.sIx xs.length xs.length (some (-1)) = xs.length - 1 := by
    unfold HT.sIx
    simp only []
    split <;> omega
  have e0 : HT.sIx xs.length 0 none = 0 := rfl
  unfold cutV
  rw [e, e0]
  exact ⟨by simp, fun y hy => List.mem_of_mem_drop (List.mem_of_mem_take hy)⟩
theorem way_top {n : Nat} : wayA n (.int (n : Int)) = false := by
  show (decide ((0 : Int) ≤ n) && decide ((n : Int) < (n : Int))) = false
  rw [decide_eq_false (Int.lt_irrefl _), Bool.and_false]
theorem way_big {n : Nat} (h : n ≤ 60) : wayA n (.int (10 ^ Int.toNat 30)) = false := by
  have h2 : (60 : Int) < (10 : Int) ^ Int.toNat 30 := by decide
  show (decide ((0 : Int) ≤ 10 ^ Int.toNat 30) && decide ((10 : Int) ^ Int.toNat 30 < (n : Int))) = false
  generalize (10 : Int) ^ Int.toNat 30 = z at h2 ⊢
  rw [decide_eq_false (show ¬ (z < (n : Int)) by omega), Bool.and_false]
theorem way_low {n : Nat} : wayA n (.int (-10 ^ Int.toNat 30)) = false := by
  show (decide ((0 : Int) ≤ -10 ^ Int.toNat 30) && decide (-(10 : Int) ^ Int.toNat 30 < (n : Int))) = false
  rw [decide_eq_false (show ¬ ((0 : Int) ≤ -10 ^ Int.toNat 30) by decide), Bool.false_and]
/-- rooms one of which is none -/
def spRoomS : Sp := fun vs H Q _ => ∃ (r : Rl) (rp : Addr) (as : List Addr) (k c : Int), vs = [.ref rp, .int k, .int c] ∧ RoomsAs H rp r.rs as ∧ RlOk r ∧ 18 ≤ k ∧ k < 30 ∧ ∀ (x : Addr) (H' : Hp), Same H H' → DT 2 H' (.ref x) → roomsA H' r.ws.length (.ref x) = false → Q (.ref x) H'
section
variable {P : Program} {w : World} {K : PySem.W.Frag} {mg : Str → Option Value} {base : Heap}
theorem ok_roomS (D : DefAt K mg "_law_spoiled_room" s_law_spoiled_room) (z_len : mg "len" = none) (z_list : mg "list" = none) (z_tuple : mg "tuple" = none) : Cal P w K mg base 1 "_law_spoiled_room" ["_law_rooms", "_law_way_here", "_law_cell"] spRoomS := by
  refine D.cal (k := 0) sc_law_spoiled_room (fun _ _ _ _ _ _ us hl => match us, hl with | [_, _, _], _ => rfl) (fun vs H Q E h => by obtain ⟨r, rp, as, k, c, rfl, _⟩ := h; rfl) (fun f cdv A outer s H vs Q E hr h => ?_)
  obtain ⟨r, rp, as, k, cc, rfl, hR, ok, k0, k1, q⟩ := h
  have nw := ok.nw
  have n0 := ok.n0
  have n1 := ok.n1
  have hal := hR.2.1
  have dr : ∀ {H'}, Same H H' → (∀ b ∈ as, DT 1 H' (.ref b)) ∧ DT 2 H' (.ref rp) := fun sm => dt_rooms (hR.mono sm) (by omega) (fun x hx => by rw [(ok.row x hx).1]; omega)
  refine ⟨_, (pss_cons (ps_let 3 sc_law_spoiled_room.nd (pe_op op_mod (pv 2 (hv := v_law_spoiled_room__law_cell)) (pe_blt (call_lenK K) z_len bt_len (pa_cons (pv 0 (hv := v_law_spoiled_room__law_rooms)) pa_nil) (hg := gl_law_spoiled_room_len))) (hx := l_law_spoiled_room__law_at))
      (pss_cons (ps_let 4 sc_law_spoiled_room.nd (pe_bty (call_listA K) z_list bt_list (pa_cons (pe_ix (ix_K K) (pv 0 (hv := v_law_spoiled_room__law_rooms)) (pv 3 (hv := v_law_spoiled_room__law_at)) (fun _ _ => rfl)) pa_nil) (hg := gl_law_spoiled_room_list)) (hx := l_law_spoiled_room__law_room))
      (pss_cons (ps_if (pt_cmpR op_eqA (pv 1 (hv := v_law_spoiled_room__law_way_here)) pe_int (nomark _)) (pss_one (ps_let 4 sc_law_spoiled_room.nd (pe_bty (call_tupA K) z_tuple bt_tuple (pa_cons (pv 4 (hv := v_law_spoiled_room__law_room)) pa_nil) (hg := gl_law_spoiled_room_tuple)) (hx := l_law_spoiled_room__law_room))) (pss_one (ps_if (pt_cmpR op_eqA (pv 1 (hv := v_law_spoiled_room__law_way_here)) pe_int (nomark _)) (pss_one (ps_let 4 sc_law_spoiled_room.nd (pe_op op_addA (pv 4 (hv := v_law_spoiled_room__law_room)) (pe_lst (pa_cons pe_non pa_nil))) (hx := l_law_spoiled_room__law_room))) (pss_one (ps_if (PW.pt' (pw_and (pt_cmpR op_eqA (pv 1 (hv := v_law_spoiled_room__law_way_here)) pe_int (nomark _)) (pw_and1 (pt_cmpR (op_neKD K hr) (pv 4 (hv := v_law_spoiled_room__law_room)) (pe_lst pa_nil) (nomark _))))) (pss_one (ps_let 4 sc_law_spoiled_room.nd (pe_slice (sl_listK K) (pv 4 (hv := v_law_spoiled_room__law_room)) po_none (po_some (pe_un un_neg pe_int))) (hx := l_law_spoiled_room__law_room))) (pss_one (ps_if (PW.pt' (pw_or (pt_cmpR op_ltA (pv 1 (hv := v_law_spoiled_room__law_way_here)) pe_int (nomark _)) (pw_or1 (pt_cmpR (op_eqKD K hr) (pv 4 (hv := v_law_spoiled_room__law_room)) (pe_lst pa_nil) (nomark _))))) (pss_one (ps_let 4 sc_law_spoiled_room.nd (pe_ix (ix_K K) (pe_lst (pa_cons pe_non (pa_cons pe_str (pa_cons pe_int (pa_cons pe_dnewK pa_nil))))) (pe_op op_mod (pe_op op_fdiv (pv 2 (hv := v_law_spoiled_room__law_cell)) (pe_blt (call_lenK K) z_len bt_len (pa_cons (pv 0 (hv := v_law_spoiled_room__law_rooms)) pa_nil) (hg := gl_law_spoiled_room_len))) pe_int) (fun _ _ => rfl)) (hx := l_law_spoiled_room__law_room))) (pss_cons (ps_let 5 sc_law_spoiled_room.nd (pe_lst (pa_cons (pe_blt (call_lenK K) z_len bt_len (pa_cons (pv 0 (hv := v_law_spoiled_room__law_rooms)) pa_nil) (hg := gl_law_spoiled_room_len)) (pa_cons (pe_un un_neg pe_int) (pa_cons pe_bl (pa_cons pe_bl (pa_cons pe_str (pa_cons (pe_lst (pa_cons pe_int pa_nil)) (pa_cons (pe_op op_pow pe_int pe_int) (pa_cons (pe_un un_neg (pe_op op_pow pe_int pe_int)) pa_nil))))))))) (hx := l_law_spoiled_room__law_odd))
      (pss_one (ps_asg (pe_ix (ix_K K) (pv 5 (hv := v_law_spoiled_room__law_odd)) (pe_op op_sub (pv 1 (hv := v_law_spoiled_room__law_way_here)) pe_int) (fun _ _ => rfl)) (pg_sub (pv 4 (hv := v_law_spoiled_room__law_room)) (pe_op op_mod (pe_op op_fdiv (pv 2 (hv := v_law_spoiled_room__law_cell)) (pe_blt (call_lenK K) z_len bt_len (pa_cons (pv 0 (hv := v_law_spoiled_room__law_rooms)) pa_nil) (hg := gl_law_spoiled_room_len))) (pe_blt (call_lenK K) z_len bt_len (pa_cons (pv 4 (hv := v_law_spoiled_room__law_room)) pa_nil) (hg := gl_law_spoiled_room_len))) set_A)))))))))))
      (pss_one (ps_ret (pe_op op_addA (pe_op op_addA (pe_slice (sl_listK K) (pv 0 (hv := v_law_spoiled_room__law_rooms)) po_none (po_some (pv 3 (hv := v_law_spoiled_room__law_at)))) (pe_lst (pa_cons (pv 4 (hv := v_law_spoiled_room__law_room)) pa_nil))) (pe_slice (sl_listK K) (pv 0 (hv := v_law_spoiled_room__law_rooms)) (po_some (pe_op op_addA (pv 3 (hv := v_law_spoiled_room__law_at)) pe_int)) po_none))))))), ?_⟩
  walk_at "rd1"
  refine ⟨_, .inl (SqL.of hR.1), ?_⟩
  rw [List.length_map, hal]
  walk_at "rd1"
  refine ⟨by omega, ?_⟩
  have a0 := Int.emod_nonneg cc (show (r.rs.length : Int) ≠ 0 by omega)
  have a1 := Int.emod_lt_of_pos cc (show (0 : Int) < (r.rs.length : Int) by omega)
  obtain ⟨at', hat, hatl⟩ : ∃ n : Nat, cc % (r.rs.length : Int) = (n : Int) ∧ n < r.rs.length := ⟨(cc % (r.rs.length : Int)).toNat, by omega, by omega⟩
  rw [hat]
  have hia : at' < as.length := by omega
  have hrow := hR.2.2 at' _ _ (List.getElem?_eq_getElem hia) (List.getElem?_eq_getElem hatl)
  obtain ⟨hxl, hxk⟩ := ok.row _ (List.getElem_mem hatl)
  generalize r.rs[at'] = x at hrow hxl hxk
  walk_at "nx"
  refine ⟨_, _, .inl (SqL.of hR.1), atI_nat (v := .ref as[at']) (by rw [List.getElem?_map, List.getElem?_eq_getElem hia]; rfl), ?_⟩
  walk_at "rd1"
  refine ⟨_, .inl (SqL.of hrow), fun p hp => ?_⟩
  have sm0 := same_new hp (.lst (x.map wayV))
  have e0 : upd H p (.lst (x.map wayV)) p = some (.lst (x.map wayV)) := upd_same
  generalize upd H p (.lst (x.map wayV)) = H0 at sm0 e0 ⊢
  have odd4 : ∀ {Hd : Hp} {dp p9 : Addr}, Same H Hd → Hd dp = some (.dK []) → Hd p9 = none → ∀ {kk : L2.St → Hp → Prop}, (∀ (σ' : L2.St) (H' : Hp), (∃ (v : V) (o5 : Option V), σ' = [some (V.ref rp), some (V.int k), some (V.int cc), some (V.int (at' : Int)), some v, o5] ∧ Same H H' ∧ DT 1 H' v ∧ ∀ (H2 : Hp), Same H' H2 → roomA H2 r.ws.length r.rs.length v = false) → kk σ' H') →
      ∃ ys, (SqL K (upd Hd p9 (HO.lst [V.non, V.str (Str.ofString ""), V.int 0, V.ref dp])) rp ys ∨ SqT K (upd Hd p9 (HO.lst [V.non, V.str (Str.ofString ""), V.int 0, V.ref dp])) rp ys) ∧ CDiv cc ys.length ∧ (0 : Int) < 4 ∧ ∃ xs v, (SqL K (upd Hd p9 (HO.lst [V.non, V.str (Str.ofString ""), V.int 0, V.ref dp])) p9 xs ∨ SqT K (upd Hd p9 (HO.lst [V.non, V.str (Str.ofString ""), V.int 0, V.ref dp])) p9 xs) ∧ atI xs (cc / (ys.length : Int) % 4) = some v ∧
        kk [some (V.ref rp), some (V.int k), some (V.int cc), some (V.int (at' : Int)), some v, none] (upd Hd p9 (HO.lst [V.non, V.str (Str.ofString ""), V.int 0, V.ref dp])) := fun {Hd dp p9} sd ed hp9 {kk} hk => by
    have sl' := same_new hp9 (.lst [V.non, V.str (Str.ofString ""), V.int 0, V.ref dp])
    have el : upd Hd p9 (.lst [V.non, V.str (Str.ofString ""), V.int 0, V.ref dp]) p9 = some (.lst [V.non, V.str (Str.ofString ""), V.int 0, V.ref dp]) := upd_same
    generalize upd Hd p9 (.lst [V.non, V.str (Str.ofString ""), V.int 0, V.ref dp]) = Hl at sl' el ⊢
    have sl := sd.trans sl'
    refine ⟨_, .inl (SqL.of (hR.mono sl).1), ?_⟩
    rw [List.length_map, hal]
    obtain ⟨v, hv, _⟩ := at_lst (xs := [V.non, V.str (Str.ofString ""), V.int 0, V.ref dp]) (i := cc / (r.rs.length : Int) % 4) (by omega) (by show _ < ((4 : Nat) : Int); omega)
    refine ⟨⟨by omega, by omega⟩, by decide, _, v, .inl (SqL.of el), (by have := atI_nat hv; rwa [show (((cc / (r.rs.length : Int) % 4).toNat : Nat) : Int) = cc / (r.rs.length : Int) % 4 by omega] at this), hk _ _ ⟨v, _, rfl, sl, ?_, ?_⟩⟩
    · have hm := List.mem_of_getElem? hv
      simp only [List.mem_cons, List.not_mem_nil, or_false] at hm
      rcases hm with rfl | rfl | rfl | rfl
      · exact dt_non
      · exact dt_str (by decide)
      · exact dt_int
      · exact ⟨.inr ⟨[], sl' _ _ ed⟩, fun a xs e he => by cases e; rw [sl' _ _ ed] at he; rcases he with he | he <;> cases he⟩
    · intro H2 s2
      have hm := List.mem_of_getElem? hv
      simp only [List.mem_cons, List.not_mem_nil, or_false] at hm
      rcases hm with rfl | rfl | rfl | rfl
      · rfl
      · rfl
      · rfl
      · unfold roomA
        rw [lstA_no]
        intro a xs e z
        cases e
        rw [s2 _ _ (sl' _ _ ed)] at z
        cases z
  refine seq_by (fun σ' H' => ∃ (v : V) (o5 : Option V), σ' = [some (.ref rp), some (.int k), some (.int cc), some (.int (at' : Int)), some v, o5] ∧ Same H H' ∧ DT 1 H' v ∧ ∀ H2, Same H' H2 → roomA H2 r.ws.length r.rs.length v = false) (fun kk hk => ?_) ?_
  · walk_at "rd1"
    refine ite2 (fun c => ?_) (fun c18 => ite2 (fun c => ?_) (fun c19 => ite2 (fun c => ?_) (fun c20 => ite2 (fun c => ?_) (fun c22 => ?_))))
    · refine ⟨_, .inl ⟨SqL.of e0, fun l hl => ?_⟩⟩
      refine hk _ _ ⟨.ref l, _, rfl, sm0.trans (same_new hl _), dt_seq (.inr upd_same) (by rw [List.length_map]; omega) (fun y hy => by obtain ⟨o, _, rfl⟩ := List.mem_map.mp hy; exact dt_way), fun H2 s2 => room_tup (s2 _ _ upd_same)⟩
    · refine ⟨by decide, fun l hl => ⟨_, _, same_new hl _ _ _ e0, upd_same, by rw [List.length_map]; exact smallL (by show x.length + 1 ≤ _; omega), fun l2 hl2 => ?_⟩⟩
      refine hk _ _ ⟨.ref l2, _, rfl, (sm0.trans (same_new hl _)).trans (same_new hl2 _), dt_seq (.inl upd_same) (by simp; omega) (fun y hy => ?_), fun H2 s2 => room_len (s2 _ _ upd_same) (by simp; omega)⟩
      rcases List.mem_append.mp hy with z | z
      · obtain ⟨o, _, rfl⟩ := List.mem_map.mp z
        exact dt_way
      · rw [List.mem_singleton.mp z]; exact dt_non
    · refine ⟨by decide, fun l hl => ?_⟩
      have sl' := same_new hl (.lst [])
      have el : upd H0 l (.lst []) l = some (.lst (([] : List (Option Nat)).map wayV)) := upd_same
      generalize upd H0 l (.lst []) = H1 at sl' el ⊢
      have sl := sm0.trans sl'
      refine ⟨0, _, by decide, eq_nil (sl' _ _ e0) el, ?_⟩
      by_cases hx0 : x = []
      · rw [decide_eq_true hx0]
        refine ite2 (fun c => absurd c (by decide)) (fun _ => ite2 (fun _ => ?_) (fun c' => absurd (by omega) c'))
        refine fun dp hdp => ⟨by decide, fun p9 hp9 => ?_⟩
        have sd := sl.trans (same_new hdp (.dK []))
        have ed : upd H1 dp (.dK []) dp = some (.dK []) := upd_same
        generalize upd H1 dp (.dK []) = Hd at sd ed hp9 ⊢
        exact odd4 sd ed hp9 hk
      · rw [decide_eq_false hx0]
        refine ite2 (fun _ => ?_) (fun c => absurd (by decide) c)
        refine ⟨_, SqL.of (sl' _ _ e0), fun l2 hl2 => ?_⟩
        have hxp : 1 ≤ x.length := by cases x with | nil => exact absurd rfl hx0 | cons a t => simp
        obtain ⟨z1, z2⟩ := cut_short (xs := x.map wayV) (by rw [List.length_map]; exact hxp)
        rw [List.length_map] at z1
        refine hk _ _ ⟨.ref l2, _, rfl, sl.trans (same_new hl2 _), dt_seq (.inl upd_same) (by omega) (fun y hy => ?_), fun H2 s2 => room_len (s2 _ _ upd_same) (by omega)⟩
        obtain ⟨o, _, rfl⟩ := List.mem_map.mp (z2 y hy)
        exact dt_way
    · refine fun dp hdp => ⟨by decide, fun p9 hp9 => ?_⟩
      have sd := sm0.trans (same_new hdp (.dK []))
      have ed : upd H0 dp (.dK []) dp = some (.dK []) := upd_same
      generalize upd H0 dp (.dK []) = Hd at sd ed hp9 ⊢
      exact odd4 sd ed hp9 hk
    · refine ⟨by decide, fun l hl => ?_⟩
      have sl' := same_new hl (.lst [])
      have el : upd H0 l (.lst []) l = some (.lst (([] : List (Option Nat)).map wayV)) := upd_same
      generalize upd H0 l (.lst []) = H1 at sl' el ⊢
      have sl := sm0.trans sl'
      refine ⟨0, _, by decide, eq_nil (sl' _ _ e0) el, ?_⟩
      by_cases hx0 : x = []
      · rw [decide_eq_true hx0]
        refine ite2 (fun _ => ?_) (fun c => absurd rfl c)
        refine fun dp hdp => ⟨by decide, fun p9 hp9 => ?_⟩
        have sd := sl.trans (same_new hdp (.dK []))
        have ed : upd H1 dp (.dK []) dp = some (.dK []) := upd_same
        generalize upd H1 dp (.dK []) = Hd at sd ed hp9 ⊢
        exact odd4 sd ed hp9 hk
      · rw [decide_eq_false hx0]
        refine ite2 (fun c => absurd c (by decide)) (fun _ => ?_)
        have hxp : 1 ≤ x.length := by cases x with | nil => exact absurd rfl hx0 | cons a t => simp
        refine ⟨_, .inl (SqL.of (hR.mono sl).1), ?_⟩
        rw [List.length_map, hal]
        refine ⟨by decide, fun p3 hp3 => ⟨⟨by decide, by decide, by decide⟩, ⟨by decide, by decide, by decide⟩, by decide, fun p4 hp4 => ?_⟩⟩
        have s3' := same_new hp3 (.lst [V.int 0])
        have e3 : upd H1 p3 (.lst [V.int 0]) p3 = some (.lst [V.int 0]) := upd_same
        generalize upd H1 p3 (.lst [V.int 0]) = H2 at s3' e3 hp4 ⊢
        have hodd : ∀ v ∈ [V.int (r.rs.length : Int), V.int (-1), V.bl true, V.bl false, V.str (Str.ofString "0"), V.ref p3, V.int (10 ^ Int.toNat 30), V.int (-10 ^ Int.toNat 30)], wayA r.rs.length v = false ∧ ∀ H', Same H2 H' → DT 0 H' v := by
          intro v hv
          simp only [List.mem_cons, List.not_mem_nil, or_false] at hv
          rcases hv with rfl | rfl | rfl | rfl | rfl | rfl | rfl | rfl
          · exact ⟨way_top, fun _ _ => dt_int⟩
          · exact ⟨rfl, fun _ _ => dt_int⟩
          · exact ⟨rfl, fun _ _ => dt_bl⟩
          · exact ⟨rfl, fun _ _ => dt_bl⟩
          · exact ⟨rfl, fun _ _ => dt_str (by decide)⟩
          · exact ⟨rfl, fun _ s' => .inl ⟨_, .inl (s' _ _ e3), by simp⟩⟩
          · exact ⟨way_big n1, fun _ _ => dt_int⟩
          · exact ⟨way_low, fun _ _ => dt_int⟩
        have hol : [V.int (r.rs.length : Int), V.int (-1), V.bl true, V.bl false, V.str (Str.ofString "0"), V.ref p3, V.int (10 ^ Int.toNat 30), V.int (-10 ^ Int.toNat 30)].length = 8 := rfl
        generalize [V.int (r.rs.length : Int), V.int (-1), V.bl true, V.bl false, V.str (Str.ofString "0"), V.ref p3, V.int (10 ^ Int.toNat 30), V.int (-10 ^ Int.toNat 30)] = odd at hodd hol ⊢
        have s4' := same_new hp4 (.lst odd)
        have e4 : upd H2 p4 (.lst odd) p4 = some (.lst odd) := upd_same
        generalize upd H2 p4 (.lst odd) = H3 at s4' e4 ⊢
        have s03 : Same H0 H3 := (sl'.trans s3').trans s4'
        have sm3 := sm0.trans s03
        obtain ⟨v, hv, _⟩ := at_lst (xs := odd) (i := k - 22) (by omega) (by omega)
        obtain ⟨hv1, hv2⟩ := hodd v (List.mem_of_getElem? hv)
        walk_at "nx"
        refine ⟨_, v, .inl (SqL.of e4), (by have := atI_nat hv; rwa [show (((k - 22).toNat : Nat) : Int) = k - 22 by omega] at this), ?_⟩
        refine ⟨_, .inl (SqL.of (hR.mono sm3).1), ?_⟩
        rw [List.length_map, hal]
        refine ⟨⟨by omega, by omega⟩, _, .inl (SqL.of (s03 _ _ e0)), ?_⟩
        rw [List.length_map]
        refine ⟨by omega, ?_⟩
        have b0 := Int.emod_nonneg (cc / (r.rs.length : Int)) (show (x.length : Int) ≠ 0 by omega)
        have b1 := Int.emod_lt_of_pos (cc / (r.rs.length : Int)) (show (0 : Int) < (x.length : Int) by omega)
        obtain ⟨j, hj, hjl⟩ : ∃ j : Nat, cc / (r.rs.length : Int) % (x.length : Int) = (j : Int) ∧ j < x.length := ⟨(cc / (r.rs.length : Int) % (x.length : Int)).toNat, by omega, by omega⟩
        rw [hj]
        refine ⟨_, j, s03 _ _ e0, ?_, ?_⟩
        · rw [List.length_map]
          unfold ixN
          rw [if_pos (by omega), if_pos (by omega)]
          congr 1
        · have np : p ≠ p4 := fun e => by subst e; rw [(sl'.trans s3') _ _ e0] at hp4; cases hp4
          refine hk _ _ ⟨.ref p, _, rfl, sm3.upd hp _, dt_seq (.inl upd_same) (by rw [List.length_set, List.length_map]; omega) (fun y hy => ?_), fun H9 s9 => room_way (s9 _ _ upd_same) v (List.mem_iff_getElem.mpr ⟨j, by rw [List.length_set, List.length_map]; exact hjl, by rw [List.getElem_set_self]⟩) hv1⟩
          rcases List.mem_or_eq_of_mem_set hy with z | z
          · obtain ⟨o, _, rfl⟩ := List.mem_map.mp z
            exact dt_way
          · rw [z]
            have t0 := hv2 _ s4'
            cases v with
            | ref a =>
              rcases t0 with ⟨ys, ha, hl'⟩ | ⟨kvs, ha⟩
              · by_cases ea : a = p
                · subst ea
                  exact .inl ⟨_, .inl upd_same, by rw [List.length_set, List.length_map]; omega⟩
                · exact .inl ⟨ys, by rw [upd_ne ea]; exact ha, hl'⟩
              · by_cases ea : a = p
                · subst ea
                  exact .inl ⟨_, .inl upd_same, by rw [List.length_set, List.length_map]; omega⟩
                · exact .inr ⟨kvs, by rw [upd_ne ea]; exact ha⟩
            | _ => exact t0
  rintro σ' H1 ⟨v, o5, rfl, sm1, hdv, hbad⟩
  have hR1 := hR.mono sm1
  walk_at "nx"
  refine ⟨_, SqL.of hR1.1, fun q1 hq1 => ?_⟩
  rw [cutV_to]
  refine ⟨by decide, fun q2 hq2 => ?_⟩
  have t1 := same_new hq1 (.lst ((as.map V.ref).take at'))
  have f1 : upd H1 q1 (.lst ((as.map V.ref).take at')) q1 = some (.lst ((as.map V.ref).take at')) := upd_same
  generalize upd H1 q1 (.lst ((as.map V.ref).take at')) = G1 at t1 f1 hq2 ⊢
  have t2 := same_new hq2 (.lst [v])
  have f2 : upd G1 q2 (.lst [v]) q2 = some (.lst [v]) := upd_same
  generalize upd G1 q2 (.lst [v]) = G2 at t2 f2 ⊢
  refine ⟨_, _, t2 _ _ f1, f2, smallL (by simp; omega), fun q3 hq3 => ?_⟩
  have t3 := same_new hq3 (.lst ((as.map V.ref).take at' ++ [v]))
  have f3 : upd G2 q3 (.lst ((as.map V.ref).take at' ++ [v])) q3 = some (.lst ((as.map V.ref).take at' ++ [v])) := upd_same
  generalize upd G2 q3 (.lst ((as.map V.ref).take at' ++ [v])) = G3 at t3 f3 ⊢
  have t13 := (t1.trans t2).trans t3
  refine ⟨_, SqL.of (t13 _ _ hR1.1), fun q4 hq4 => ?_⟩
  rw [show (at' : Int) + 1 = ((at' + 1 : Nat) : Int) by omega, cutV_from]
  have t4 := same_new hq4 (.lst ((as.map V.ref).drop (at' + 1)))
  have f4 : upd G3 q4 (.lst ((as.map V.ref).drop (at' + 1))) q4 = some (.lst ((as.map V.ref).drop (at' + 1))) := upd_same
  generalize upd G3 q4 (.lst ((as.map V.ref).drop (at' + 1))) = G4 at t4 f4 ⊢
  have hll : (((as.map V.ref).take at' ++ [v]) ++ (as.map V.ref).drop (at' + 1)).length = r.rs.length := by
    simp only [List.length_append, List.length_take, List.length_drop, List.length_map, List.length_singleton]; omega
  refine ⟨_, _, t4 _ _ f3, f4, by rw [← List.length_append, hll]; exact smallL (by omega), fun q5 hq5 => ?_⟩
  have t5 := same_new hq5 (.lst (((as.map V.ref).take at' ++ [v]) ++ (as.map V.ref).drop (at' + 1)))
  have t15 := (t13.trans t4).trans t5
  have sm5 := sm1.trans t15
  refine q q5 _ sm5 (dt_seq (.inl upd_same) (by rw [hll]; omega) (fun y hy => ?_)) (rooms_bad upd_same v (by simp) (by rw [hll]; exact hbad _ t15))
  have old : ∀ y ∈ as.map V.ref, DT 1 (upd G4 q5 (.lst (((as.map V.ref).take at' ++ [v]) ++ (as.map V.ref).drop (at' + 1)))) y := fun y hy => by
    obtain ⟨b, hb, rfl⟩ := List.mem_map.mp hy
    exact (dr sm5).1 b hb
  rcases List.mem_append.mp hy with z | z
  · rcases List.mem_append.mp z with z | z
    · exact old y (List.mem_of_mem_take z)
    · rw [List.mem_singleton.mp z]; exact hdv.mono t15
  · exact old y (List.mem_of_mem_drop z)
end
def spSpoiled : Sp := fun vs H Q _ => ∃ (p : Addr) (r : Rl) (c : Int), vs = [.ref p, .int c] ∧ RuleAt H p r ∧ RlOk r ∧ ∀ (x : V) (H' : Hp), Same H H' → Spoiled H' x → Q x H'
section
variable {P : Program} {w : World} {K : PySem.W.Frag} {mg : Str → Option Value} {base : Heap}
theorem ok_spoiled (D : DefAt K mg "_law_spoiled" s_law_spoiled) (z_list : mg "list" = none) (c_law_spoiled_head : Cal P w K mg base 1 "_law_spoiled_head" ["_law_sides", "_law_words_here", "_law_rooms", "_law_way_here"] spHead) (c_law_spoiled_words : Cal P w K mg base 1 "_law_spoiled_words" ["_law_sides", "_law_words_here", "_law_rooms", "_law_way_here", "_law_cell"] spWordsS)
    (c_law_spoiled_room : Cal P w K mg base 1 "_law_spoiled_room" ["_law_rooms", "_law_way_here", "_law_cell"] spRoomS) : Cal P w K mg base 2 "_law_spoiled" ["_law_rule_here", "_law_cell"] spSpoiled := by
  refine D.cal (k := 1) sc_law_spoiled (fun _ _ _ _ _ _ us hl => match us, hl with | [_, _], _ => rfl) (fun vs H Q E h => by obtain ⟨p, r, c, rfl, _⟩ := h; rfl) (fun f cdv A outer s H vs Q E hr h => ?_)
  obtain ⟨p, r, cc, rfl, ⟨pw, pr, as, h1, h2, h3⟩, ok, q⟩ := h
  have nw := ok.nw
  refine ⟨_, (pss_cons (ps_let 2 sc_law_spoiled.nd (pe_op op_mod (pv 1 (hv := v_law_spoiled__law_cell)) pe_int) (hx := l_law_spoiled__law_way_here))
      (pss_cons (ps_if (pt_cmpR op_ltA (pv 2 (hv := v_law_spoiled__law_way_here)) pe_int (nomark _)) (pss_one (ps_ret (pe_cal c_law_spoiled_head hr (pa_cons (pe_ix (ix_K K) (pv 0 (hv := v_law_spoiled__law_rule_here)) pe_int (fun _ _ => rfl)) (pa_cons (pe_bty (call_listA K) z_list bt_list (pa_cons (pe_ix (ix_K K) (pv 0 (hv := v_law_spoiled__law_rule_here)) pe_int (fun _ _ => rfl)) pa_nil) (hg := gl_law_spoiled_list)) (pa_cons (pe_comp (CompSc.to (fsc := (defScope s_law_spoiled)) (N := ["_law_rule_here", "_law_cell", "_law_way_here"]) (N0 := ["_law_rule_here", "_law_cell", "_law_way_here"]) (T := ["_law_room"]) ⟨by decide +kernel, by decide +kernel, by decide +kernel, by decide +kernel, by decide +kernel, by decide +kernel, by decide +kernel⟩ rfl rfl) rfl (pi_listK K (pe_ix (ix_K K) (pv 0 (hv := v_law_spoiled__law_rule_here)) pe_int (fun _ _ => rfl))) (fun _ _ _ _ => (pg_let 3 (show (["_law_rule_here", "_law_cell", "_law_way_here", "_law_room"] : List Str).Nodup from by decide +kernel) (hx := (locC (defScope s_law_spoiled) (by decide +kernel))) (hf := fnC (defScope s_law_spoiled) (by decide +kernel)))) (gfr_name (show (["_law_rule_here", "_law_cell", "_law_way_here"] : List Str).length ≤ 3 from by decide)) (fun _ _ _ _ => pifs_nil) (fun _ _ _ _ => (pe_bty (call_listA K) z_list bt_list (pa_cons (pv 3 (hv := (visC (defScope s_law_spoiled) (by decide +kernel)))) pa_nil) (hg := (glC (defScope s_law_spoiled) (by decide +kernel)))))) (pa_cons (pv 2 (hv := v_law_spoiled__law_way_here)) pa_nil)))) (hg := gl_law_spoiled__law_spoiled_head)))) pss_nil)
      (pss_cons (ps_if (pt_cmpR op_ltA (pv 2 (hv := v_law_spoiled__law_way_here)) pe_int (nomark _)) (pss_one (ps_ret (pe_cal c_law_spoiled_words hr (pa_cons (pe_ix (ix_K K) (pv 0 (hv := v_law_spoiled__law_rule_here)) pe_int (fun _ _ => rfl)) (pa_cons (pe_bty (call_listA K) z_list bt_list (pa_cons (pe_ix (ix_K K) (pv 0 (hv := v_law_spoiled__law_rule_here)) pe_int (fun _ _ => rfl)) pa_nil) (hg := gl_law_spoiled_list)) (pa_cons (pe_comp (CompSc.to (fsc := (defScope s_law_spoiled)) (N := ["_law_rule_here", "_law_cell", "_law_way_here"]) (N0 := ["_law_rule_here", "_law_cell", "_law_way_here"]) (T := ["_law_room"]) ⟨by decide +kernel, by decide +kernel, by decide +kernel, by decide +kernel, by decide +kernel, by decide +kernel, by decide +kernel⟩ rfl rfl) rfl (pi_listK K (pe_ix (ix_K K) (pv 0 (hv := v_law_spoiled__law_rule_here)) pe_int (fun _ _ => rfl))) (fun _ _ _ _ => (pg_let 3 (show (["_law_rule_here", "_law_cell", "_law_way_here", "_law_room"] : List Str).Nodup from by decide +kernel) (hx := (locC (defScope s_law_spoiled) (by decide +kernel))) (hf := fnC (defScope s_law_spoiled) (by decide +kernel)))) (gfr_name (show (["_law_rule_here", "_law_cell", "_law_way_here"] : List Str).length ≤ 3 from by decide)) (fun _ _ _ _ => pifs_nil) (fun _ _ _ _ => (pe_bty (call_listA K) z_list bt_list (pa_cons (pv 3 (hv := (visC (defScope s_law_spoiled) (by decide +kernel)))) pa_nil) (hg := (glC (defScope s_law_spoiled) (by decide +kernel)))))) (pa_cons (pv 2 (hv := v_law_spoiled__law_way_here)) (pa_cons (pe_op op_fdiv (pv 1 (hv := v_law_spoiled__law_cell)) pe_int) pa_nil))))) (hg := gl_law_spoiled__law_spoiled_words)))) pss_nil)
      (pss_one (ps_ret (pe_tup (pa_cons (pe_ix (ix_K K) (pv 0 (hv := v_law_spoiled__law_rule_here)) pe_int (fun _ _ => rfl)) (pa_cons (pe_bty (call_listA K) z_list bt_list (pa_cons (pe_ix (ix_K K) (pv 0 (hv := v_law_spoiled__law_rule_here)) pe_int (fun _ _ => rfl)) pa_nil) (hg := gl_law_spoiled_list)) (pa_cons (pe_cal c_law_spoiled_room hr (pa_cons (pe_ix (ix_K K) (pv 0 (hv := v_law_spoiled__law_rule_here)) pe_int (fun _ _ => rfl)) (pa_cons (pv 2 (hv := v_law_spoiled__law_way_here)) (pa_cons (pe_op op_fdiv (pv 1 (hv := v_law_spoiled__law_cell)) pe_int) pa_nil))) (hg := gl_law_spoiled__law_spoiled_room)) pa_nil))))))))), ?_⟩
  walk_at "rd1"
  refine ⟨by decide, ?_⟩
  have k0 : 0 ≤ cc % 30 := by omega
  have k1 : cc % 30 < 30 := by omega
  generalize cc % 30 = k at k0 k1 ⊢
  walk_at "nx"
  refine ite2 (fun c => ?_) (fun c => ?_)
  · refine ⟨_, _, .inr (SqT.of h1), at0, ?_⟩
    refine ⟨_, _, .inr (SqT.of h1), atI_nat (j := 1) rfl, ?_⟩
    walk_at "rd1"
    refine ⟨_, .inl (SqL.of h2), fun wl hwl => ?_⟩
    generalize hH1 : upd H wl _ = H1
    have sm1 := al_same hH1 hwl
    have e1 := al_at hH1
    refine ⟨_, _, .inr (SqT.of (sm1 _ _ h1)), atI_nat (j := 2) rfl, ?_⟩
    have h31 := h3.mono sm1
    walk_at "rd1"
    refine ⟨⟨_, SqL.of h31.1⟩, fun L hL => ?_⟩
    refine copy_rooms h31 ok.n1 hL (fun a xs H' C z1 z2 => ?_) (fun H2 bs sm2 hB hbn hnd => ?_)
    · walk_at "rd1"
      exact ⟨_, .inl (SqL.of z1), z2⟩
    walk_at "rd1"
    exact ⟨r, wl, L, bs, k, rfl, sm2 _ _ e1, hB, ok, k0, c, fun x H' s' hx => q x H' ((sm1.trans sm2).trans s') hx⟩
  walk_at "nx"
  refine ite2 (fun c' => ?_) (fun c' => ?_)
  · refine ⟨_, _, .inr (SqT.of h1), at0, ?_⟩
    refine ⟨_, _, .inr (SqT.of h1), atI_nat (j := 1) rfl, ?_⟩
    walk_at "rd1"
    refine ⟨_, .inl (SqL.of h2), fun wl hwl => ?_⟩
    generalize hH1 : upd H wl _ = H1
    have sm1 := al_same hH1 hwl
    have e1 := al_at hH1
    refine ⟨_, _, .inr (SqT.of (sm1 _ _ h1)), atI_nat (j := 2) rfl, ?_⟩
    have h31 := h3.mono sm1
    walk_at "rd1"
    refine ⟨⟨_, SqL.of h31.1⟩, fun L hL => ?_⟩
    refine copy_rooms h31 ok.n1 hL (fun a xs H' C z1 z2 => ?_) (fun H2 bs sm2 hB hbn hnd => ?_)
    · walk_at "rd1"
      exact ⟨_, .inl (SqL.of z1), z2⟩
    walk_at "rd1"
    exact ⟨⟨by decide, by decide⟩, r, wl, L, bs, k, _, rfl, sm2 _ _ e1, hB, ok, by omega, c', fun x H' s' hx => q x H' ((sm1.trans sm2).trans s') hx⟩
  walk_at "nx"
  refine ⟨_, _, .inr (SqT.of h1), at0, ?_⟩
  refine ⟨_, _, .inr (SqT.of h1), atI_nat (j := 1) rfl, ?_⟩
  walk_at "rd1"
  refine ⟨_, .inl (SqL.of h2), fun wl hwl => ?_⟩
  generalize hH1 : upd H wl _ = H1
  have sm1 := al_same hH1 hwl
  have e1 := al_at hH1
  refine ⟨_, _, .inr (SqT.of (sm1 _ _ h1)), atI_nat (j := 2) rfl, ?_⟩
  have h31 := h3.mono sm1
  walk_at "rd1"
  refine ⟨⟨by decide, by decide⟩, r, pr, as, k, _, rfl, h31, ok, by omega, k1, fun x H2 s2 hd hb => ?_⟩
  walk_at "rd1"
  refine ⟨by decide, fun t ht => ?_⟩
  have s3 := same_new ht (.tup [.int r.s, .ref wl, .ref x])
  have e2 := s3 _ _ (s2 _ _ e1)
  refine q _ _ ((sm1.trans s2).trans s3) (spoil_tup upd_same (by simp) (all3 dt_int (dt_words e2 (by omega) fun y hy => by have := ok.lw y hy; omega) (hd.mono s3)) ?_)
  show (_ && (_ && roomsA _ _ (.ref x))) = false
  have hd1 : DT 1 H2 (.ref x) := ⟨hd.1, fun a xs e he y hy => (hd.2 a xs e he y hy).th⟩
  rw [lstA_of e2]
  show (_ && (_ && roomsA _ ((r.ws.map V.str).length : Int) (.ref x))) = false
  rw [List.length_map, roomsA_mono s3 hd1, hb, Bool.and_false, Bool.and_false]
end
section
variable {P : Program} {w : World} {K : PySem.W.Frag} {mg : Str → Option Value} {base : Heap} {C_NoRule C_NoText C_NoFit C_TooGreat C_Breach C_UseError : Addr}
def spCopied (C : Addr) : Sp := fun vs H Q E => ∃ x, vs = [x] ∧ DT 3 H x ∧ ((∃ p r, x = .ref p ∧ RuleAt H p r ∧ RlOk r ∧ ruleA H x = true ∧ ∀ t H', Same H H' → FreshC H H' t r → Q (.ref t) H') ∨ (ruleA H x = false ∧ ∀ H', Same H H' → E (.ref C) none H'))
theorem ok_copied (D : DefAt K mg "copied_rule" s_copied_rule) (x_NoRule : ExcAt K mg "NoRule" C_NoRule) (c_is_rule : Cal P w K mg base 5 "is_rule" ["thing"] spIsRuleA) (c_copy_of : Cal P w K mg base 1 "copy_of" ["rule"] spCopy) : CalX P w K mg base 6 "copied_rule" ["thing"] (spCopied C_NoRule) := by
  refine D.calX (k := 5) sc_copied_rule (fun _ _ _ _ _ _ us hl => match us, hl with | [_], _ => rfl) (fun vs H Q E h => by obtain ⟨x, rfl, _⟩ := h; rfl) (fun f cdv A outer sh H vs Q E hr h => ?_)
  obtain ⟨x, rfl, hx, h⟩ := h
  refine ⟨_, (pss_cons (ps_if (pt_not (pt_val (pe_cal c_is_rule hr (pa_cons (pv 0 (hv := v_copied_rule_thing)) pa_nil) (hg := gl_copied_rule_is_rule)))) (pss_one (ps_raiseA lv_of x_NoRule (pa_cons pe_str pa_nil) (hg := gl_copied_rule_NoRule))) pss_nil)
      (pss_one (ps_ret (pe_cal c_copy_of hr (pa_cons (pv 0 (hv := v_copied_rule_thing)) pa_nil) (hg := gl_copied_rule_copy_of))))), ?_⟩
  walk_at "rd1"
  refine ⟨x, rfl, hx, fun H1 s1 => ⟨_, rfl, ?_⟩⟩
  rcases h with ⟨p, r, rfl, hR, ok, e, q⟩ | ⟨e, q⟩
  · rw [e]
    refine iteF ?_
    walk_at "nx"
    exact ⟨p, r, rfl, hR.mono s1, ok, fun t H2 s2 hF => q t H2 (s1.trans s2) (by
      obtain ⟨pw, pr, as, f1, f2, f3, f4, f5, f6, f7, f8⟩ := hF
      exact ⟨pw, pr, as, f1, f2, f3, same_none s1 f4, same_none s1 f5, same_none s1 f6, fun a ha => same_none s1 (f7 a ha), f8⟩)⟩
  · rw [e]
    refine iteT ?_
    rw [tRaise_at]
    walk_at "rd1"
    exact ⟨by decide, q _ s1⟩
def spOther (C : Addr) : Sp := fun vs H Q _ => ∃ a, vs = [.ref a] ∧ H a = some (exO a (.ref C)) ∧ Q (.bl false) H
theorem ok_other (D : DefAt K mg "_law_other" s_law_other) (z_isinstance : mg "isinstance" = none) (z_ValueError : mg "ValueError" = none) (x_NoRule : ExcAt K mg "NoRule" C_NoRule) (x_NoText : ExcAt K mg "NoText" C_NoText) (x_NoFit : ExcAt K mg "NoFit" C_NoFit) (x_TooGreat : ExcAt K mg "TooGreat" C_TooGreat) (x_Breach : ClsAt mg "Breach" C_Breach) (k1 : PySem.W.kitOne K (.ref C_NoRule) (.ref C_NoText) = some false) (k2 : PySem.W.kitOne K (.ref C_NoRule) (.ref C_NoFit) = some false) (k3 : PySem.W.kitOne K (.ref C_NoRule) (.ref C_TooGreat) = some false) (k4 : PySem.W.kitOne K (.ref C_NoRule) (.ref C_Breach) = some false) (k5 : PySem.W.kitOne K (.ref C_NoRule) (.ref C_UseError) = some true) (k6 : PySem.W.kitOne K (.ref C_NoRule) (.type "ValueError") = some true) (x_UseError : ExcAt K mg "UseError" C_UseError) :
    CalH P w K mg base 1 "_law_other" ["_law_e"] (spOther C_NoRule) := by
  refine D.calH (k := 0) sc_law_other (fun _ _ _ _ _ _ us hl => match us, hl with | [_], _ => rfl) (fun vs H Q E h => by obtain ⟨x, rfl, _⟩ := h; rfl) (fun f cdv A outer sh H vs Q hr h => ?_)
  obtain ⟨a, rfl, ha, q⟩ := h
  refine ⟨_, (pss_cons (ps_if (PW.pt' (pw_or (pt_val (pe_blt (call_isX K) z_isinstance bt_isinstance (pa_cons (pv 0 (hv := v_law_other__law_e)) (pa_cons (pe_gcls x_NoText.m (hg := gl_law_other_NoText)) pa_nil)) (hg := gl_law_other_isinstance))) (pw_or (pt_val (pe_blt (call_isX K) z_isinstance bt_isinstance (pa_cons (pv 0 (hv := v_law_other__law_e)) (pa_cons (pe_gcls x_NoFit.m (hg := gl_law_other_NoFit)) pa_nil)) (hg := gl_law_other_isinstance))) (pw_or (pt_val (pe_blt (call_isX K) z_isinstance bt_isinstance (pa_cons (pv 0 (hv := v_law_other__law_e)) (pa_cons (pe_gcls x_TooGreat.m (hg := gl_law_other_TooGreat)) pa_nil)) (hg := gl_law_other_isinstance))) (pw_or1 (pt_val (pe_blt (call_isX K) z_isinstance bt_isinstance (pa_cons (pv 0 (hv := v_law_other__law_e)) (pa_cons (pe_gcls x_Breach.m (hg := gl_law_other_Breach)) pa_nil)) (hg := gl_law_other_isinstance)))))))) (pss_one (ps_ret pe_bl)) pss_nil)
      (pss_one (ps_ret (pe_or (pe_not (pe_blt (call_isX K) z_isinstance bt_isinstance (pa_cons (pv 0 (hv := v_law_other__law_e)) (pa_cons (pe_gcls x_UseError.m (hg := gl_law_other_UseError)) pa_nil)) (hg := gl_law_other_isinstance))) (pe_one (pe_not (pe_blt (call_isX K) z_isinstance bt_isinstance (pa_cons (pv 0 (hv := v_law_other__law_e)) (pa_cons (pe_gty z_ValueError bt_ValueError (hg := gl_law_other_ValueError)) pa_nil)) (hg := gl_law_other_isinstance)))))))), ?_⟩
  walk_at "rd1"
  refine isX_of ha x_NoRule.c k1 ⟨_, rfl, iteF (isX_of ha x_NoRule.c k2 ⟨_, rfl, iteF (isX_of ha x_NoRule.c k3 ⟨_, rfl, iteF (isX_of ha x_NoRule.c k4 ⟨_, rfl, iteF ?_⟩)⟩)⟩)⟩
  walk_at "nx"
  exact isX_of ha x_NoRule.c k5 ⟨_, rfl, iteF (isX_of ha x_NoRule.c k6 ⟨_, rfl, q⟩)⟩
theorem ok_refused (D : DefAt K mg "_law_refused" s_law_refused) (x_NoRule : ExcAt K mg "NoRule" C_NoRule) (h_law_other : CalH P w K mg base 1 "_law_other" ["_law_e"] (spOther C_NoRule)) (x_copied_rule : CalX P w K mg base 6 "copied_rule" ["thing"] (spCopied C_NoRule)) :
    Cal P w K mg base 7 "_law_refused" ["_law_thing"] (fun vs H Q _ => ∃ x, vs = [x] ∧ Spoiled H x ∧ ∀ H', Same H H' → Q (.bl true) H') := by
  refine D.cal (k := 6) sc_law_refused (fun _ _ _ _ _ _ us hl => match us, hl with | [_], _ => rfl) (fun vs H Q E h => by obtain ⟨x, rfl, _⟩ := h; rfl) (fun f cdv A outer s H vs Q E hr h => ?_)
  obtain ⟨x, rfl, hx, q⟩ := h
  refine ⟨_, (pss_cons (ps_tryA 1 x_NoRule sc_law_refused.nd (fun Ee => (ats_one (at_expr (at_call x_copied_rule hr (pa_cons (pv 0 (hv := v_law_refused__law_thing)) pa_nil) (hg := gl_law_refused_copied_rule))))) (fun a => (pss_one (ps_ret (pe_not (pe_calH h_law_other (hr.h.held _) (pa_cons (pv 1 (hv := v_law_refused__law_e)) pa_nil) (hg := gl_law_refused__law_other)))))) k_law_refused__law_e (hg := gl_law_refused_NoRule))
      (pss_one (ps_ret pe_bl))), ?_⟩
  walk_at "rd1"
  rw [tTry_at]
  walk_at "rd1"
  refine ⟨x, rfl, hx.1, .inr ⟨hx.2, fun H1 s1 => ⟨rfl, fun a ha => ?_⟩⟩⟩
  walk_at "rd1"
  refine ⟨a, rfl, upd_same, false, rfl, q _ fun b o z => ?_⟩
  have z' := s1 _ _ z
  rw [upd_ne (ne_of_none z' ha)]
  exact z'
end
theorem room_ways {H : Hp} {m n : Nat} {a : Addr} {x : List (Option Nat)} (h : H a = some (.lst (x.map wayV))) (hl : x.length = m) (hk : ∀ k, some k ∈ x → k < n) : roomA H m n (.ref a) = true := by
  unfold roomA
  rw [lstA_of h]
  show (decide _ && _) = true
  rw [List.length_map, decide_eq_true (by omega), Bool.true_and, List.all_eq_true]
  intro y hy
  obtain ⟨o, ho, rfl⟩ := List.mem_map.mp hy
  cases o with
  | none => rfl
  | some k =>
    have := hk k ho
    show (decide ((0 : Int) ≤ (k : Int)) && decide ((k : Int) < (n : Int))) = true
    rw [decide_eq_true (by omega), decide_eq_true (by omega)]; rfl
theorem good_rule {H : Hp} {p : Addr} {r : Rl} (h : RuleAt H p r) (ok : RlOk r) (wo : WordsOk r) : DT 3 H (.ref p) ∧ ruleA H (.ref p) = true := by
  obtain ⟨pw, pr, as, h1, h2, h3⟩ := h
  have nw := ok.nw
  have n0 := ok.n0
  have n1 := ok.n1
  have hal := h3.2.1
  refine ⟨dt_seq (.inr h1) (by simp) (all3 dt_int (dt_words h2 (by omega) fun y hy => by have := ok.lw y hy; omega) (dt_rooms h3 (by omega) (fun x hx => by rw [(ok.row x hx).1]; omega)).2), ?_⟩
  rw [ruleA_tup h1]
  show (decide (r.s = 1 ∨ r.s = 2) && (wordsA H r.s (.ref pw) && roomsA H ((lstA H (.ref pw)).getD []).length (.ref pr))) = true
  have e1 : wordsA H r.s (.ref pw) = true := by
    unfold wordsA
    rw [lstA_of h2]
    show (decide _ && (_ && risingB ((r.ws.map V.str).map strA))) = true
    have e : (r.ws.map V.str).map strA = r.ws := by
      rw [List.map_map]
      conv => rhs; rw [← List.map_id r.ws]
      exact List.map_congr_left fun x _ => rfl
    rw [e, wo.2, List.length_map, decide_eq_true nw, Bool.true_and, Bool.and_true, List.all_map]
    exact wo.1
  rw [decide_eq_true ok.s, e1, lstA_of h2, Bool.true_and, Bool.true_and]
  show roomsA H ((r.ws.map V.str).length : Int) (.ref pr) = true
  unfold roomsA
  rw [lstA_of h3.1]
  show (decide _ && _) = true
  rw [List.length_map, List.length_map, hal, decide_eq_true ⟨n0, n1⟩, Bool.true_and, List.all_eq_true]
  intro y hy
  obtain ⟨b, hb, rfl⟩ := List.mem_map.mp hy
  obtain ⟨i, hi, rfl⟩ := List.mem_iff_getElem.mp hb
  have hi' : i < r.rs.length := by omega
  obtain ⟨g1, g2⟩ := ok.row _ (List.getElem_mem hi')
  exact room_ways (h3.2.2 i _ _ (List.getElem?_eq_getElem hi) (List.getElem?_eq_getElem hi')) g1 g2
theorem ruleA_mono {H H' : Hp} (sm : Same H H') {x : V} (h : DT 3 H x) : ruleA H' x = ruleA H x := by
  rcases th_tup h.1 with ⟨a, xs, rfl, e, _⟩ | ⟨T, _, _, hn⟩
  · rw [ruleA_tup e, ruleA_tup (sm _ _ e)]
    have hel := h.2 a xs rfl (.inr e)
    unfold ruleT3
    split
    · rename_i s ws rs
      have tw := hel ws (by simp)
      have tr := hel rs (by simp)
      have tr1 : DT 1 H rs := ⟨tr.1, fun a xs e he y hy => (tr.2 a xs e he y hy).th⟩
      unfold wordsA
      rw [lstA_mono sm tw.1, roomsA_mono sm tr1]
    · rfl
  · have h1 : ∀ (G : Hp), (∀ a xs, x = .ref a → G a ≠ some (.tup xs)) → ruleA G x = false := fun G hg => by
      cases x with
      | ref a =>
        show (match G a with | some (.tup xs) => ruleT3 G xs | _ => false) = false
        split
        · rename_i xs e; exact absurd e (hg a xs rfl)
        · rfl
      | _ => rfl
    rw [h1 H hn, h1 H' fun a xs e z => ?_]
    subst e
    rcases Thing.seq sm h.1 (.inr z) with e | e
    · rw [sm _ _ e] at z; cases z
    · exact hn a xs rfl e
theorem Spoiled.mono {H H' : Hp} (sm : Same H H') {x : V} (h : Spoiled H x) : Spoiled H' x := ⟨h.1.mono sm, by rw [ruleA_mono sm h.1]; exact h.2⟩
theorem FreshC.upd {H H' : Hp} {p c : Addr} {r : Rl} {o : HO} (h : FreshC H H' p r) (hc : H c ≠ none) : FreshC H (L2.upd H' c o) p r := by
  obtain ⟨pw, pr, as, h1, h2, ⟨h3, h4, h5⟩, z1, z2, z3, z4, z5⟩ := h
  have ne : ∀ b, H b = none → b ≠ c := fun b hb e => hc (e ▸ hb)
  exact ⟨pw, pr, as, by rw [upd_ne (ne _ z1)]; exact h1, by rw [upd_ne (ne _ z2)]; exact h2, ⟨by rw [upd_ne (ne _ z3)]; exact h3, h4, fun i b x e1 e2 => by rw [upd_ne (ne _ (z4 b (List.mem_of_getElem? e1)))]; exact h5 i b x e1 e2⟩, z1, z2, z3, z4, z5⟩
section
variable {P : Program} {w : World} {K : PySem.W.Frag} {mg : Str → Option Value} {base : Heap}
theorem ok_law {f : Addr} {fd : FuncData} (F : Fun K "law" "law" s_law f fd) (z_len : mg "len" = none) (c_law_cell_at : Cal P w K mg base 1 "_law_cell_at" ["_law_script", "_law_k"] (spCell K)) (c_law_rule : Cal P w K mg base 4 "_law_rule" ["_law_script"] (spRule02 K)) (c_law_spoiled : Cal P w K mg base 2 "_law_spoiled" ["_law_rule_here", "_law_cell"] spSpoiled)
    (c_law_copy : Cal P w K mg base 1 "_law_copy" ["_law_rule_here"] spCopy) (c_is_rule : Cal P w K mg base 5 "is_rule" ["thing"] spIsRuleA) (c_law_refused : Cal P w K mg base 7 "_law_refused" ["_law_thing"] (fun vs H Q _ => ∃ x, vs = [x] ∧ Spoiled H x ∧ ∀ H', Same H H' → Q (.bl true) H'))
    (c_copied_rule : Cal P w K mg base 6 "copied_rule" ["thing"] (fun vs H Q _ => ∃ p r, vs = [.ref p] ∧ RuleAt H p r ∧ RlOk r ∧ WordsOk r ∧ ∀ t H', Same H H' → FreshC H H' t r → Q (.ref t) H')) (c_law_alike : Cal P w K mg base 1 "_law_alike" ["_law_found", "_law_rule_here"] spAlike) : FnOk P w K mg base CX0 8 f fd ["_law_script"] (spLaw K) := by
  refine F.ok sc_law (fun vs H Q E h => by obtain ⟨a, ns, rfl, _⟩ := h; rfl) (fun cdv A outer s H vs Q E hr h => ?_)
  obtain ⟨a, ns, rfl, hS, h63, q⟩ := h
  refine ⟨_, (pss_cons (ps_let 1 sc_law.nd (pe_cal c_law_rule hr (pa_cons (pv 0 (hv := v_law__law_script)) pa_nil) (hg := gl_law__law_rule)) (hx := l_law__law_rule_here))
      (pss_cons (ps_let 2 sc_law.nd (pe_cal c_law_spoiled hr (pa_cons (pv 1 (hv := v_law__law_rule_here)) (pa_cons (pe_cal c_law_cell_at hr (pa_cons (pv 0 (hv := v_law__law_script)) (pa_cons pe_int pa_nil)) (hg := gl_law__law_cell_at)) pa_nil)) (hg := gl_law__law_spoiled)) (hx := l_law__law_spoiled_here))
      (pss_cons (ps_let 3 sc_law.nd (pe_cal c_law_copy hr (pa_cons (pv 1 (hv := v_law__law_rule_here)) pa_nil) (hg := gl_law__law_copy)) (hx := l_law__law_handed))
      (pss_cons (ps_if (PW.pt' (pw_or (pt_cmpR op_notB (pe_cal c_is_rule hr (pa_cons (pv 3 (hv := v_law__law_handed)) pa_nil) (hg := gl_law_is_rule)) pe_bl (nomark _)) (pw_or1 (pt_cmpR op_notB (pe_cal c_is_rule hr (pa_cons (pv 2 (hv := v_law__law_spoiled_here)) pa_nil) (hg := gl_law_is_rule)) pe_bl (nomark _))))) (pss_one (ps_ret pe_bl)) pss_nil)
      (pss_cons (ps_if (pt_not (pt_val (pe_cal c_law_refused hr (pa_cons (pv 2 (hv := v_law__law_spoiled_here)) pa_nil) (hg := gl_law__law_refused)))) (pss_one (ps_ret pe_bl)) pss_nil)
      (pss_cons (ps_let 4 sc_law.nd (pe_cal c_copied_rule hr (pa_cons (pv 3 (hv := v_law__law_handed)) pa_nil) (hg := gl_law_copied_rule)) (hx := l_law__law_found))
      (pss_cons (ps_if (PW.pt' (pw_or (pt_not (pt_val (pe_cal c_law_alike hr (pa_cons (pv 4 (hv := v_law__law_found)) (pa_cons (pv 1 (hv := v_law__law_rule_here)) pa_nil)) (hg := gl_law__law_alike)))) (pw_or1 (pt_cmpR (op_neKD K hr) (pv 3 (hv := v_law__law_handed)) (pv 1 (hv := v_law__law_rule_here)) (nomark _))))) (pss_one (ps_ret pe_bl)) pss_nil)
      (pss_cons (ps_expr (pe_bmK K PySem.F.plainAttrs_list PySem.F.slot_list_append PySem.F.type_list_append mt_appendA (pe_ix (ix_K K) (pv 4 (hv := v_law__law_found)) pe_int (fun _ _ => rfl)) (pa_cons pe_str pa_nil)))
      (pss_cons (ps_expr (pe_bmK K PySem.F.plainAttrs_list PySem.F.slot_list_append PySem.F.type_list_append mt_appendA (pe_ix (ix_K K) (pe_ix (ix_K K) (pv 4 (hv := v_law__law_found)) pe_int (fun _ _ => rfl)) pe_int (fun _ _ => rfl)) (pa_cons pe_int pa_nil)))
      (pss_cons (ps_if (pt_cmpR (op_neKD K hr) (pe_comp (CompSc.to (fsc := (defScope s_law)) (N := ["_law_script", "_law_rule_here", "_law_spoiled_here", "_law_handed", "_law_found", "_law_again"]) (N0 := ["_law_script", "_law_rule_here", "_law_spoiled_here", "_law_handed", "_law_found", "_law_again"]) (T := ["_law_room"]) ⟨by decide +kernel, by decide +kernel, by decide +kernel, by decide +kernel, by decide +kernel, by decide +kernel, by decide +kernel⟩ rfl rfl) rfl (pi_listK K (pe_slice (sl_listK K) (pe_ix (ix_K K) (pv 4 (hv := v_law__law_found)) pe_int (fun _ _ => rfl)) (po_some pe_int) po_none)) (fun _ _ _ _ => (pg_let 6 (show (["_law_script", "_law_rule_here", "_law_spoiled_here", "_law_handed", "_law_found", "_law_again", "_law_room"] : List Str).Nodup from by decide +kernel) (hx := (locC (defScope s_law) (by decide +kernel))) (hf := fnC (defScope s_law) (by decide +kernel)))) (gfr_name (show (["_law_script", "_law_rule_here", "_law_spoiled_here", "_law_handed", "_law_found", "_law_again"] : List Str).length ≤ 6 from by decide)) (fun _ _ _ _ => (pifs_one (pt_cmpR op_neA (pe_blt (call_lenK K) z_len bt_len (pa_cons (pv 6 (hv := (visC (defScope s_law) (by decide +kernel)))) pa_nil) (hg := (glC (defScope s_law) (by decide +kernel)))) (pe_blt (call_lenK K) z_len bt_len (pa_cons (pe_ix (ix_K K) (pv 1 (hv := (visC (defScope s_law) (by decide +kernel)))) pe_int (fun _ _ => rfl)) pa_nil) (hg := (glC (defScope s_law) (by decide +kernel)))) (nomark _)))) (fun _ _ _ _ => (pv 6 (hv := (visC (defScope s_law) (by decide +kernel)))))) (pe_lst pa_nil) (nomark _)) (pss_one (ps_ret pe_bl)) pss_nil)
      (pss_cons (ps_expr (pe_bmK K PySem.F.plainAttrs_list PySem.F.slot_list_append PySem.F.type_list_append mt_appendA (pe_ix (ix_K K) (pv 4 (hv := v_law__law_found)) pe_int (fun _ _ => rfl)) (pa_cons (pe_lst pa_nil) pa_nil)))
      (pss_cons (ps_if (PW.pt' (pw_or (pt_cmpR (op_neKD K hr) (pv 3 (hv := v_law__law_handed)) (pv 1 (hv := v_law__law_rule_here)) (nomark _)) (pw_or1 (pt_cmpR op_notB (pe_cal c_is_rule hr (pa_cons (pv 4 (hv := v_law__law_found)) pa_nil) (hg := gl_law_is_rule)) pe_bl (nomark _))))) (pss_one (ps_ret pe_bl)) pss_nil)
      (pss_cons (ps_let 5 sc_law.nd (pe_cal c_copied_rule hr (pa_cons (pv 3 (hv := v_law__law_handed)) pa_nil) (hg := gl_law_copied_rule)) (hx := l_law__law_again))
      (pss_cons (ps_expr (pe_bmK K PySem.F.plainAttrs_list PySem.F.slot_list_append PySem.F.type_list_append mt_appendA (pe_ix (ix_K K) (pv 3 (hv := v_law__law_handed)) pe_int (fun _ _ => rfl)) (pa_cons pe_str pa_nil)))
      (pss_cons (ps_expr (pe_bmK K PySem.F.plainAttrs_list PySem.F.slot_list_append PySem.F.type_list_append mt_appendA (pe_ix (ix_K K) (pe_ix (ix_K K) (pv 3 (hv := v_law__law_handed)) pe_int (fun _ _ => rfl)) pe_int (fun _ _ => rfl)) (pa_cons pe_int pa_nil)))
      (pss_one (ps_ret (pe_and (pe_cal c_law_alike hr (pa_cons (pv 5 (hv := v_law__law_again)) (pa_cons (pv 1 (hv := v_law__law_rule_here)) pa_nil)) (hg := gl_law__law_alike)) (pe_and (pe_cmpR op_notB (pe_cal c_is_rule hr (pa_cons (pv 3 (hv := v_law__law_handed)) pa_nil) (hg := gl_law_is_rule)) pe_bl (nomark _)) (pe_one (pe_cmpR op_isB (pe_cal c_is_rule hr (pa_cons (pv 5 (hv := v_law__law_again)) pa_nil) (hg := gl_law_is_rule)) pe_bl (nomark _)))))))))))))))))))))), ?_⟩
  walk_at "rd1"
  refine ⟨a, ns, rfl, hS, h63, fun p H1 r sm1 hR ok wo => ?_⟩
  have nw := ok.nw
  have n0 := ok.n0
  have n1 := ok.n1
  walk_at "nx"
  refine ⟨a, ns, 3, rfl, sm1.seq hS, by decide, ?_⟩
  refine ⟨p, r, _, rfl, hR, ok, fun x H2 sm2 hx => ?_⟩
  walk_at "nx"
  refine ⟨p, r, rfl, hR.mono sm2, ok, fun hp H3 sm3 hF => ?_⟩
  have hD := good_rule hF.at ok wo
  walk_at "nx"
  refine ⟨_, rfl, hD.1, fun H4 sm4 => ?_⟩
  rw [hD.2]
  walk_at "rd1"
  rw [rNotB_at]
  refine ⟨_, rfl, ite2 (fun c => absurd c (by decide)) (fun _ => ?_)⟩
  have hx4 := hx.mono (sm3.trans sm4)
  refine ⟨x, rfl, hx4.1, fun H5 sm5 => ?_⟩
  rw [hx4.2]
  dsimp only
  rw [rNotB_at]
  refine ⟨_, rfl, ite2 (fun c => absurd c (by decide)) (fun _ => ?_)⟩
  walk_at "nx"
  refine ⟨x, rfl, hx4.mono sm5, fun H6 sm6 => ?_⟩
  have sm36 := (sm4.trans sm5).trans sm6
  have hF6 := hF.mono sm36
  have hR6 := hR.mono (sm2.trans (sm3.trans sm36))
  walk_at "nx"
  refine ⟨hp, r, rfl, hF6.at, ok, wo, fun t H7 sm7 hG => ?_⟩
  walk_at "nx"
  refine ⟨t, p, r, rfl, hG.at, hR6.mono sm7, ok, fun H8 sm8 => ?_⟩
  refine ⟨_, rfl, ite2 (fun c => absurd c (by decide)) (fun _ => ?_)⟩
  have sm68 := sm7.trans sm8
  refine ⟨2, true, by decide, rule_eq (hF6.at.mono sm68) (hR6.mono sm68), ?_⟩
  refine ite2 (fun c => absurd c (by decide)) (fun _ => ?_)
  obtain ⟨pw, pr, as, g1, g2, ⟨g3, hal, g4⟩, z1, z2, z3, z4, z5, z6, z7, z8⟩ := hG.mono sm8
  obtain ⟨b0, hb0⟩ : ∃ b0, as[0]? = some b0 := ⟨as[0], List.getElem?_eq_getElem (by omega)⟩
  have hb0m := List.mem_of_getElem? hb0
  obtain ⟨x0, hx0⟩ : ∃ x0, r.rs[0]? = some x0 := ⟨r.rs[0], List.getElem?_eq_getElem (by omega)⟩
  have nA : ∀ {b : Addr}, b ∈ as → b ≠ pw := fun hb z => z6 (z ▸ hb)
  have nP : ∀ {b : Addr}, b ∈ as → b ≠ pr := fun hb z => z7 (z ▸ hb)
  have hx0l := (ok.row _ (List.mem_of_getElem? hx0)).1
  have nt : ∀ {c : Addr} {ys : List V}, H8 c = some (.lst ys) → t ≠ c := fun {c ys} e z => by subst z; rw [g1] at e; cases e
  walk_at "nx"
  refine ⟨_, _, .inr (SqT.of g1), atI_nat (j := 1) rfl, ?_⟩
  walk_at "rd1"
  refine ⟨⟨_, SqL.of g2⟩, _, g2, by rw [List.length_map]; exact small' (by omega), ?_⟩
  generalize hH9 : upd H8 pw _ = H9
  have sm9 : Same H6 H9 := by rw [← hH9]; exact sm68.upd z2 _
  have f1 : H9 t = some (.tup [.int r.s, .ref pw, .ref pr]) := by rw [← hH9, upd_ne (nt g2)]; exact g1
  have f2 : H9 pw = some (.lst (r.ws.map V.str ++ [.str "a"])) := by rw [← hH9]; exact upd_same
  have f3 : H9 pr = some (.lst (as.map V.ref)) := by rw [← hH9, upd_ne (Ne.symm z8)]; exact g3
  have f4 : ∀ (i : Nat) b y, as[i]? = some b → r.rs[i]? = some y → H9 b = some (.lst (y.map wayV)) := fun i b y e1 e2 => by
    rw [← hH9, upd_ne (nA (List.mem_of_getElem? e1))]; exact g4 i b y e1 e2
  walk_at "nx"
  refine ⟨_, _, .inr (SqT.of f1), atI_nat (j := 2) rfl, ?_⟩
  walk_at "rd1"
  refine ⟨_, _, .inl (SqL.of f3), atI_nat (j := 0) (v := .ref b0) (by rw [List.getElem?_map, hb0]; rfl), ?_⟩
  walk_at "rd1"
  have fb0 := f4 0 b0 x0 hb0 hx0
  refine ⟨⟨_, SqL.of fb0⟩, _, fb0, by rw [List.length_map]; exact small' (by omega), ?_⟩
  generalize hH10 : upd H9 b0 _ = H10
  have nb0 : H6 b0 = none := z4 _ hb0m
  have sm10 : Same H6 H10 := by rw [← hH10]; exact sm9.upd nb0 _
  have m1 : H10 t = some (.tup [.int r.s, .ref pw, .ref pr]) := by rw [← hH10, upd_ne (fun z => by subst z; rw [f1] at fb0; cases fb0)]; exact f1
  have m2 : H10 pw = some (.lst (r.ws.map V.str ++ [.str "a"])) := by rw [← hH10, upd_ne (Ne.symm (nA hb0m))]; exact f2
  have m3 : H10 pr = some (.lst (as.map V.ref)) := by rw [← hH10, upd_ne (Ne.symm (nP hb0m))]; exact f3
  have m4 : ∀ (i : Nat) b y, as[i]? = some b → r.rs[i]? = some y → i ≠ 0 → H10 b = some (.lst (y.map wayV)) := fun i b y e1 e2 hi => by
    rw [← hH10, upd_ne (fun z => hi ?_)]
    · exact f4 i b y e1 e2
    · subst z
      obtain ⟨l1, q1⟩ := List.getElem?_eq_some_iff.mp e1
      obtain ⟨l2, q2⟩ := List.getElem?_eq_some_iff.mp hb0
      exact (List.getElem_inj z5 (h₀ := l1) (h₁ := l2)).mp (q1.trans q2.symm)
  have m5 : H10 b0 = some (.lst (x0.map wayV ++ [.int 0])) := by rw [← hH10]; exact upd_same
  obtain ⟨pwR, prR, asR, w1, w2, w3⟩ := hR6
  walk_at "nx"
  refine ⟨_, _, .inr (SqT.of m1), atI_nat (j := 2) rfl, ?_⟩
  walk_at "rd1"
  refine ⟨_, SqL.of m3, fun cp hcp => ?_⟩
  rw [show (some (1 : Int)) = some ((1 : Nat) : Int) from rfl, cutV_from]
  generalize hH11 : upd H10 cp _ = H11
  have s11 := al_same hH11 hcp
  have e11 := al_at hH11
  refine ⟨⟨_, SqL.of e11⟩, fun L hL => ?_⟩
  refine compT_list (xs := (as.map V.ref).drop 1) (fun i ys H' => Same H11 H' ∧ H' L = some (.lst ys) ∧ ys = []) ⟨same_new hL _, upd_same, rfl⟩ (fun i ys H' _ h => SqL.of (h.1 _ _ e11)) ?_ ?_
  · rintro i ys H' v hv hi ⟨sm, hl, rfl⟩
    rw [List.getElem?_drop, List.getElem?_map] at hv
    cases qa : as[1 + i]? with
    | none => rw [qa] at hv; cases hv
    | some b =>
      rw [qa] at hv
      cases hv
      have hi' : 1 + i < r.rs.length := by have := (List.getElem?_eq_some_iff.mp qa).1; omega
      have hb := sm _ _ (s11 _ _ (m4 (1 + i) b _ qa (List.getElem?_eq_getElem hi') (by omega)))
      have hbl := (ok.row _ (List.getElem_mem hi')).1
      have smR := sm10.trans (s11.trans sm)
      walk_at "rd1"
      refine ⟨_, .inl (SqL.of hb), ?_⟩
      refine ⟨_, _, .inr (SqT.of (smR _ _ w1)), atI_nat (j := 1) rfl, ?_⟩
      walk_at "rd1"
      refine ⟨_, .inl (SqL.of (smR _ _ w2)), ?_⟩
      rw [List.length_map, List.length_map, hbl]
      walk_at "rd1"
      refine ite2 (fun c => absurd c (by simp)) (fun _ => ?_)
      exact cskip hi ⟨sm, hl, rfl⟩
  rintro ys H12 ⟨sm12, hl12, rfl⟩
  walk_at "rd1"
  refine ⟨by decide, fun ep hep => ?_⟩
  generalize hH13 : upd H12 ep _ = H13
  have s13 := al_same hH13 hep
  have e13 := al_at hH13
  refine ⟨0, true, by decide, EqN.seqFlat (.inl ⟨SqL.of (s13 _ _ hl12), SqL.of e13⟩) (by simp), ?_⟩
  refine ite2 (fun c => absurd c (by decide)) (fun _ => ?_)
  have s1013 := (s11.trans sm12).trans s13
  have sm613 := sm10.trans s1013
  walk_at "nx"
  refine ⟨_, _, .inr (SqT.of (s1013 _ _ m1)), atI_nat (j := 2) rfl, ?_⟩
  walk_at "rd1"
  refine ⟨⟨_, SqL.of (s1013 _ _ m3)⟩, by decide, fun el hel => ?_⟩
  generalize hH14 : upd H13 el _ = H14
  have s14 := al_same hH14 hel
  have e14 := al_at hH14
  have s1014 := s1013.trans s14
  refine ⟨_, s1014 _ _ m3, by rw [List.length_map]; exact small' (by omega), ?_⟩
  generalize hH15 : upd H14 pr _ = H15
  have sm15 : Same H6 H15 := by rw [← hH15]; exact (sm10.trans s1014).upd z3 _
  have npr : ∀ {c : Addr} {o : HO}, H14 c = some o → c ≠ pr → H15 c = some o := fun {c o} e z => by rw [← hH15, upd_ne z]; exact e
  have k1 : H15 t = some (.tup [.int r.s, .ref pw, .ref pr]) := npr (s1014 _ _ m1) (fun z => by subst z; rw [m1] at m3; cases m3)
  have k2 : H15 pw = some (.lst (r.ws.map V.str ++ [.str "a"])) := npr (s1014 _ _ m2) z8
  have k3 : H15 pr = some (.lst (as.map V.ref ++ [.ref el])) := by rw [← hH15]; exact upd_same
  have k4 : ∀ (i : Nat) b y, as[i]? = some b → r.rs[i]? = some y → i ≠ 0 → H15 b = some (.lst (y.map wayV)) := fun i b y e1 e2 hi => npr (s1014 _ _ (m4 i b y e1 e2 hi)) (nP (List.mem_of_getElem? e1))
  have k5 : H15 b0 = some (.lst (x0.map wayV ++ [.int 0])) := npr (s1014 _ _ m5) (nP hb0m)
  have k6 : H15 el = some (.lst []) := npr e14 (fun z => by subst z; rw [s1013 _ _ m3] at hel; cases hel)
  have hR6 : RuleAt H6 p r := ⟨pwR, prR, asR, w1, w2, w3⟩
  walk_at "nx"
  refine ⟨2, true, by decide, rule_eq (hF6.at.mono sm15) (hR6.mono sm15), ?_⟩
  refine ite2 (fun c => absurd c (by decide)) (fun _ => ?_)
  have hbad : Spoiled H15 (.ref t) := by
    refine spoil_tup k1 (by simp) (all3 dt_int (dt_seq (.inl k2) (by simp; omega) fun y hy => ?_) (dt_seq (.inl k3) (by simp; omega) fun y hy => ?_)) ?_
    · rcases List.mem_append.mp hy with z | z
      · obtain ⟨u, hu, rfl⟩ := List.mem_map.mp z
        exact dt_str (by have := ok.lw u hu; omega)
      · rw [List.mem_singleton.mp z]; exact dt_str (by decide)
    · rcases List.mem_append.mp hy with z | z
      · obtain ⟨b, hb, rfl⟩ := List.mem_map.mp z
        obtain ⟨i, hi, eb⟩ := List.mem_iff_getElem.mp hb
        have hi' : i < r.rs.length := by omega
        have qa : as[i]? = some b := by rw [← eb]; exact List.getElem?_eq_getElem hi
        by_cases h0 : i = 0
        · subst h0
          rw [hb0] at qa
          cases qa
          refine dt_seq (.inl k5) (by simp; omega) fun y hy => ?_
          rcases List.mem_append.mp hy with z | z
          · obtain ⟨o, _, rfl⟩ := List.mem_map.mp z
            exact dt_way
          · rw [List.mem_singleton.mp z]; exact dt_int
        · exact dt_ways (k4 i b _ qa (List.getElem?_eq_getElem hi') h0) (by rw [(ok.row _ (List.getElem_mem hi')).1]; omega)
      · rw [List.mem_singleton.mp z]; exact dt_seq (.inl k6) (by simp) (by simp)
    · show (_ && (_ && roomsA H15 ((lstA H15 (.ref pw)).getD []).length (.ref pr))) = false
      rw [lstA_of k2]
      show (_ && (_ && roomsA H15 ((r.ws.map V.str ++ [V.str "a"]).length : Int) (.ref pr))) = false
      rw [rooms_bad k3 (.ref el) (by simp) (room_len k6 (by simp; omega)), Bool.and_false, Bool.and_false]
  refine ⟨_, rfl, hbad.1, fun H16 s16 => ?_⟩
  rw [hbad.2]
  dsimp only
  rw [rNotB_at]
  refine ⟨_, rfl, ite2 (fun c => absurd c (by decide)) (fun _ => ?_)⟩
  have sm16 := sm15.trans s16
  have hF16 := hF6.mono sm16
  have hR16 := hR6.mono sm16
  walk_at "nx"
  refine ⟨hp, r, rfl, hF16.at, ok, wo, fun t2 H17 s17 hA => ?_⟩
  obtain ⟨hw, hr', hs, y1, y2, y3, v1, v2, v3, v4, v5, v6, v7, v8⟩ := hF16
  have nH : ∀ {b : Addr}, b ∈ hs → b ≠ hw := fun hb z => v6 (z ▸ hb)
  have nR : ∀ {b : Addr}, b ∈ hs → b ≠ hr' := fun hb z => v7 (z ▸ hb)
  have hal2 := y3.2.1
  obtain ⟨c0, hc0⟩ : ∃ c0, hs[0]? = some c0 := ⟨hs[0], List.getElem?_eq_getElem (by omega)⟩
  have hc0m := List.mem_of_getElem? hc0
  have hc16 := y3.2.2 0 c0 x0 hc0 hx0
  have sm216 : Same H2 H16 := sm3.trans (sm36.trans sm16)
  walk_at "nx"
  refine ⟨_, _, .inr (SqT.of (s17 _ _ y1)), atI_nat (j := 1) rfl, ?_⟩
  walk_at "rd1"
  refine ⟨⟨_, SqL.of (s17 _ _ y2)⟩, _, s17 _ _ y2, by rw [List.length_map]; exact small' (by omega), ?_⟩
  generalize hH18 : upd H17 hw _ = H18
  have smq : Same H2 H18 := by rw [← hH18]; exact (sm216.trans s17).upd v2 _
  have hA18 : FreshC H16 H18 t2 r := by rw [← hH18]; exact hA.upd (by rw [y2]; exact fun z => nomatch z)
  have nhp : ∀ {c : Addr} {ys : List V}, H16 c = some (.lst ys) → hp ≠ c := fun {c ys} e z => by subst z; rw [y1] at e; cases e
  have u1 : H18 hp = some (.tup [.int r.s, .ref hw, .ref hr']) := by rw [← hH18, upd_ne (nhp y2)]; exact s17 _ _ y1
  have u2 : H18 hw = some (.lst (r.ws.map V.str ++ [.str ""])) := by rw [← hH18]; exact upd_same
  have u3 : H18 hr' = some (.lst (hs.map V.ref)) := by rw [← hH18, upd_ne (Ne.symm v8)]; exact s17 _ _ y3.1
  have u4 : ∀ (i : Nat) b y, hs[i]? = some b → r.rs[i]? = some y → H18 b = some (.lst (y.map wayV)) := fun i b y e1 e2 => by
    rw [← hH18, upd_ne (nH (List.mem_of_getElem? e1))]; exact s17 _ _ (y3.2.2 i b y e1 e2)
  walk_at "nx"
  refine ⟨_, _, .inr (SqT.of u1), atI_nat (j := 2) rfl, ?_⟩
  walk_at "rd1"
  refine ⟨_, _, .inl (SqL.of u3), atI_nat (j := 0) (v := .ref c0) (by rw [List.getElem?_map, hc0]; rfl), ?_⟩
  walk_at "rd1"
  have uc0 := u4 0 c0 x0 hc0 hx0
  refine ⟨⟨_, SqL.of uc0⟩, _, uc0, by rw [List.length_map]; exact small' (by omega), ?_⟩
  generalize hH19 : upd H18 c0 _ = H19
  have smr : Same H2 H19 := by rw [← hH19]; exact smq.upd (v4 _ hc0m) _
  have hA19 : FreshC H16 H19 t2 r := by rw [← hH19]; exact hA18.upd (by rw [hc16]; exact fun z => nomatch z)
  have nc0 : ∀ {c : Addr} {o : HO}, H18 c = some o → c ≠ c0 → H19 c = some o := fun {c o} e z => by rw [← hH19, upd_ne z]; exact e
  have i1 : H19 hp = some (.tup [.int r.s, .ref hw, .ref hr']) := nc0 u1 (nhp hc16)
  have i2 : H19 hw = some (.lst (r.ws.map V.str ++ [.str ""])) := nc0 u2 (Ne.symm (nH hc0m))
  have i3 : H19 hr' = some (.lst (hs.map V.ref)) := nc0 u3 (Ne.symm (nR hc0m))
  have i5 : H19 c0 = some (.lst (x0.map wayV ++ [.int 0])) := by rw [← hH19]; exact upd_same
  have hR19 := (hR.mono sm2).mono smr
  have hbad2 : Spoiled H19 (.ref hp) := by
    refine spoil_tup i1 (by simp) (all3 dt_int (dt_seq (.inl i2) (by simp; omega) fun y hy => ?_) (dt_refs i3 (by omega) fun b hb => ?_)) (t3_words (words_odd i2 (.str "") (by simp) ?_))
    · rcases List.mem_append.mp hy with z | z
      · obtain ⟨u, hu, rfl⟩ := List.mem_map.mp z
        exact dt_str (by have := ok.lw u hu; omega)
      · rw [List.mem_singleton.mp z]; exact dt_str (by decide)
    · by_cases e0 : b = c0
      · rw [e0]
        refine dt_seq (.inl i5) (by simp; omega) fun y hy => ?_
        rcases List.mem_append.mp hy with z | z
        · obtain ⟨o, _, rfl⟩ := List.mem_map.mp z
          exact dt_way
        · rw [List.mem_singleton.mp z]; exact dt_int
      · obtain ⟨i, hi, eb⟩ := List.mem_iff_getElem.mp hb
        have hi' : i < r.rs.length := by omega
        have qa : hs[i]? = some b := by rw [← eb]; exact List.getElem?_eq_getElem hi
        exact dt_ways (nc0 (u4 i b _ qa (List.getElem?_eq_getElem hi')) e0) (by rw [(ok.row _ (List.getElem_mem hi')).1]; omega)
    · rcases ok.s with e | e <;> rw [e] <;> decide +kernel
  walk_at "nx"
  refine ⟨t2, p, r, rfl, hA19.at, hR19, ok, fun H20 s20 => ?_⟩
  walk_at "rd1"
  have hb20 := hbad2.mono s20
  refine ⟨_, rfl, hb20.1, fun H21 s21 => ?_⟩
  rw [hb20.2]
  dsimp only
  rw [rNotB_at]
  refine ⟨_, rfl, ite2 (fun _ => ?_) (fun c => absurd (by decide) c)⟩
  have hg := good_rule ((hA19.at.mono s20).mono s21) ok wo
  refine ⟨_, rfl, hg.1, fun H22 s22 => ?_⟩
  rw [hg.2]
  exact ⟨rfl, q _⟩
end
theorem all_mk {l : PySem.W.OpenLaw} {w : World} {K : PySem.W.Frag} {h : Heap} {mg : Str → Option Value} {fa : Addr} (X : K.In h) (G : h.Ns mainGlobals mg) (hfa : mg "law" = some (.ref fa))
    {f0 : Addr} {od0 an0 : Option Addr} {sl0 : Array (Option Value)} {oc0 kV0 dc0 pm0 cd0 ct0 : Value} {f1 : Addr} {od1 an1 : Option Addr} {sl1 : Array (Option Value)} {oc1 kV1 dc1 pm1 cd1 ct1 : Value} {f2 : Addr} {od2 an2 : Option Addr} {sl2 : Array (Option Value)} {oc2 kV2 dc2 pm2 cd2 ct2 : Value} {f3 : Addr} {od3 an3 : Option Addr} {sl3 : Array (Option Value)} {oc3 kV3 dc3 pm3 cd3 ct3 : Value} {f4 : Addr} {od4 an4 : Option Addr} {sl4 : Array (Option Value)} {oc4 kV4 dc4 pm4 cd4 ct4 : Value} {f5 : Addr} {od5 an5 : Option Addr} {sl5 : Array (Option Value)} {oc5 kV5 dc5 pm5 cd5 ct5 : Value} {f6 : Addr} {od6 an6 : Option Addr} {sl6 : Array (Option Value)} {oc6 kV6 dc6 pm6 cd6 ct6 : Value} {f7 : Addr} {od7 an7 : Option Addr} {sl7 : Array (Option Value)} {oc7 kV7 dc7 pm7 cd7 ct7 : Value} {f8 : Addr} {od8 an8 : Option Addr} {sl8 : Array (Option Value)} {oc8 kV8 dc8 pm8 cd8 ct8 : Value} {f9 : Addr} {od9 an9 : Option Addr} {sl9 : Array (Option Value)} {oc9 kV9 dc9 pm9 cd9 ct9 : Value} {f10 : Addr} {od10 an10 : Option Addr} {sl10 : Array (Option Value)} {oc10 kV10 dc10 pm10 cd10 ct10 : Value} {f11 : Addr} {od11 an11 : Option Addr} {sl11 : Array (Option Value)} {oc11 kV11 dc11 pm11 cd11 ct11 : Value} {f12 : Addr} {od12 an12 : Option Addr} {sl12 : Array (Option Value)} {oc12 kV12 dc12 pm12 cd12 ct12 : Value} {f13 : Addr} {od13 an13 : Option Addr} {sl13 : Array (Option Value)} {oc13 kV13 dc13 pm13 cd13 ct13 : Value} {f14 : Addr} {od14 an14 : Option Addr} {sl14 : Array (Option Value)} {oc14 kV14 dc14 pm14 cd14 ct14 : Value} {f15 : Addr} {od15 an15 : Option Addr} {sl15 : Array (Option Value)} {oc15 kV15 dc15 pm15 cd15 ct15 : Value} {f16 : Addr} {od16 an16 : Option Addr} {sl16 : Array (Option Value)} {oc16 kV16 dc16 pm16 cd16 ct16 : Value} {f17 : Addr} {od17 an17 : Option Addr} {sl17 : Array (Option Value)} {oc17 kV17 dc17 pm17 cd17 ct17 : Value} {f18 : Addr} {od18 an18 : Option Addr} {sl18 : Array (Option Value)} {oc18 kV18 dc18 pm18 cd18 ct18 : Value} {f19 : Addr} {od19 an19 : Option Addr} {sl19 : Array (Option Value)} {oc19 kV19 dc19 pm19 cd19 ct19 : Value} {f20 : Addr} {od20 an20 : Option Addr} {sl20 : Array (Option Value)} {oc20 kV20 dc20 pm20 cd20 ct20 : Value} {f21 : Addr} {od21 an21 : Option Addr} {sl21 : Array (Option Value)} {oc21 kV21 dc21 pm21 cd21 ct21 : Value} {f22 : Addr} {od22 an22 : Option Addr} {sl22 : Array (Option Value)} {oc22 kV22 dc22 pm22 cd22 ct22 : Value} {f23 : Addr} {od23 an23 : Option Addr} {sl23 : Array (Option Value)} {oc23 kV23 dc23 pm23 cd23 ct23 : Value} {f24 : Addr} {od24 an24 : Option Addr} {sl24 : Array (Option Value)} {oc24 kV24 dc24 pm24 cd24 ct24 : Value} {f25 : Addr} {od25 an25 : Option Addr} {sl25 : Array (Option Value)} {oc25 kV25 dc25 pm25 cd25 ct25 : Value} {t_LETTERS : Tok} {t_MOST_LETTERS : Tok} {t_MOST_WORDS : Tok} {t_MOST_ROOMS : Tok} {C_NoRule : Addr} {C_NoText : Addr} {C_NoFit : Addr} {C_TooGreat : Addr} {C_UseError : Addr} {C_Breach : Addr}
    (a0 : PySem.W.nsIn K mainGlobals "is_whole" = some (some (.ref f0))) (l0 : K.lookup f0 = some ⟨oc0, od0, .func (PySem.W.fnOf "is_whole" "is_whole" (defArgs s_is_whole) (defBody s_is_whole) (defScope s_is_whole) .none kV0 dc0 pm0 an0 cd0 ct0), sl0⟩) (c0 : PySem.W.codeIn K cd0 "is_whole" = true) (k0 : PySem.W.keepIn K (.ref f0) = true)
    (a1 : PySem.W.nsIn K mainGlobals "is_word" = some (some (.ref f1))) (l1 : K.lookup f1 = some ⟨oc1, od1, .func (PySem.W.fnOf "is_word" "is_word" (defArgs s_is_word) (defBody s_is_word) (defScope s_is_word) .none kV1 dc1 pm1 an1 cd1 ct1), sl1⟩) (c1 : PySem.W.codeIn K cd1 "is_word" = true) (k1 : PySem.W.keepIn K (.ref f1) = true)
    (a2 : PySem.W.nsIn K mainGlobals "is_sided_word" = some (some (.ref f2))) (l2 : K.lookup f2 = some ⟨oc2, od2, .func (PySem.W.fnOf "is_sided_word" "is_sided_word" (defArgs s_is_sided_word) (defBody s_is_sided_word) (defScope s_is_sided_word) .none kV2 dc2 pm2 an2 cd2 ct2), sl2⟩) (c2 : PySem.W.codeIn K cd2 "is_sided_word" = true) (k2 : PySem.W.keepIn K (.ref f2) = true)
    (a3 : PySem.W.nsIn K mainGlobals "is_rising" = some (some (.ref f3))) (l3 : K.lookup f3 = some ⟨oc3, od3, .func (PySem.W.fnOf "is_rising" "is_rising" (defArgs s_is_rising) (defBody s_is_rising) (defScope s_is_rising) .none kV3 dc3 pm3 an3 cd3 ct3), sl3⟩) (c3 : PySem.W.codeIn K cd3 "is_rising" = true) (k3 : PySem.W.keepIn K (.ref f3) = true)
    (a4 : PySem.W.nsIn K mainGlobals "are_words" = some (some (.ref f4))) (l4 : K.lookup f4 = some ⟨oc4, od4, .func (PySem.W.fnOf "are_words" "are_words" (defArgs s_are_words) (defBody s_are_words) (defScope s_are_words) .none kV4 dc4 pm4 an4 cd4 ct4), sl4⟩) (c4 : PySem.W.codeIn K cd4 "are_words" = true) (k4 : PySem.W.keepIn K (.ref f4) = true)
    (a5 : PySem.W.nsIn K mainGlobals "is_way" = some (some (.ref f5))) (l5 : K.lookup f5 = some ⟨oc5, od5, .func (PySem.W.fnOf "is_way" "is_way" (defArgs s_is_way) (defBody s_is_way) (defScope s_is_way) .none kV5 dc5 pm5 an5 cd5 ct5), sl5⟩) (c5 : PySem.W.codeIn K cd5 "is_way" = true) (k5 : PySem.W.keepIn K (.ref f5) = true)
    (a6 : PySem.W.nsIn K mainGlobals "is_room" = some (some (.ref f6))) (l6 : K.lookup f6 = some ⟨oc6, od6, .func (PySem.W.fnOf "is_room" "is_room" (defArgs s_is_room) (defBody s_is_room) (defScope s_is_room) .none kV6 dc6 pm6 an6 cd6 ct6), sl6⟩) (c6 : PySem.W.codeIn K cd6 "is_room" = true) (k6 : PySem.W.keepIn K (.ref f6) = true)
    (a7 : PySem.W.nsIn K mainGlobals "are_rooms" = some (some (.ref f7))) (l7 : K.lookup f7 = some ⟨oc7, od7, .func (PySem.W.fnOf "are_rooms" "are_rooms" (defArgs s_are_rooms) (defBody s_are_rooms) (defScope s_are_rooms) .none kV7 dc7 pm7 an7 cd7 ct7), sl7⟩) (c7 : PySem.W.codeIn K cd7 "are_rooms" = true) (k7 : PySem.W.keepIn K (.ref f7) = true)
    (a8 : PySem.W.nsIn K mainGlobals "is_rule" = some (some (.ref f8))) (l8 : K.lookup f8 = some ⟨oc8, od8, .func (PySem.W.fnOf "is_rule" "is_rule" (defArgs s_is_rule) (defBody s_is_rule) (defScope s_is_rule) .none kV8 dc8 pm8 an8 cd8 ct8), sl8⟩) (c8 : PySem.W.codeIn K cd8 "is_rule" = true) (k8 : PySem.W.keepIn K (.ref f8) = true)
    (a9 : PySem.W.nsIn K mainGlobals "copy_of" = some (some (.ref f9))) (l9 : K.lookup f9 = some ⟨oc9, od9, .func (PySem.W.fnOf "copy_of" "copy_of" (defArgs s_copy_of) (defBody s_copy_of) (defScope s_copy_of) .none kV9 dc9 pm9 an9 cd9 ct9), sl9⟩) (c9 : PySem.W.codeIn K cd9 "copy_of" = true) (k9 : PySem.W.keepIn K (.ref f9) = true)
    (a10 : PySem.W.nsIn K mainGlobals "copied_rule" = some (some (.ref f10))) (l10 : K.lookup f10 = some ⟨oc10, od10, .func (PySem.W.fnOf "copied_rule" "copied_rule" (defArgs s_copied_rule) (defBody s_copied_rule) (defScope s_copied_rule) .none kV10 dc10 pm10 an10 cd10 ct10), sl10⟩) (c10 : PySem.W.codeIn K cd10 "copied_rule" = true) (k10 : PySem.W.keepIn K (.ref f10) = true)
    (a11 : PySem.W.nsIn K mainGlobals "_law_cell_at" = some (some (.ref f11))) (l11 : K.lookup f11 = some ⟨oc11, od11, .func (PySem.W.fnOf "_law_cell_at" "_law_cell_at" (defArgs s_law_cell_at) (defBody s_law_cell_at) (defScope s_law_cell_at) .none kV11 dc11 pm11 an11 cd11 ct11), sl11⟩) (c11 : PySem.W.codeIn K cd11 "_law_cell_at" = true) (k11 : PySem.W.keepIn K (.ref f11) = true)
    (a12 : PySem.W.nsIn K mainGlobals "_law_mixed" = some (some (.ref f12))) (l12 : K.lookup f12 = some ⟨oc12, od12, .func (PySem.W.fnOf "_law_mixed" "_law_mixed" (defArgs s_law_mixed) (defBody s_law_mixed) (defScope s_law_mixed) .none kV12 dc12 pm12 an12 cd12 ct12), sl12⟩) (c12 : PySem.W.codeIn K cd12 "_law_mixed" = true) (k12 : PySem.W.keepIn K (.ref f12) = true)
    (a13 : PySem.W.nsIn K mainGlobals "_law_plain_words" = some (some (.ref f13))) (l13 : K.lookup f13 = some ⟨oc13, od13, .func (PySem.W.fnOf "_law_plain_words" "_law_plain_words" (defArgs s_law_plain_words) (defBody s_law_plain_words) (defScope s_law_plain_words) .none kV13 dc13 pm13 an13 cd13 ct13), sl13⟩) (c13 : PySem.W.codeIn K cd13 "_law_plain_words" = true) (k13 : PySem.W.keepIn K (.ref f13) = true)
    (a14 : PySem.W.nsIn K mainGlobals "_law_words" = some (some (.ref f14))) (l14 : K.lookup f14 = some ⟨oc14, od14, .func (PySem.W.fnOf "_law_words" "_law_words" (defArgs s_law_words) (defBody s_law_words) (defScope s_law_words) .none kV14 dc14 pm14 an14 cd14 ct14), sl14⟩) (c14 : PySem.W.codeIn K cd14 "_law_words" = true) (k14 : PySem.W.keepIn K (.ref f14) = true)
    (a15 : PySem.W.nsIn K mainGlobals "_law_way" = some (some (.ref f15))) (l15 : K.lookup f15 = some ⟨oc15, od15, .func (PySem.W.fnOf "_law_way" "_law_way" (defArgs s_law_way) (defBody s_law_way) (defScope s_law_way) .none kV15 dc15 pm15 an15 cd15 ct15), sl15⟩) (c15 : PySem.W.codeIn K cd15 "_law_way" = true) (k15 : PySem.W.keepIn K (.ref f15) = true)
    (a16 : PySem.W.nsIn K mainGlobals "_law_rule" = some (some (.ref f16))) (l16 : K.lookup f16 = some ⟨oc16, od16, .func (PySem.W.fnOf "_law_rule" "_law_rule" (defArgs s_law_rule) (defBody s_law_rule) (defScope s_law_rule) .none kV16 dc16 pm16 an16 cd16 ct16), sl16⟩) (c16 : PySem.W.codeIn K cd16 "_law_rule" = true) (k16 : PySem.W.keepIn K (.ref f16) = true)
    (a17 : PySem.W.nsIn K mainGlobals "_law_spoiled_head" = some (some (.ref f17))) (l17 : K.lookup f17 = some ⟨oc17, od17, .func (PySem.W.fnOf "_law_spoiled_head" "_law_spoiled_head" (defArgs s_law_spoiled_head) (defBody s_law_spoiled_head) (defScope s_law_spoiled_head) .none kV17 dc17 pm17 an17 cd17 ct17), sl17⟩) (c17 : PySem.W.codeIn K cd17 "_law_spoiled_head" = true) (k17 : PySem.W.keepIn K (.ref f17) = true)
    (a18 : PySem.W.nsIn K mainGlobals "_law_spoiled_words" = some (some (.ref f18))) (l18 : K.lookup f18 = some ⟨oc18, od18, .func (PySem.W.fnOf "_law_spoiled_words" "_law_spoiled_words" (defArgs s_law_spoiled_words) (defBody s_law_spoiled_words) (defScope s_law_spoiled_words) .none kV18 dc18 pm18 an18 cd18 ct18), sl18⟩) (c18 : PySem.W.codeIn K cd18 "_law_spoiled_words" = true) (k18 : PySem.W.keepIn K (.ref f18) = true)
    (a19 : PySem.W.nsIn K mainGlobals "_law_spoiled_room" = some (some (.ref f19))) (l19 : K.lookup f19 = some ⟨oc19, od19, .func (PySem.W.fnOf "_law_spoiled_room" "_law_spoiled_room" (defArgs s_law_spoiled_room) (defBody s_law_spoiled_room) (defScope s_law_spoiled_room) .none kV19 dc19 pm19 an19 cd19 ct19), sl19⟩) (c19 : PySem.W.codeIn K cd19 "_law_spoiled_room" = true) (k19 : PySem.W.keepIn K (.ref f19) = true)
    (a20 : PySem.W.nsIn K mainGlobals "_law_spoiled" = some (some (.ref f20))) (l20 : K.lookup f20 = some ⟨oc20, od20, .func (PySem.W.fnOf "_law_spoiled" "_law_spoiled" (defArgs s_law_spoiled) (defBody s_law_spoiled) (defScope s_law_spoiled) .none kV20 dc20 pm20 an20 cd20 ct20), sl20⟩) (c20 : PySem.W.codeIn K cd20 "_law_spoiled" = true) (k20 : PySem.W.keepIn K (.ref f20) = true)
    (a21 : PySem.W.nsIn K mainGlobals "_law_other" = some (some (.ref f21))) (l21 : K.lookup f21 = some ⟨oc21, od21, .func (PySem.W.fnOf "_law_other" "_law_other" (defArgs s_law_other) (defBody s_law_other) (defScope s_law_other) .none kV21 dc21 pm21 an21 cd21 ct21), sl21⟩) (c21 : PySem.W.codeIn K cd21 "_law_other" = true) (k21 : PySem.W.keepIn K (.ref f21) = true)
    (a22 : PySem.W.nsIn K mainGlobals "_law_refused" = some (some (.ref f22))) (l22 : K.lookup f22 = some ⟨oc22, od22, .func (PySem.W.fnOf "_law_refused" "_law_refused" (defArgs s_law_refused) (defBody s_law_refused) (defScope s_law_refused) .none kV22 dc22 pm22 an22 cd22 ct22), sl22⟩) (c22 : PySem.W.codeIn K cd22 "_law_refused" = true) (k22 : PySem.W.keepIn K (.ref f22) = true)
    (a23 : PySem.W.nsIn K mainGlobals "_law_copy" = some (some (.ref f23))) (l23 : K.lookup f23 = some ⟨oc23, od23, .func (PySem.W.fnOf "_law_copy" "_law_copy" (defArgs s_law_copy) (defBody s_law_copy) (defScope s_law_copy) .none kV23 dc23 pm23 an23 cd23 ct23), sl23⟩) (c23 : PySem.W.codeIn K cd23 "_law_copy" = true) (k23 : PySem.W.keepIn K (.ref f23) = true)
    (a24 : PySem.W.nsIn K mainGlobals "_law_alike" = some (some (.ref f24))) (l24 : K.lookup f24 = some ⟨oc24, od24, .func (PySem.W.fnOf "_law_alike" "_law_alike" (defArgs s_law_alike) (defBody s_law_alike) (defScope s_law_alike) .none kV24 dc24 pm24 an24 cd24 ct24), sl24⟩) (c24 : PySem.W.codeIn K cd24 "_law_alike" = true) (k24 : PySem.W.keepIn K (.ref f24) = true)
    (a25 : PySem.W.nsIn K mainGlobals "law" = some (some (.ref f25))) (l25 : K.lookup f25 = some ⟨oc25, od25, .func (PySem.W.fnOf "law" "law" (defArgs s_law) (defBody s_law) (defScope s_law) .none kV25 dc25 pm25 an25 cd25 ct25), sl25⟩) (c25 : PySem.W.codeIn K cd25 "law" = true) (k25 : PySem.W.keepIn K (.ref f25) = true)
    (y_isinstance : PySem.W.nsIn K mainGlobals "isinstance" = some none)
    (y_int : PySem.W.nsIn K mainGlobals "int" = some none)
    (y_bool : PySem.W.nsIn K mainGlobals "bool" = some none)
    (y_str : PySem.W.nsIn K mainGlobals "str" = some none)
    (y_tuple : PySem.W.nsIn K mainGlobals "tuple" = some none)
    (y_len : PySem.W.nsIn K mainGlobals "len" = some none)
    (y_range : PySem.W.nsIn K mainGlobals "range" = some none)
    (y_list : PySem.W.nsIn K mainGlobals "list" = some none)
    (y_sorted : PySem.W.nsIn K mainGlobals "sorted" = some none)
    (y_all : PySem.W.nsIn K mainGlobals "all" = some none)
    (y_min : PySem.W.nsIn K mainGlobals "min" = some none)
    (y_ValueError : PySem.W.nsIn K mainGlobals "ValueError" = some none)
    (h_LETTERS : PySem.W.nsIn K mainGlobals "LETTERS" = some (some (.str "abcdefghijklmnopqrstuvwxyz" t_LETTERS)))
    (h_MOST_LETTERS : PySem.W.nsIn K mainGlobals "MOST_LETTERS" = some (some (.int 8 t_MOST_LETTERS)))
    (h_MOST_WORDS : PySem.W.nsIn K mainGlobals "MOST_WORDS" = some (some (.int 16 t_MOST_WORDS)))
    (h_MOST_ROOMS : PySem.W.nsIn K mainGlobals "MOST_ROOMS" = some (some (.int 60 t_MOST_ROOMS)))
    (n_NoRule : PySem.W.nsIn K mainGlobals "NoRule" = some (some (.ref C_NoRule)))
    (xq_NoRule : excQ K C_NoRule [.type "ValueError", .type "Exception", .type "BaseException", .type "object"] "ValueError.__new__" = true) (xs_NoRule : PySem.W.subIn K (.ref C_NoRule) (.type "object") = some true) (xc_NoRule : PySem.W.findIn K (.ref C_NoRule) "__class__" = some (some (.builtin "object.__class__")))
    (n_NoText : PySem.W.nsIn K mainGlobals "NoText" = some (some (.ref C_NoText)))
    (xq_NoText : excQ K C_NoText [.type "ValueError", .type "Exception", .type "BaseException", .type "object"] "ValueError.__new__" = true) (xs_NoText : PySem.W.subIn K (.ref C_NoText) (.type "object") = some true) (xc_NoText : PySem.W.findIn K (.ref C_NoText) "__class__" = some (some (.builtin "object.__class__")))
    (n_NoFit : PySem.W.nsIn K mainGlobals "NoFit" = some (some (.ref C_NoFit)))
    (xq_NoFit : excQ K C_NoFit [.type "ValueError", .type "Exception", .type "BaseException", .type "object"] "ValueError.__new__" = true) (xs_NoFit : PySem.W.subIn K (.ref C_NoFit) (.type "object") = some true) (xc_NoFit : PySem.W.findIn K (.ref C_NoFit) "__class__" = some (some (.builtin "object.__class__")))
    (n_TooGreat : PySem.W.nsIn K mainGlobals "TooGreat" = some (some (.ref C_TooGreat)))
    (xq_TooGreat : excQ K C_TooGreat [.type "ValueError", .type "Exception", .type "BaseException", .type "object"] "ValueError.__new__" = true) (xs_TooGreat : PySem.W.subIn K (.ref C_TooGreat) (.type "object") = some true) (xc_TooGreat : PySem.W.findIn K (.ref C_TooGreat) "__class__" = some (some (.builtin "object.__class__")))
    (n_UseError : PySem.W.nsIn K mainGlobals "UseError" = some (some (.ref C_UseError)))
    (xq_UseError : excQ K C_UseError [.type "ValueError", .type "Exception", .type "BaseException", .type "object"] "ValueError.__new__" = true) (xs_UseError : PySem.W.subIn K (.ref C_UseError) (.type "object") = some true) (xc_UseError : PySem.W.findIn K (.ref C_UseError) "__class__" = some (some (.builtin "object.__class__")))
    (kt_NoRule_NoText : PySem.W.kitOne K (.ref C_NoRule) (.ref C_NoText) = some false)
    (kt_NoRule_NoFit : PySem.W.kitOne K (.ref C_NoRule) (.ref C_NoFit) = some false)
    (kt_NoRule_TooGreat : PySem.W.kitOne K (.ref C_NoRule) (.ref C_TooGreat) = some false)
    (n_Breach : PySem.W.nsIn K mainGlobals "Breach" = some (some (.ref C_Breach)))
    (kt_NoRule_Breach : PySem.W.kitOne K (.ref C_NoRule) (.ref C_Breach) = some false)
    (kt_NoRule_UseError : PySem.W.kitOne K (.ref C_NoRule) (.ref C_UseError) = some true)
    (kt_NoRule_ValueError : PySem.W.kitOne K (.ref C_NoRule) (.type "ValueError") = some true) :
    ∃ fd : FuncData, (∀ (s : Shared) (v : Value), BindsTo s fd ⟨[v], []⟩ [("_law_script", v)]) ∧ ∀ base : Heap, K.In base → base.Ns mainGlobals mg → FnOk l.prog w K mg base CX0 8 fa fd ["_law_script"] (spLaw K) := by
  have e := hfa.symm.trans (PySem.W.mg_of X G a25)
  cases e
  have D_is_whole : DefAt K mg "is_whole" s_is_whole := ⟨f0, _, fun_mk (st := s_is_whole) l0 c0 k0, PySem.W.mg_of X G a0⟩
  have D_is_word : DefAt K mg "is_word" s_is_word := ⟨f1, _, fun_mk (st := s_is_word) l1 c1 k1, PySem.W.mg_of X G a1⟩
  have D_is_sided_word : DefAt K mg "is_sided_word" s_is_sided_word := ⟨f2, _, fun_mk (st := s_is_sided_word) l2 c2 k2, PySem.W.mg_of X G a2⟩
  have D_is_rising : DefAt K mg "is_rising" s_is_rising := ⟨f3, _, fun_mk (st := s_is_rising) l3 c3 k3, PySem.W.mg_of X G a3⟩
  have D_are_words : DefAt K mg "are_words" s_are_words := ⟨f4, _, fun_mk (st := s_are_words) l4 c4 k4, PySem.W.mg_of X G a4⟩
  have D_is_way : DefAt K mg "is_way" s_is_way := ⟨f5, _, fun_mk (st := s_is_way) l5 c5 k5, PySem.W.mg_of X G a5⟩
  have D_is_room : DefAt K mg "is_room" s_is_room := ⟨f6, _, fun_mk (st := s_is_room) l6 c6 k6, PySem.W.mg_of X G a6⟩
  have D_are_rooms : DefAt K mg "are_rooms" s_are_rooms := ⟨f7, _, fun_mk (st := s_are_rooms) l7 c7 k7, PySem.W.mg_of X G a7⟩
  have D_is_rule : DefAt K mg "is_rule" s_is_rule := ⟨f8, _, fun_mk (st := s_is_rule) l8 c8 k8, PySem.W.mg_of X G a8⟩
  have D_copy_of : DefAt K mg "copy_of" s_copy_of := ⟨f9, _, fun_mk (st := s_copy_of) l9 c9 k9, PySem.W.mg_of X G a9⟩
  have D_copied_rule : DefAt K mg "copied_rule" s_copied_rule := ⟨f10, _, fun_mk (st := s_copied_rule) l10 c10 k10, PySem.W.mg_of X G a10⟩
  have D_law_cell_at : DefAt K mg "_law_cell_at" s_law_cell_at := ⟨f11, _, fun_mk (st := s_law_cell_at) l11 c11 k11, PySem.W.mg_of X G a11⟩
  have D_law_mixed : DefAt K mg "_law_mixed" s_law_mixed := ⟨f12, _, fun_mk (st := s_law_mixed) l12 c12 k12, PySem.W.mg_of X G a12⟩
  have D_law_plain_words : DefAt K mg "_law_plain_words" s_law_plain_words := ⟨f13, _, fun_mk (st := s_law_plain_words) l13 c13 k13, PySem.W.mg_of X G a13⟩
  have D_law_words : DefAt K mg "_law_words" s_law_words := ⟨f14, _, fun_mk (st := s_law_words) l14 c14 k14, PySem.W.mg_of X G a14⟩
  have D_law_way : DefAt K mg "_law_way" s_law_way := ⟨f15, _, fun_mk (st := s_law_way) l15 c15 k15, PySem.W.mg_of X G a15⟩
  have D_law_rule : DefAt K mg "_law_rule" s_law_rule := ⟨f16, _, fun_mk (st := s_law_rule) l16 c16 k16, PySem.W.mg_of X G a16⟩
  have D_law_spoiled_head : DefAt K mg "_law_spoiled_head" s_law_spoiled_head := ⟨f17, _, fun_mk (st := s_law_spoiled_head) l17 c17 k17, PySem.W.mg_of X G a17⟩
  have D_law_spoiled_words : DefAt K mg "_law_spoiled_words" s_law_spoiled_words := ⟨f18, _, fun_mk (st := s_law_spoiled_words) l18 c18 k18, PySem.W.mg_of X G a18⟩
  have D_law_spoiled_room : DefAt K mg "_law_spoiled_room" s_law_spoiled_room := ⟨f19, _, fun_mk (st := s_law_spoiled_room) l19 c19 k19, PySem.W.mg_of X G a19⟩
  have D_law_spoiled : DefAt K mg "_law_spoiled" s_law_spoiled := ⟨f20, _, fun_mk (st := s_law_spoiled) l20 c20 k20, PySem.W.mg_of X G a20⟩
  have D_law_other : DefAt K mg "_law_other" s_law_other := ⟨f21, _, fun_mk (st := s_law_other) l21 c21 k21, PySem.W.mg_of X G a21⟩
  have D_law_refused : DefAt K mg "_law_refused" s_law_refused := ⟨f22, _, fun_mk (st := s_law_refused) l22 c22 k22, PySem.W.mg_of X G a22⟩
  have D_law_copy : DefAt K mg "_law_copy" s_law_copy := ⟨f23, _, fun_mk (st := s_law_copy) l23 c23 k23, PySem.W.mg_of X G a23⟩
  have D_law_alike : DefAt K mg "_law_alike" s_law_alike := ⟨f24, _, fun_mk (st := s_law_alike) l24 c24 k24, PySem.W.mg_of X G a24⟩
  have z_isinstance : mg "isinstance" = none := PySem.W.mg_none_of X G y_isinstance
  have z_int : mg "int" = none := PySem.W.mg_none_of X G y_int
  have z_bool : mg "bool" = none := PySem.W.mg_none_of X G y_bool
  have z_str : mg "str" = none := PySem.W.mg_none_of X G y_str
  have z_tuple : mg "tuple" = none := PySem.W.mg_none_of X G y_tuple
  have z_len : mg "len" = none := PySem.W.mg_none_of X G y_len
  have z_range : mg "range" = none := PySem.W.mg_none_of X G y_range
  have z_list : mg "list" = none := PySem.W.mg_none_of X G y_list
  have z_sorted : mg "sorted" = none := PySem.W.mg_none_of X G y_sorted
  have z_all : mg "all" = none := PySem.W.mg_none_of X G y_all
  have z_min : mg "min" = none := PySem.W.mg_none_of X G y_min
  have z_ValueError : mg "ValueError" = none := PySem.W.mg_none_of X G y_ValueError
  have g_LETTERS : ∃ t, mg "LETTERS" = some (.str "abcdefghijklmnopqrstuvwxyz" t) := ⟨t_LETTERS, PySem.W.mg_of X G h_LETTERS⟩
  have g_MOST_LETTERS : ∃ t, mg "MOST_LETTERS" = some (.int 8 t) := ⟨t_MOST_LETTERS, PySem.W.mg_of X G h_MOST_LETTERS⟩
  have g_MOST_WORDS : ∃ t, mg "MOST_WORDS" = some (.int 16 t) := ⟨t_MOST_WORDS, PySem.W.mg_of X G h_MOST_WORDS⟩
  have g_MOST_ROOMS : ∃ t, mg "MOST_ROOMS" = some (.int 60 t) := ⟨t_MOST_ROOMS, PySem.W.mg_of X G h_MOST_ROOMS⟩
  have x_NoRule : ExcAt K mg "NoRule" C_NoRule := ⟨⟨xq_NoRule, xs_NoRule, xc_NoRule⟩, PySem.W.mg_of X G n_NoRule⟩
  have x_NoText : ExcAt K mg "NoText" C_NoText := ⟨⟨xq_NoText, xs_NoText, xc_NoText⟩, PySem.W.mg_of X G n_NoText⟩
  have x_NoFit : ExcAt K mg "NoFit" C_NoFit := ⟨⟨xq_NoFit, xs_NoFit, xc_NoFit⟩, PySem.W.mg_of X G n_NoFit⟩
  have x_TooGreat : ExcAt K mg "TooGreat" C_TooGreat := ⟨⟨xq_TooGreat, xs_TooGreat, xc_TooGreat⟩, PySem.W.mg_of X G n_TooGreat⟩
  have x_UseError : ExcAt K mg "UseError" C_UseError := ⟨⟨xq_UseError, xs_UseError, xc_UseError⟩, PySem.W.mg_of X G n_UseError⟩
  have x_Breach : ClsAt mg "Breach" C_Breach := ⟨PySem.W.mg_of X G n_Breach⟩
  have F := fun_mk (st := s_law) l25 c25 k25
  refine ⟨PySem.W.fnOf "law" "law" (defArgs s_law) (defBody s_law) (defScope s_law) .none kV25 dc25 pm25 an25 cd25 ct25, fun s v => .of_eq rfl, fun base _ _ => ?_⟩
  have c1 := ok_cell (P := l.prog) (w := w) (base := base) D_law_cell_at z_len
  have c2 := ok_mixed (P := l.prog) (w := w) (base := base) D_law_mixed z_range
  have c3 := ok_plain D_law_plain_words z_range z_int c2
  have c4 := ok_words D_law_words z_range z_sorted z_str c2 c3
  have c5 := ok_rule D_law_rule z_range z_min z_len c1 c4 c2 (ok_way D_law_way)
  have w1 := ok_is_word (P := l.prog) (w := w) (base := base) D_is_word z_isinstance z_str z_len z_all g_MOST_LETTERS g_LETTERS
  have w2 := ok_wholeA (P := l.prog) (w := w) (base := base) D_is_whole z_isinstance z_int z_bool
  have w3 := ok_areA D_are_words z_isinstance z_list z_len g_MOST_WORDS w1 (ok_sidedA D_is_sided_word z_isinstance z_str w1) (ok_rising D_is_rising z_len z_range z_all)
  have w4 := ok_areroomsA D_are_rooms z_isinstance z_list z_len z_all g_MOST_ROOMS (ok_isroomA D_is_room z_isinstance z_list z_len z_all (ok_iswayA D_is_way w2))
  have w5 := ok_isruleA D_is_rule z_isinstance z_tuple z_len w2 w3 w4
  have x1 := ok_copied D_copied_rule x_NoRule w5 (ok_copyof D_copy_of z_list)
  have o1 := ok_other (P := l.prog) (w := w) (base := base) D_law_other z_isinstance z_ValueError x_NoRule x_NoText x_NoFit x_TooGreat x_Breach kt_NoRule_NoText kt_NoRule_NoFit kt_NoRule_TooGreat kt_NoRule_Breach kt_NoRule_UseError kt_NoRule_ValueError x_UseError
  have s1 := ok_spoiled (P := l.prog) (w := w) (base := base) D_law_spoiled z_list (ok_head D_law_spoiled_head z_len) (ok_wordsS D_law_spoiled_words z_tuple) (ok_roomS D_law_spoiled_room z_len z_list z_tuple)
  exact ok_law F z_len c1 c5 s1 (ok_lawcopy D_law_copy z_list) w5 (ok_refused D_law_refused x_NoRule o1 x1) (x1.calm fun vs H Q E h => by obtain ⟨p, r, rfl, hR, ok, wo, q⟩ := h; exact ⟨_, rfl, (good_rule hR ok wo).1, .inl ⟨p, r, rfl, hR, ok, (good_rule hR ok wo).2, q⟩⟩) (ok_alike D_law_alike z_isinstance z_tuple z_len z_list)
theorem walk {l : PySem.W.OpenLaw} {q : Program} {loose : List Str} {XP : (Str → Option Value) → Heap → Prop} {YP : World → Heap → Prop} {d : DefRec} {K : Params → PySem.W.Frag} (hn : l.most = some 63) (hdf : d.params.defaults = [])
    (hY : ∀ (w : World) (h : Heap), YP w h → (K w.params).In h)
    (F : ∀ (w : World) (mg : Str → Option Value) (fa : Addr) (h : Heap), (K w.params).In h → h.Ns mainGlobals mg → mg d.name = some (.ref fa) →
      ∃ fd : FuncData, (∀ (s : Shared) (u : Value), BindsTo s fd ⟨[u], []⟩ [("_law_script", u)]) ∧ ∀ base : Heap, (K w.params).In base → base.Ns mainGlobals mg → FnOk l.prog w (K w.params) mg base CX0 8 fa fd ["_law_script"] (spLaw (K w.params))) :
    PySem.W.WalkO q loose XP YP l.row.toRowW d [] (fun f vs => PySem.call f vs) :=
  L2.walk_of (n := 63) (k := 8) (x := "_law_script") (CX := fun _ => CX0) (sp := fun w => spLaw (K w.params)) hn (by decide) hdf ⟨rfl, by decide, by decide⟩ hY F (fun _ _ a ns hl _ hS => ⟨a, ns, rfl, hS, hl, fun _ => rfl⟩) fun _ _ _ _ _ z => z
end K02
end
open PySem PySem.W PyProof.Rows
set_option maxRecDepth 100000 in
set_option maxHeartbeats 0 in
theorem PySem.Challenge.cw_usewarden_k02_what_is_a_rule_holds : PySem.Challenge.rw_usewarden_k02_what_is_a_rule.Holds := by
  w_on; o_law; k_head; (case hw => w_witness2)
  k_fill
  refine K02.walk (l := PySem.Challenge.rw_usewarden_k02_what_is_a_rule) rfl rfl (fun w h Y => PySem.W.kIn_of Y) ?F
  case F =>
    intro w mg fa h KX G hmg
    refine' K02.all_mk KX G hmg ?a0 ?l0 ?c0 ?k0 ?a1 ?l1 ?c1 ?k1 ?a2 ?l2 ?c2 ?k2 ?a3 ?l3 ?c3 ?k3 ?a4 ?l4 ?c4 ?k4 ?a5 ?l5 ?c5 ?k5 ?a6 ?l6 ?c6 ?k6 ?a7 ?l7 ?c7 ?k7 ?a8 ?l8 ?c8 ?k8 ?a9 ?l9 ?c9 ?k9 ?a10 ?l10 ?c10 ?k10 ?a11 ?l11 ?c11 ?k11 ?a12 ?l12 ?c12 ?k12 ?a13 ?l13 ?c13 ?k13 ?a14 ?l14 ?c14 ?k14 ?a15 ?l15 ?c15 ?k15 ?a16 ?l16 ?c16 ?k16 ?a17 ?l17 ?c17 ?k17 ?a18 ?l18 ?c18 ?k18 ?a19 ?l19 ?c19 ?k19 ?a20 ?l20 ?c20 ?k20 ?a21 ?l21 ?c21 ?k21 ?a22 ?l22 ?c22 ?k22 ?a23 ?l23 ?c23 ?k23 ?a24 ?l24 ?c24 ?k24 ?a25 ?l25 ?c25 ?k25 ?y_isinstance ?y_int ?y_bool ?y_str ?y_tuple ?y_len ?y_range ?y_list ?y_sorted ?y_all ?y_min ?y_ValueError ?h_LETTERS ?h_MOST_LETTERS ?h_MOST_WORDS ?h_MOST_ROOMS ?n_NoRule ?xq_NoRule ?xs_NoRule ?xc_NoRule ?n_NoText ?xq_NoText ?xs_NoText ?xc_NoText ?n_NoFit ?xq_NoFit ?xs_NoFit ?xc_NoFit ?n_TooGreat ?xq_TooGreat ?xs_TooGreat ?xc_TooGreat ?n_UseError ?xq_UseError ?xs_UseError ?xc_UseError ?kt_NoRule_NoText ?kt_NoRule_NoFit ?kt_NoRule_TooGreat ?n_Breach ?kt_NoRule_Breach ?kt_NoRule_UseError ?kt_NoRule_ValueError
    (case a0 => k_is)
    (case l0 => k_is)
    (case c0 => k_is)
    (case k0 => k_is)
    (case a1 => k_is)
    (case l1 => k_is)
    (case c1 => k_is)
    (case k1 => k_is)
    (case a2 => k_is)
    (case l2 => k_is)
    (case c2 => k_is)
    (case k2 => k_is)
    (case a3 => k_is)
    (case l3 => k_is)
    (case c3 => k_is)
    (case k3 => k_is)
    (case a4 => k_is)
    (case l4 => k_is)
    (case c4 => k_is)
    (case k4 => k_is)
    (case a5 => k_is)
    (case l5 => k_is)
    (case c5 => k_is)
    (case k5 => k_is)
    (case a6 => k_is)
    (case l6 => k_is)
    (case c6 => k_is)
    (case k6 => k_is)
    (case a7 => k_is)
    (case l7 => k_is)
    (case c7 => k_is)
    (case k7 => k_is)
    (case a8 => k_is)
    (case l8 => k_is)
    (case c8 => k_is)
    (case k8 => k_is)
    (case a9 => k_is)
    (case l9 => k_is)
    (case c9 => k_is)
    (case k9 => k_is)
    (case a10 => k_is)
    (case l10 => k_is)
    (case c10 => k_is)
    (case k10 => k_is)
    (case a11 => k_is)
    (case l11 => k_is)
    (case c11 => k_is)
    (case k11 => k_is)
    (case a12 => k_is)
    (case l12 => k_is)
    (case c12 => k_is)
    (case k12 => k_is)
    (case a13 => k_is)
    (case l13 => k_is)
    (case c13 => k_is)
    (case k13 => k_is)
    (case a14 => k_is)
    (case l14 => k_is)
    (case c14 => k_is)
    (case k14 => k_is)
    (case a15 => k_is)
    (case l15 => k_is)
    (case c15 => k_is)
    (case k15 => k_is)
    (case a16 => k_is)
    (case l16 => k_is)
    (case c16 => k_is)
    (case k16 => k_is)
    (case a17 => k_is)
    (case l17 => k_is)
    (case c17 => k_is)
    (case k17 => k_is)
    (case a18 => k_is)
    (case l18 => k_is)
    (case c18 => k_is)
    (case k18 => k_is)
    (case a19 => k_is)
    (case l19 => k_is)
    (case c19 => k_is)
    (case k19 => k_is)
    (case a20 => k_is)
    (case l20 => k_is)
    (case c20 => k_is)
    (case k20 => k_is)
    (case a21 => k_is)
    (case l21 => k_is)
    (case c21 => k_is)
    (case k21 => k_is)
    (case a22 => k_is)
    (case l22 => k_is)
    (case c22 => k_is)
    (case k22 => k_is)
    (case a23 => k_is)
    (case l23 => k_is)
    (case c23 => k_is)
    (case k23 => k_is)
    (case a24 => k_is)
    (case l24 => k_is)
    (case c24 => k_is)
    (case k24 => k_is)
    (case a25 => k_is)
    (case l25 => k_is)
    (case c25 => k_is)
    (case k25 => k_is)
    (case y_isinstance => k_is)
    (case y_int => k_is)
    (case y_bool => k_is)
    (case y_str => k_is)
    (case y_tuple => k_is)
    (case y_len => k_is)
    (case y_range => k_is)
    (case y_list => k_is)
    (case y_sorted => k_is)
    (case y_all => k_is)
    (case y_min => k_is)
    (case y_ValueError => k_is)
    (case h_LETTERS => k_is)
    (case h_MOST_LETTERS => k_is)
    (case h_MOST_WORDS => k_is)
    (case h_MOST_ROOMS => k_is)
    (case n_NoRule => k_is)
    (case xq_NoRule => kernel_rfl)
    (case xs_NoRule => k_is)
    (case xc_NoRule => k_is)
    (case n_NoText => k_is)
    (case xq_NoText => kernel_rfl)
    (case xs_NoText => k_is)
    (case xc_NoText => k_is)
    (case n_NoFit => k_is)
    (case xq_NoFit => kernel_rfl)
    (case xs_NoFit => k_is)
    (case xc_NoFit => k_is)
    (case n_TooGreat => k_is)
    (case xq_TooGreat => kernel_rfl)
    (case xs_TooGreat => k_is)
    (case xc_TooGreat => k_is)
    (case n_UseError => k_is)
    (case xq_UseError => kernel_rfl)
    (case xs_UseError => k_is)
    (case xc_UseError => k_is)
    (case kt_NoRule_NoText => kernel_rfl)
    (case kt_NoRule_NoFit => kernel_rfl)
    (case kt_NoRule_TooGreat => kernel_rfl)
    (case n_Breach => k_is)
    (case kt_NoRule_Breach => kernel_rfl)
    (case kt_NoRule_UseError => kernel_rfl)
    (case kt_NoRule_ValueError => kernel_rfl)
#print axioms PySem.Challenge.cw_usewarden_k02_what_is_a_rule_holds
