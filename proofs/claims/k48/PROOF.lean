import PyProof.Rows.All
import Wide.All
import OpenK.AllK
import Wide.FinOn
import Lean
import PyProof.EqAt
import PyProof.EqKinds
import PyProof.TupleCall
import PyProof.ZipIter
import PyProof.EnumMake
import PyProof.EnumFor
import PyProof.CollectIter
import PyProof.Rows.SeqMore
import PyProof.ConsumeWalk
import PySem.Challenge.RW_fewtimes_k48_how_many_multiplyings
set_option Elab.async false
set_option linter.all false
set_option maxRecDepth 100000
set_option maxHeartbeats 4000000
-- CHANGE: your row's module here, as the last of these rows
/-! THE HAND LAYER, for ints, bools, texts, own classes, LISTS and tuples (index, slices, in, append, pop ..), calls, loops. Paste it whole ahead of your own text; what your proof does not reach may be deleted. -/
namespace L2
open PySem PySem.Spec PyProof.Rows

/-- a key: an int or a str -/
abbrev Key := Sum Int Str
def keyIs : Key → Value → Bool
  | .inl k, v => Value.isInt k v
  | .inr x, v => Value.isStrOf x v
def keyH (w : World) : Key → Int
  | .inl k => hashInt k
  | .inr x => hashStr w x
theorem keyIs_shape : ∀ {k : Key} {v : Value}, keyIs k v = true → (∃ i t, k = Sum.inl i ∧ v = Value.int i t) ∨ (∃ x t, k = Sum.inr x ∧ v = Value.str x t)
  | .inl i, v, h => by
    obtain ⟨t, e⟩ := Value.isInt_shape (k := i) (v := v) h
    exact .inl ⟨i, t, rfl, e⟩
  | .inr x, v, h => by
    obtain ⟨t, e⟩ := Value.isStrOf_shape (x := x) (v := v) h
    exact .inr ⟨x, t, rfl, e⟩
theorem keyIs_int (i : Int) (t : Tok) : keyIs (.inl i) (.int i t) = true := by simp [keyIs, Value.isInt]
theorem keyIs_str (x : Str) (t : Tok) : keyIs (.inr x) (.str x t) = true := by simp [keyIs, Value.isStrOf]
theorem key_ll (a b : Int) : decide ((Sum.inl a : Key) = Sum.inl b) = (a == b) := by
  by_cases e : a = b
  · subst e; simp
  · have h : ¬ (Sum.inl a : Key) = Sum.inl b := fun q => e (Sum.inl.inj q)
    rw [decide_eq_false h]
    exact (beq_eq_false_iff_ne.mpr e).symm
theorem key_rr (a b : Str) : decide ((Sum.inr a : Key) = Sum.inr b) = decide (a = b) := by
  by_cases e : a = b
  · subst e; simp
  · have h : ¬ (Sum.inr a : Key) = Sum.inr b := fun q => e (Sum.inr.inj q)
    rw [decide_eq_false h, decide_eq_false e]
theorem key_lr (a : Int) (b : Str) : decide ((Sum.inl a : Key) = Sum.inr b) = false := decide_eq_false (fun q => nomatch q)
theorem key_rl (a : Str) (b : Int) : decide ((Sum.inr a : Key) = Sum.inl b) = false := decide_eq_false (fun q => nomatch q)

def mixKind (prog : Program) (w : World) : PySem.KeyKind prog w Key where
  is := keyIs
  hash := keyH w
  inj := fun v a b ha hb => by
    rcases keyIs_shape ha with ⟨i, t, rfl, rfl⟩ | ⟨x, t, rfl, rfl⟩
    · rcases keyIs_shape hb with ⟨j, u, rfl, e⟩ | ⟨y, u, rfl, e⟩
      · injection e with e1 _; rw [e1]
      · exact nomatch e
    · rcases keyIs_shape hb with ⟨j, u, rfl, e⟩ | ⟨y, u, rfl, e⟩
      · exact nomatch e
      · injection e with e1 _; rw [e1]
  byValue := fun k v h => by
    rcases keyIs_shape h with ⟨i, t, rfl, rfl⟩ | ⟨x, t, rfl, rfl⟩ <;> rfl
  pyHash := fun hv h => by
    rcases keyIs_shape hv with ⟨i, t, rfl, rfl⟩ | ⟨x, t, rfl, rfl⟩
    · exact wpAny_pyHash_int h
    · exact wpAny_pyHash_str h
  eqBool := fun hu hv h => by
    rcases keyIs_shape hu with ⟨i, t, rfl, rfl⟩ | ⟨x, t, rfl, rfl⟩
    · rcases keyIs_shape hv with ⟨j, u, rfl, rfl⟩ | ⟨y, u, rfl, rfl⟩
      · rw [key_ll] at h; exact wpAny_eqBool_int h
      · rw [key_lr] at h; exact SeqAt.EqAt.int_str i t y u _ _ _ _ h
    · rcases keyIs_shape hv with ⟨j, u, rfl, rfl⟩ | ⟨y, u, rfl, rfl⟩
      · rw [key_rl] at h; exact SeqAt.EqAt.str_int x t j u _ _ _ _ h
      · rw [key_rr] at h; exact wpAny_eqBool_str h
  «strs» := fun k x t v h => by
    rcases keyIs_shape h with ⟨i, u, rfl, e⟩ | ⟨y, u, rfl, e⟩
    · exact nomatch e
    · injection e with e1 _
      subst e1
      cases v <;> rfl

theorem mixKind_int (prog : Program) (w : World) (i : Int) (t : Tok) : (mixKind prog w).is (.inl i) (.int i t) = true := keyIs_int i t
theorem mixKind_str (prog : Program) (w : World) (x : Str) (t : Tok) : (mixKind prog w).is (.inr x) (.str x t) = true := keyIs_str x t
end L2

namespace L2
open PySem PySem.Spec PyProof.Rows

/-- a value, without the heap -/
inductive V where
  | non | bl (b : Bool) | int (i : Int) | str (x : Str) | byt (b : Array UInt8) | flt (b : UInt64) | ref (a : Addr) | ty (n : String)
  deriving DecidableEq

def RelV : V → Value → Prop
  | .non, u => u = Value.none
  | .bl b, u => u = Value.bool b
  | .int i, u => ∃ t, u = Value.int i t
  | .str x, u => ∃ t, u = Value.str x t
  | .byt b, u => ∃ t, u = Value.bytes b t
  | .flt b, u => ∃ t, u = Value.float b t
  | .ref a, u => u = Value.ref a
  | .ty n, u => u = Value.type n

abbrev Vals : List V → List Value → Prop := Paired RelV
theorem Vals.length {xs : List V} {us : List Value} (r : Vals xs us) : xs.length = us.length := Paired.length r
theorem Vals.get : ∀ {xs : List V} {us : List Value} {i : Nat} {x : V}, Vals xs us → xs[i]? = some x → ∃ u, us[i]? = some u ∧ RelV x u
  | _, _, _, _, .nil, e => by simp at e
  | _, _, 0, _, .cons r _, e => by simp at e; subst e; exact ⟨_, rfl, r⟩
  | _, _, i + 1, x, .cons _ t, e => by
    obtain ⟨u, h1, h2⟩ := Vals.get (i := i) (x := x) t (by simpa using e)
    exact ⟨u, by simpa using h1, h2⟩
theorem Vals.set {x : V} {u : Value} (r : RelV x u) : ∀ {xs : List V} {us : List Value} (i : Nat), Vals xs us → Vals (xs.set i x) (us.set i u)
  | _, _, _, .nil => .nil
  | _, _, 0, .cons _ t => .cons r t
  | _, _, i + 1, .cons q t => .cons q (Vals.set r i t)
theorem Vals.append : ∀ {xs ys : List V} {us ws : List Value}, Vals xs us → Vals ys ws → Vals (xs ++ ys) (us ++ ws)
  | _, _, _, _, .nil, s => s
  | _, _, _, _, .cons r t, s => .cons r (Vals.append t s)
theorem Vals.take : ∀ {xs : List V} {us : List Value} (n : Nat), Vals xs us → Vals (xs.take n) (us.take n)
  | _, _, 0, _ => .nil
  | _, _, _ + 1, .nil => .nil
  | _, _, n + 1, .cons r t => .cons r (Vals.take n t)
theorem Vals.drop : ∀ {xs : List V} {us : List Value} (n : Nat), Vals xs us → Vals (xs.drop n) (us.drop n)
  | _, _, 0, r => r
  | _, _, _ + 1, .nil => .nil
  | _, _, n + 1, .cons _ t => Vals.drop n t
def RelO : Option V → Option Value → Prop
  | some v, some u => RelV v u
  | none, none => True
  | _, _ => False
def KV {κ : Type} : List (κ × V) → List (κ × Value) → Prop := Paired fun (p : κ × V) (q : κ × Value) => p.1 = q.1 ∧ RelV p.2 q.2

/-- a key of a dict (00_mix): an int or a text -/
def kV : Key → V
  | .inl i => .int i
  | .inr x => .str x

/-- what stands at a tracked address -/
inductive HO where
  /-- a list -/
  | lst (xs : List V)
  /-- a tuple (never changes) -/
  | tup (xs : List V)
  /-- a dict whose keys are ints and texts; one whose keys are tuples of ints and texts (the empty one is both) -/
  | dK (kvs : List (Key × V)) | dT (kvs : List (List Key × V))
  /-- a set of ints: its members, its size -/
  | set (S : Int → Bool) (n : Nat)
  /-- an instance of the class at C, its dict at dx, its attributes -/
  | ins (C dx : Addr) (fs : List (Str × V))
  /-- the dict of the instance at x -/
  | own (x : Addr)
  /-- the dict of an exception -/
  | xd (fs : List (Str × V))
  /-- a bound method, f of x -/
  | met (f x : Addr)
  /-- a range object lo, lo + 1, .. below hi -/
  | rng (lo hi : Int)
  /-- a thing that is known to the object (the script; a dict while a loop walks it): read, never written while it is so -/
  | frz (o : Obj) (u : HO)
  /-- a code object's table -/
  | tbl (ps : Array Value)
  /-- any other thing, by what is true of its one object (a def of one's own: SetO a S n := HO.ext fun h => ..) -/
  | ext (φ : Heap → Prop)

abbrev Hp := Addr → Option HO
def upd (H : Hp) (a : Addr) (o : HO) : Hp := fun b => if b = a then some o else H b
theorem upd_same {H : Hp} {a : Addr} {o : HO} : upd H a o a = some o := by unfold upd; rw [if_pos rfl]
theorem upd_ne {H : Hp} {a b : Addr} {o : HO} (h : b ≠ a) : upd H a o b = H b := by unfold upd; rw [if_neg h]
/-- two objects of different content stand apart -/
theorem ne_of {H : Hp} {a b : Addr} {o u : HO} (h : H a = some o) (h' : H b = some u) (d : o ≠ u) : a ≠ b := by
  intro e; subst e; rw [h] at h'; exact d (Option.some.inj h')
theorem ne_of_none {H : Hp} {a b : Addr} {o : HO} (h : H a = some o) (h' : H b = none) : a ≠ b := by
  intro e; subst e; rw [h] at h'; cases h'

section
variable (P : Program) (w : World)
def ObjOk (H : Hp) (h : Heap) (a : Addr) : HO → Prop
  | .lst xs => xs.length ≤ sizeLine ∧ ∃ (its : List Value) (n : Nat), Vals xs its ∧ h.get? a = some { cls := .type "list", data := .seq its.toArray n }
  | .tup xs => xs.length ≤ sizeLine ∧ ∃ its : List Value, Vals xs its ∧ IsTup h a its.toArray
  | .dK kvs => kvs.length ≤ sizeLine ∧ (a == sysModules) = false ∧ ∃ vs, KV kvs vs ∧ h.DictOf (mixKind P w) a vs
  | .dT kvs => kvs.length ≤ sizeLine ∧ (a == sysModules) = false ∧ ∃ xs : List (List Key × Addr × Value),
      Paired (fun (p : List Key × V) (q : List Key × Addr × Value) => p.1 = q.1 ∧ H q.2.1 = some (.tup (p.1.map kV)) ∧ RelV p.2 q.2.2) kvs xs ∧
      ∃ o es ep, h.get? a = some o ∧ o.ExactDict ∧ o.data = .dict es ep ∧ es.toList = xs.map (entryOfKey (tupleKind (mixKind P w))) ∧ (xs.map (·.1)).Nodup
  | .set S n => h.SetOf (intKind P w) a S n
  | .ins C dx fs => H dx = some (.own a) ∧ fs.length ≤ 1000 ∧ dx ≠ a ∧ h.get? a = some (PySem.W.instObj C dx) ∧
      ∃ mA, h.Ns1 dx mA ∧ (∀ f, RelO (fs.lookup f) (mA f)) ∧ PySem.Within mA (fs.map (·.1))
  | .own _ => ∃ o, h.get? a = some o
  | .xd fs => ∃ mA, h.Ns1 a mA ∧ ∀ f, RelO (fs.lookup f) (mA f)
  | .rng lo hi => ∃ t u v, h.get? a = some { cls := .type "range", data := .fields #[.int lo t, .int hi u, .int 1 v] }
  | .frz o u => h.get? a = some o ∧ ObjOk H h a u
  | .tbl ps => h.get? a = some { cls := .none, data := .fields ps }
  | .met f x => h.get? a = some (PySem.W.methodObj (.ref f) (.ref x))
  | .ext φ => φ h ∧ (∃ o, h.get? a = some o) ∧ ∀ h1 h2 : Heap, φ h1 → (∀ o, h1.get? a = some o → h2.get? a = some o) → φ h2
/-- the abstract heap is held -/
def HOk (H : Hp) (h : Heap) : Prop := ∀ a o, H a = some o → ObjOk P w H h a o
end

section
variable {P : Program} {w : World} {H H' : Hp} {h h' : Heap} {a : Addr} {o : HO}
theorem ObjOk.lt (x : ObjOk P w H h a o) : a < h.objs.size := by
  cases o with
  | lst xs => obtain ⟨_, _, _, _, e⟩ := x; exact Heap.lt_size e
  | tup xs => obtain ⟨_, _, _, p⟩ := x; exact p.lt
  | dK kvs => obtain ⟨_, _, _, _, o, _, _, e, _⟩ := x; exact Heap.lt_size e
  | dT kvs => obtain ⟨_, _, _, _, o, _, _, e, _⟩ := x; exact Heap.lt_size e
  | set S n => obtain ⟨o, _, _, _, e, _⟩ := x; exact Heap.lt_size e
  | ins C dx fs => obtain ⟨_, _, _, e, _⟩ := x; exact Heap.lt_size e
  | own y => obtain ⟨_, e⟩ := x; exact Heap.lt_size e
  | xd fs => obtain ⟨_, ⟨_, _, _, e, _⟩, _⟩ := x; exact Heap.lt_size e
  | rng lo hi => obtain ⟨_, _, _, e⟩ := x; exact Heap.lt_size e
  | frz ob u => obtain ⟨e, _⟩ := x; exact Heap.lt_size e
  | tbl ps => exact Heap.lt_size (show h.get? a = some _ from x)
  | met f y => exact Heap.lt_size (show h.get? a = some _ from x)
  | ext φ => obtain ⟨_, ⟨_, e⟩, _⟩ := x; exact Heap.lt_size e
theorem Paired.mapP {α β : Type} {F G : α → β → Prop} : ∀ {l₁ : List α} {l₂ : List β}, Paired F l₁ l₂ → (∀ a b, F a b → G a b) → Paired G l₁ l₂
  | _, _, .nil, _ => .nil
  | _, _, .cons r t, f => .cons (f _ _ r) (Paired.mapP t f)
/-- what an object's description leans on: its own object, its own dict, the tuples -/
theorem ObjOk.stay (x : ObjOk P w H h a o) (k : ∀ b u, (b = a ∨ H b = some (.own a)) → h.get? b = some u → h'.get? b = some u)
    (ho : ∀ b, H b = some (.own a) → H' b = some (.own a)) (ht : ∀ b xs, H b = some (.tup xs) → H' b = some (.tup xs)) : ObjOk P w H' h' a o := by
  induction o with
  | lst xs => obtain ⟨z, its, n, r, e⟩ := x; exact ⟨z, its, n, r, k _ _ (.inl rfl) e⟩
  | tup xs => obtain ⟨z, its, r, ob, e, c⟩ := x; exact ⟨z, its, r, ob, k _ _ (.inl rfl) e, c⟩
  | dK kvs => obtain ⟨z, y, vs, r, ob, es, ep, e, c⟩ := x; exact ⟨z, y, vs, r, ob, es, ep, k _ _ (.inl rfl) e, c⟩
  | dT kvs =>
    obtain ⟨z, y, xs, r, ob, es, ep, e, c⟩ := x
    exact ⟨z, y, xs, Paired.mapP r fun p q z => ⟨z.1, ht _ _ z.2.1, z.2.2⟩, ob, es, ep, k _ _ (.inl rfl) e, c⟩
  | set S n => obtain ⟨ob, es, ep, t, e, c⟩ := x; exact ⟨ob, es, ep, t, k _ _ (.inl rfl) e, c⟩
  | ins C dx fs =>
    obtain ⟨d, z, ne, e, mA, ⟨od, es, ep, e2, c⟩, r⟩ := x
    exact ⟨ho _ d, z, ne, k _ _ (.inl rfl) e, mA, ⟨od, es, ep, k _ _ (.inr d) e2, c⟩, r⟩
  | own y => obtain ⟨ob, e⟩ := x; exact ⟨ob, k _ _ (.inl rfl) e⟩
  | xd fs => obtain ⟨mA, ⟨od, es, ep, e, c⟩, r⟩ := x; exact ⟨mA, ⟨od, es, ep, k _ _ (.inl rfl) e, c⟩, r⟩
  | rng lo hi => obtain ⟨t, u, v, e⟩ := x; exact ⟨t, u, v, k _ _ (.inl rfl) e⟩
  | frz ob u ih => obtain ⟨e, q⟩ := x; exact ⟨k _ _ (.inl rfl) e, ih q⟩
  | tbl ps =>
    have e : h.get? a = some { cls := .none, data := .fields ps } := x
    show h'.get? a = some { cls := .none, data := .fields ps }
    exact k a _ (.inl rfl) e
  | met f y =>
    have e : h.get? a = some (PySem.W.methodObj (.ref f) (.ref y)) := x
    show h'.get? a = some (PySem.W.methodObj (.ref f) (.ref y))
    exact k a _ (.inl rfl) e
  | ext φ => obtain ⟨p, ⟨o, e⟩, st⟩ := x; exact ⟨st _ _ p fun o q => k _ _ (.inl rfl) q, ⟨o, k _ _ (.inl rfl) e⟩, st⟩
theorem HOk.lt (x : HOk P w H h) (e : H a = some o) : a < h.objs.size := (x a o e).lt
theorem HOk.fresh (x : HOk P w H h) (e : h.objs.size ≤ a) : H a = none := by
  cases q : H a with
  | none => rfl
  | some u => exact absurd (Nat.lt_of_lt_of_le (x.lt q) e) (Nat.lt_irrefl _)
/-- every object of the heap is kept -/
theorem HOk.kept (x : HOk P w H h) (k : ∀ b u, h.get? b = some u → h'.get? b = some u) : HOk P w H h' := fun a o e =>
  (x a o e).stay (fun b u _ q => k b u q) (fun _ q => q) fun _ _ q => q
/-- a new object is laid and tracked -/
theorem HOk.laid (x : HOk P w H h) (k : ∀ b u, h.get? b = some u → h'.get? b = some u) (hp : h.objs.size ≤ a) (new : ObjOk P w (upd H a o) h' a o) : HOk P w (upd H a o) h' := fun b u e => by
  have hn := x.fresh hp
  by_cases hb : b = a
  · subst hb; rw [upd_same] at e; cases e; exact new
  · rw [upd_ne hb] at e
    exact (x b u e).stay (fun c v _ q => k c v q) (fun c q => by rw [upd_ne (ne_of_none q hn)]; exact q) fun c xs q => by rw [upd_ne (ne_of_none q hn)]; exact q
end

/-- what may be read as u: it is u, or a known u -/
def Rd (H : Hp) (a : Addr) (u : HO) : Prop := H a = some u ∨ ∃ o, H a = some (.frz o u)
theorem Rd.of {H : Hp} {a : Addr} {u : HO} (h : H a = some u) : Rd H a u := .inl h
theorem Rd.ok {P : Program} {w : World} {H : Hp} {h : Heap} {a : Addr} {u : HO} (r : Rd H a u) (x : HOk P w H h) : ObjOk P w H h a u := by
  rcases r with r | ⟨o, r⟩
  · exact x a u r
  · obtain ⟨_, q⟩ := x a _ r
    exact q
/-- what may be written -/
def Mut : Option HO → Prop
  | some (.lst _) => True
  | some (.dK _) => True
  | some (.dT _) => True
  | some (.set _ _) => True
  | some (.ins _ _ _) => True
  | some (.ext _) => True
  | _ => False
section
variable {P : Program} {w : World} {H : Hp} {h h' : Heap} {x e : Addr} {o' : HO}
/-- the object at e is changed: x itself, or the dict of the instance x -/
theorem HOk.write (ok : HOk P w H h) (mu : Mut (H x)) (he : e = x ∨ H e = some (.own x)) (k : ∀ b u, b ≠ e → h.get? b = some u → h'.get? b = some u) (heo : ∃ u, h'.get? e = some u)
    (new : ObjOk P w (upd H x o') h' x o') : HOk P w (upd H x o') h' := fun b u q => by
  have nown : ∀ c y, H c = some (.own y) → c ≠ x := fun c y r z => by subst z; rw [r] at mu; exact mu
  have ntup : ∀ c xs, H c = some (.tup xs) → c ≠ x := fun c xs r z => by subst z; rw [r] at mu; exact mu
  by_cases hb : b = x
  · subst hb; rw [upd_same] at q; cases q; exact new
  · rw [upd_ne hb] at q
    by_cases hbe : b = e
    · have q' : H b = some (.own x) := by
        rcases he with z | z
        · exact absurd (hbe.trans z) hb
        · rw [hbe]; exact z
      rw [q] at q'; cases q'
      obtain ⟨v, hv⟩ := heo
      exact ⟨v, by rw [hbe]; exact hv⟩
    · refine (ok b u q).stay (fun c v hc r => k c v ?_ r) (fun c r => by rw [upd_ne (nown c b r)]; exact r) fun c xs r => by rw [upd_ne (ntup c xs r)]; exact r
      rcases hc with rfl | hc
      · exact hbe
      · rintro rfl
        rcases he with z | z
        · exact nown c b hc z
        · rw [hc] at z; cases z; exact hb rfl
end

/-! ### kept unless tracked; of the frames at fs (the callers') the slots may change (an exception that passes writes there); of the records at ex (iterators) nothing is said -/
structure Un (fs ex : List Addr) (H H' : Hp) (h h' : Heap) : Prop where
  keep : ∀ b o, h.get? b = some o → H b = none → b ∉ fs → b ∉ ex → h'.get? b = some o
  slot : ∀ b o, h.get? b = some o → H b = none → b ∈ fs → b ∉ ex → ∃ sl, h'.get? b = some { o with slots := sl }
  free : ∀ b o, h.get? b = some o → H b = none → b ∉ ex → H' b = none
  there : ∀ b o, h.get? b = some o → b ∉ ex → ∃ o', h'.get? b = some o'
  tups : ∀ b xs, H b = some (.tup xs) → H' b = some (.tup xs)
  frzs : ∀ b o u, H b = some (.frz o u) → H' b = some (.frz o u)
  tbls : ∀ b ps, H b = some (.tbl ps) → ∃ more, H' b = some (.tbl (ps ++ more))
section
variable {fs fs' ex ex' : List Addr} {H H1 H2 : Hp} {h h1 h2 h' : Heap} {a x e : Addr} {o : HO}
theorem Un.any (u : Un fs ex H H1 h h1) {b : Addr} {ob : Obj} (q : h.get? b = some ob) (n : H b = none) (hx : b ∉ ex) : ∃ sl, h1.get? b = some { ob with slots := sl } := by
  by_cases hb : b ∈ fs
  · exact u.slot b ob q n hb hx
  · exact ⟨ob.slots, u.keep b ob q n hb hx⟩
theorem Un.trans (a : Un fs ex H H1 h h1) (b : Un fs ex H1 H2 h1 h2) : Un fs ex H H2 h h2 where
  keep := fun c ob q n hc hx => b.keep c ob (a.keep c ob q n hc hx) (a.free c ob q n hx) hc hx
  slot := fun c ob q n hc hx => by
    obtain ⟨sl, e1⟩ := a.slot c ob q n hc hx
    obtain ⟨sl', e2⟩ := b.slot c _ e1 (a.free c ob q n hx) hc hx
    exact ⟨sl', e2⟩
  free := fun c ob q n hx => by
    obtain ⟨o', e1⟩ := a.there c ob q hx
    exact b.free c o' e1 (a.free c ob q n hx) hx
  there := fun c ob q hx => by
    obtain ⟨o', e1⟩ := a.there c ob q hx
    exact b.there c o' e1 hx
  tups := fun c xs q => b.tups c xs (a.tups c xs q)
  frzs := fun c ob xs q => b.frzs c ob xs (a.frzs c ob xs q)
  tbls := fun c ps q => by
    obtain ⟨m1, e1⟩ := a.tbls c ps q
    obtain ⟨m2, e2⟩ := b.tbls c _ e1
    exact ⟨m1 ++ m2, by rw [e2, Array.append_assoc]⟩
theorem Un.kept (k : ∀ b u, h.get? b = some u → h'.get? b = some u) : Un fs ex H H h h' :=
  ⟨fun b ob q _ _ _ => k b ob q, fun b ob q _ _ _ => ⟨ob.slots, k b ob q⟩, fun _ _ _ n _ => n, fun b ob q _ => ⟨ob, k b ob q⟩, fun _ _ q => q, fun _ _ _ q => q, fun _ ps q => ⟨#[], by rw [q]; simp⟩⟩
theorem Un.refl : Un fs ex H H h h := Un.kept fun _ _ q => q
theorem Un.laid (k : ∀ b u, h.get? b = some u → h'.get? b = some u) (hp : h.objs.size ≤ a) (hn : H a = none) : Un fs ex H (upd H a o) h h' where
  keep := fun b u q _ _ _ => k b u q
  slot := fun b u q _ _ _ => ⟨u.slots, k b u q⟩
  free := fun b u q n _ => by rw [upd_ne (Nat.ne_of_lt (Nat.lt_of_lt_of_le (Heap.lt_size q) hp))]; exact n
  there := fun b u q _ => ⟨u, k b u q⟩
  tups := fun b xs q => by rw [upd_ne (ne_of_none q hn)]; exact q
  frzs := fun b u xs q => by rw [upd_ne (ne_of_none q hn)]; exact q
  tbls := fun b ps q => ⟨#[], by rw [upd_ne (ne_of_none q hn), q]; simp⟩
theorem Un.write (mu : Mut (H x)) (he : e = x ∨ H e = some (.own x)) (k : ∀ b u, b ≠ e → h.get? b = some u → h'.get? b = some u) (heo : ∃ u, h'.get? e = some u) : Un fs ex H (upd H x o) h h' := by
  have hx : ∀ b, H b = none → b ≠ x := fun b n z => by subst z; rw [n] at mu; exact mu
  have hb : ∀ b, H b = none → b ≠ e := fun b n z => by
    subst z
    rcases he with r | r
    · exact hx b n r
    · rw [n] at r; cases r
  have hm : ∀ b u, H b = some u → ¬ Mut (some u) → b ≠ x := fun b u q nm z => by subst z; rw [q] at mu; exact nm mu
  refine ⟨fun b u q n _ _ => k b u (hb b n) q, fun b u q n _ _ => ⟨u.slots, k b u (hb b n) q⟩, fun b u q n _ => by rw [upd_ne (hx b n)]; exact n, fun b u q _ => ?_,
    fun b xs q => by rw [upd_ne (hm b _ q fun z => z)]; exact q, fun b u xs q => by rw [upd_ne (hm b _ q fun z => z)]; exact q, fun b ps q => ⟨#[], by rw [upd_ne (hm b _ q fun z => z), q]; simp⟩⟩
  by_cases hbe : b = e
  · subst hbe; exact heo
  · exact ⟨u, k b u hbe q⟩
theorem Un.mono (u : Un fs ex H H1 h h1) (hs : ∀ b ∈ fs, b ∈ fs') (hx : ∀ b ∈ ex, b ∈ ex') : Un fs' ex' H H1 h h1 :=
  ⟨fun b ob q n hb he => u.keep b ob q n (fun z => hb (hs b z)) fun z => he (hx b z), fun _ _ q n _ he => u.any q n fun z => he (hx _ z), fun b ob q n he => u.free b ob q n fun z => he (hx b z), fun b ob q he => u.there b ob q fun z => he (hx b z), u.tups, u.frzs, u.tbls⟩
end

/-! ### the heap without what is tracked -/
def trk (h : Heap) (H : Hp) : List Addr := (List.range h.objs.size).filter fun a => (H a).isSome
def hidT (h : Heap) (H : Hp) : Heap := PySem.W.hideAll h (trk h H)
theorem hidT_size (h : Heap) (H : Hp) : (hidT h H).objs.size = h.objs.size := PySem.W.hideAll_size _ _
theorem hidT_get {h : Heap} {H : Hp} {b : Addr} {o : Obj} (e : h.get? b = some o) (n : H b = none) : (hidT h H).get? b = some o :=
  PySem.W.hideAll_get _ e fun hm => by
    have q : (H b).isSome = true := (List.mem_filter.mp hm).2
    rw [n] at q; simp at q
theorem of_hidT {h : Heap} {H : Hp} {b : Addr} {o : Obj} (e : (hidT h H).get? b = some o) : h.get? b = some o ∧ H b = none := by
  have e' : h.get? b = some o := PySem.W.of_hideAll (trk h H) e
  refine ⟨e', ?_⟩
  cases q : H b with
  | none => rfl
  | some x =>
    have hm : b ∈ trk h H := List.mem_filter.mpr ⟨List.mem_range.mpr (Heap.lt_size e'), by simp [q]⟩
    have z : (hidT h H).get? b = none := PySem.W.hideAll_none (trk h H) hm
    rw [z] at e; cases e

/-! ### OpenK's ledger, filled with every new object but one -/
def allNews (g h : Heap) (L : Addr) : List (Addr × Obj) := (List.range h.objs.size).filterMap fun a => if a = L ∨ (g.get? a).isSome = true then none else (h.get? a).map fun o => (a, o)
def rest (g h : Heap) (L d : Addr) : List (Addr × Obj) := (allNews g h L).filter fun p => decide (p.1 ≠ d)
end L2

namespace L2
open PySem PySem.Spec PyProof.Rows

/-- the module's facts, over the base: the heap at the law's entry without what is tracked there -/
structure Mod (K : PySem.W.Frag) (mg : Str → Option Value) (base : Heap) : Prop where
  kin : K.In base
  glob : base.Ns mainGlobals mg
  blt : ∃ mb, base.Ns builtinsNs mb ∧ ∀ x : Str, x ≠ "__name__" → mb x = bootBuiltins x
  nolimit : base.NoLimit

/-- the context: a def's body (or a comprehension's block) running. base: fixed through the whole law; s₀, H₀: the entry; outer: the frames whose slots others may change (a def's callers); stack: all frames that run;
   ex: iterators that were made ahead of the entry and are walked here (a comprehension's); fn: the names whose cells were made at the entry (a def: all; a comprehension's block: its own); calm: not within an except suite; pn: pins that every state bears; xe: what is wanted of an exception that leaves the code -/
structure Cx where
  prog : Program
  w : World
  K : PySem.W.Frag
  mg : Str → Option Value
  base : Heap
  A : Around
  N : List Str
  s₀ : Shared
  H₀ : Hp
  env : Env
  outer : List Env
  stack : List Env
  ex : List Addr
  fn : Str → Bool
  calm : Bool
  pn : List (Addr × Obj)
  xe : Value → Shared → Prop
/-- the callers' frames -/
def frs (l : List Env) : List Addr := l.filterMap (·.frame)
abbrev Cx.fs (X : Cx) : List Addr := frs X.outer

def Vis (sc : Scope) (x : Str) : Prop := sc.names.lookup x = some .local ∨ sc.names.lookup x = some .cell ∨ sc.names.lookup x = some .free
def Loc (sc : Scope) (x : Str) : Prop := sc.names.lookup x = some .local ∨ sc.names.lookup x = some .cell
def Look (env : Env) (h : Heap) (m : Str → Option Value) (x : Str) (u : Value) : Prop :=
  (env.kindOf x = some .local ∧ m x = some u) ∨ ((env.kindOf x = some .cell ∨ env.kindOf x = some .free) ∧ ∃ c, env.cells.lookup x = some c ∧ h.IsCell c (some u))

structure Cx.Ok (X : Cx) : Prop where
  mod : Mod X.K X.mg X.base
  kind : X.env.scope.kind = .function
  glob : X.env.globals = mainGlobals
  blt : X.env.builtins = builtinsNs
  above : X.s₀.heap.objs.size ≤ X.env.locals
  inj : ∀ x y c, X.env.cells.lookup x = some c → X.env.cells.lookup y = some c → x = y
  has : ∀ x, (X.env.kindOf x = some .cell ∨ X.env.kindOf x = some .free) → ∃ c, X.env.cells.lookup x = some c
  cab : ∀ x c, X.fn x = true → X.env.cells.lookup x = some c → X.s₀.heap.objs.size ≤ c
  hd : X.calm = true → X.A.handled = none
  frames : X.A.frames = some X.stack
  stk : X.stack = X.outer ∨ (X.stack = X.env :: X.outer ∧ X.env.frame = some X.env.locals)
  exf : ∀ b ∈ X.ex, b ≠ X.env.locals ∧ ∀ x c, X.env.cells.lookup x = some c → c ≠ b
  bs : ∀ b o, X.base.get? b = some o → X.s₀.heap.get? b = some o ∧ X.H₀ b = none
  bsz : X.base.objs.size ≤ X.s₀.heap.objs.size
  noex : ∀ b o, X.base.get? b = some o → b ∉ X.ex
  exfs : ∀ b ∈ X.ex, b ∉ X.fs
  funs : X.s₀.heap.FunFrames X.base X.outer
  frf : ∀ b ∈ X.fs, X.H₀ b = none

structure Inv (X : Cx) (pins : List (Addr × Obj)) (σ : List (Option V)) (H : Hp) (s : Shared) : Prop where
  ok : X.Ok
  os : s.os = X.s₀.os
  bare : AllBare s.gens
  base : Un X.fs X.ex X.H₀ H X.s₀.heap s.heap
  loc : ∃ m, s.heap.Ns X.env.locals m ∧ ∀ (i : Nat) (x : Str) (v : V), X.N[i]? = some x → σ[i]? = some (some v) → Vis X.env.scope x → ∃ u, RelV v u ∧ Look X.env s.heap m x u
  cell : ∀ x c, X.env.cells.lookup x = some c → ∃ v, s.heap.IsCell c v
  free : H X.env.locals = none
  freeC : ∀ x c, X.env.cells.lookup x = some c → H c = none
  pin : ∀ p ∈ X.pn ++ pins, s.heap.get? p.1 = some p.2 ∧ H p.1 = none ∧ p.1 ≠ X.env.locals ∧ p.1 ∉ X.fs ∧ ∀ v, p.2.data ≠ .cell v
  hok : HOk X.prog X.w H s.heap
  len : σ.length = X.N.length

section
variable {X : Cx} {pins : List (Addr × Obj)} {σ : List (Option V)} {H H' : Hp} {s : Shared} {h' : Heap}

theorem Cx.Ok.nofr (ok : X.Ok) {b : Addr} {o : Obj} (e : X.base.get? b = some o) : b ∉ X.fs := fun hb => by
  have := (ok.funs.mem hb).1
  rw [e] at this; cases this
theorem Inv.bs (I : Inv X pins σ H s) : ∀ b o, X.base.get? b = some o → s.heap.get? b = some o ∧ H b = none := fun b o e =>
  ⟨I.base.keep b o (I.ok.bs b o e).1 (I.ok.bs b o e).2 (I.ok.nofr e) (I.ok.noex b o e), I.base.free b o (I.ok.bs b o e).1 (I.ok.bs b o e).2 (I.ok.noex b o e)⟩
theorem Inv.bk (I : Inv X pins σ H s) : ∀ b o, X.base.get? b = some o → s.heap.get? b = some o := fun b o e => (I.bs b o e).1
theorem Inv.mod (I : Inv X pins σ H s) : Mod X.K X.mg X.base := I.ok.mod
theorem Inv.kIn (I : Inv X pins σ H s) : X.K.In s.heap := I.ok.mod.kin.keeps I.bk
theorem Inv.nolimit (I : Inv X pins σ H s) : s.heap.NoLimit := I.ok.mod.nolimit.keeps I.bk
/-- the frame over the base: for OpenK's rules (K.In X.base is I.mod.kin) -/
theorem Inv.fr (I : Inv X pins σ H s) : ∃ m, Fr X.base X.env.locals s.heap m :=
  let ⟨m, hn, _⟩ := I.loc
  ⟨m, hn, I.bk, Nat.le_trans I.ok.bsz I.ok.above⟩
theorem Inv.lt (I : Inv X pins σ H s) : X.env.locals < s.heap.objs.size := let ⟨_, hn, _⟩ := I.loc; hn.lt
theorem Inv.sz (I : Inv X pins σ H s) : X.s₀.heap.objs.size ≤ s.heap.objs.size := Nat.le_trans I.ok.above (Nat.le_of_lt I.lt)
theorem Inv.nofs (I : Inv X pins σ H s) {a : Addr} (h : s.heap.objs.size ≤ a) : a ∉ X.fs := fun hb => by
  obtain ⟨_, o, ho, _⟩ := I.ok.funs.mem hb
  exact absurd (Nat.lt_of_lt_of_le (Heap.lt_size ho) (Nat.le_trans I.sz h)) (Nat.lt_irrefl _)
theorem Inv.cne (I : Inv X pins σ H s) : ∀ x c, X.env.cells.lookup x = some c → c ≠ X.env.locals := fun x c e z => by
  obtain ⟨v, o, ho, hd⟩ := I.cell x c e
  obtain ⟨m, ⟨o', es, ep, ho', hd', _⟩, _⟩ := I.loc
  rw [z, ho'] at ho; cases ho; rw [hd'] at hd; cases hd
theorem Inv.funs (I : Inv X pins σ H s) : s.heap.FunFrames X.base X.outer := by
  have all : ∀ (l : List Env), (∀ b ∈ frs l, b ∈ X.fs) → X.s₀.heap.FunFrames X.base l → s.heap.FunFrames X.base l := by
    intro l
    induction l with
    | nil => intro _ _; trivial
    | cons env r ih =>
      intro hs hl
      obtain ⟨hk, ⟨L, o, hf, hn, ho, hd⟩, hr⟩ := hl
      have hL : L ∈ X.fs := hs L (by unfold frs; rw [List.filterMap_cons, hf]; exact List.mem_cons_self)
      obtain ⟨sl, e⟩ := I.base.slot L o ho (I.ok.frf L hL) hL fun z => I.ok.exfs L z hL
      exact ⟨hk, ⟨L, _, hf, hn, e, hd⟩, ih (fun b hb => hs b (by unfold frs; rw [List.filterMap_cons, hf]; exact List.mem_cons_of_mem _ hb)) hr⟩
  exact all X.outer (fun _ hb => hb) I.ok.funs

/-- the frames that run, for a call -/
theorem Inv.stack (I : Inv X pins σ H s) : s.heap.FunFrames X.base X.stack := by
  rcases I.ok.stk with e | ⟨e, hf⟩
  · rw [e]; exact I.funs
  · rw [e]
    obtain ⟨m, hn, _⟩ := I.loc
    refine .cons (by rw [I.ok.kind]; decide) hf hn ?_ I.funs
    exact Heap.get?_none_of_le (Nat.le_trans I.ok.bsz I.ok.above)
theorem Inv.stkSub (I : Inv X pins σ H s) : ∀ b ∈ frs X.stack, b ∈ X.env.locals :: X.fs := fun b hb => by
  rcases I.ok.stk with e | ⟨e, hf⟩
  · rw [e] at hb; exact List.mem_cons_of_mem _ hb
  · rw [e] at hb
    unfold frs at hb
    rw [List.filterMap_cons, hf] at hb
    exact hb
theorem Inv.stkFree (I : Inv X pins σ H s) : ∀ b ∈ frs X.stack, H b = none := fun b hb => by
  rcases List.mem_cons.mp (I.stkSub b hb) with e | hb
  · rw [e]; exact I.free
  · obtain ⟨_, o, ho, _⟩ := I.ok.funs.mem hb
    exact I.base.free b o ho (I.ok.frf b hb) fun z => I.ok.exfs b z hb

/-- THE STEP: the untracked objects but the frame and the records at ch are kept (the callers' frames up to slots), the frame's map is kept, the new abstract heap is held -/
theorem Inv.step {g' : Array GenState} {t' : Nat} {d' : Drawn} {ch : List Addr} (I : Inv X pins σ H s)
    (hch : ∀ b ∈ ch, (b ∈ X.ex ∨ X.s₀.heap.objs.size ≤ b) ∧ b ≠ X.env.locals ∧ (∀ x c, X.env.cells.lookup x = some c → c ≠ b) ∧ ∀ p ∈ X.pn ++ pins, p.1 ≠ b)
    (keep : ∀ b o, b ≠ X.env.locals → b ∉ X.fs → b ∉ ch → s.heap.get? b = some o → H b = none → h'.get? b = some o)
    (slot : ∀ b o, b ≠ X.env.locals → b ∈ X.fs → b ∉ ch → s.heap.get? b = some o → H b = none → ∃ sl, h'.get? b = some { o with slots := sl }) (free : ∀ b o, b ∉ ch → s.heap.get? b = some o → H b = none → H' b = none)
    (there : ∀ b o, b ∉ ch → s.heap.get? b = some o → ∃ o', h'.get? b = some o')
    (tups : ∀ b xs, H b = some (.tup xs) → H' b = some (.tup xs)) (frzs : ∀ b o u, H b = some (.frz o u) → H' b = some (.frz o u)) (tbls : ∀ b ps, H b = some (.tbl ps) → ∃ more, H' b = some (.tbl (ps ++ more)))
    (ns : ∀ m, s.heap.Ns X.env.locals m → h'.Ns X.env.locals m) (hok : HOk X.prog X.w H' h') (hg : AllBare g') :
    Inv X pins σ H' { s with heap := h', gens := g', drawn := d', toks := t' } := by
  have neL : ∀ b o, X.s₀.heap.get? b = some o → b ≠ X.env.locals := fun b o e => Nat.ne_of_lt (Nat.lt_of_lt_of_le (Heap.lt_size e) I.ok.above)
  have neC : ∀ b o, X.s₀.heap.get? b = some o → b ∉ X.ex → b ∉ ch := fun b o e hx hb => by
    rcases (hch b hb).1 with z | z
    · exact hx z
    · exact absurd (Nat.lt_of_lt_of_le (Heap.lt_size e) z) (Nat.lt_irrefl _)
  have cellK : ∀ x c, X.env.cells.lookup x = some c → ∀ v, s.heap.IsCell c v → h'.IsCell c v := fun x c e v ⟨o, ho, hd⟩ => by
    have nch : c ∉ ch := fun z => (hch c z).2.2.1 x c e rfl
    by_cases hc : c ∈ X.fs
    · obtain ⟨sl, q⟩ := slot c o (I.cne x c e) hc nch ho (I.freeC x c e)
      exact ⟨_, q, hd⟩
    · exact ⟨o, keep c o (I.cne x c e) hc nch ho (I.freeC x c e), hd⟩
  refine ⟨I.ok, I.os, hg, ⟨fun b o e n hb hx => ?_, fun b o e n hb hx => ?_, fun b o e n hx => ?_, fun b o e hx => ?_, fun b xs e => tups b xs (I.base.tups b xs e), fun b o xs e => frzs b o xs (I.base.frzs b o xs e), fun b ps e => ?_⟩, ?_, fun x c e => ?_, ?_, fun x c e => ?_, fun p hp => ?_, hok, I.len⟩
  · exact keep b o (neL b o e) hb (neC b o e hx) (I.base.keep b o e n hb hx) (I.base.free b o e n hx)
  · obtain ⟨sl, e1⟩ := I.base.slot b o e n hb hx
    obtain ⟨sl', e2⟩ := slot b _ (neL b o e) hb (neC b o e hx) e1 (I.base.free b o e n hx)
    exact ⟨sl', e2⟩
  · obtain ⟨o', e1⟩ := I.base.there b o e hx
    exact free b o' (neC b o e hx) e1 (I.base.free b o e n hx)
  · obtain ⟨o', e1⟩ := I.base.there b o e hx
    exact there b o' (neC b o e hx) e1
  · obtain ⟨m1, e1⟩ := I.base.tbls b ps e
    obtain ⟨m2, e2⟩ := tbls b _ e1
    exact ⟨m1 ++ m2, by rw [e2, Array.append_assoc]⟩
  · obtain ⟨m, hn, hl⟩ := I.loc
    refine ⟨m, ns m hn, fun i x v e1 e2 e3 => ?_⟩
    obtain ⟨u, r, l⟩ := hl i x v e1 e2 e3
    refine ⟨u, r, ?_⟩
    rcases l with l | ⟨k, c, e, z⟩
    · exact .inl l
    · exact .inr ⟨k, c, e, cellK x c e _ z⟩
  · obtain ⟨v, z⟩ := I.cell x c e
    exact ⟨v, cellK x c e v z⟩
  · obtain ⟨m, ⟨o, _, _, ho, _⟩, _⟩ := I.loc
    exact free _ o (fun z => (hch _ z).2.1 rfl) ho I.free
  · obtain ⟨v, o, ho, hd⟩ := I.cell x c e
    exact free c o (fun z => (hch c z).2.2.1 x c e rfl) ho (I.freeC x c e)
  · obtain ⟨e, n, ne, nf, d⟩ := I.pin p hp
    have nch : p.1 ∉ ch := fun z => (hch p.1 z).2.2.2 p hp rfl
    exact ⟨keep p.1 p.2 ne nf nch e n, free p.1 p.2 nch e n, ne, nf, d⟩
/-- .. where the frame's own object is kept too -/
theorem Inv.un {t' : Nat} (I : Inv X pins σ H s) (u : Un X.fs [] H H' s.heap h') (hok : HOk X.prog X.w H' h') : Inv X pins σ H' { s with heap := h', toks := t' } := by
  obtain ⟨m, ⟨o, es, ep, ho, r⟩, _⟩ := id I.loc
  obtain ⟨sl, hL⟩ := u.any ho I.free (by simp)
  exact I.step (g' := s.gens) (d' := s.drawn) (ch := []) (fun _ z => nomatch z) (fun b o _ hb _ e n => u.keep b o e n hb (by simp)) (fun b o _ hb _ e n => u.slot b o e n hb (by simp)) (fun b o _ e n => u.free b o e n (by simp)) (fun b o _ e => u.there b o e (by simp)) u.tups u.frzs u.tbls (fun m' hm => by
    obtain ⟨o', es', ep', ho', r'⟩ := hm
    rw [ho] at ho'; cases ho'
    exact ⟨_, es', ep', hL, r'⟩) hok I.bare
/-- behind a call (or a comprehension's block): the slots of this frame may have changed too, the records at ch may have turned -/
theorem Inv.call {g' : Array GenState} {t' : Nat} {d' : Drawn} {ch : List Addr} (I : Inv X pins σ H s) (u : Un (frs X.stack) ch H H' s.heap h') (hok : HOk X.prog X.w H' h') (hg : AllBare g')
    (hch : ∀ b ∈ ch, (b ∈ X.ex ∨ X.s₀.heap.objs.size ≤ b) ∧ b ≠ X.env.locals ∧ (∀ x c, X.env.cells.lookup x = some c → c ≠ b) ∧ ∀ p ∈ X.pn ++ pins, p.1 ≠ b) :
    Inv X pins σ H' { s with heap := h', gens := g', drawn := d', toks := t' } := by
  obtain ⟨m, ⟨o, es, ep, ho, r⟩, _⟩ := id I.loc
  obtain ⟨sl, hL⟩ := u.any ho I.free fun z => (hch _ z).2.1 rfl
  exact I.step (ch := ch) hch (fun b o hL hb hc e n => u.keep b o e n (fun z => (List.mem_cons.mp (I.stkSub b z)).elim hL hb) hc) (fun b o _ _ hc e n => u.any e n hc) (fun b o hc e n => u.free b o e n hc) (fun b o hc e => u.there b o e hc) u.tups u.frzs u.tbls (fun m' hm => by
    obtain ⟨o', es', ep', ho', r'⟩ := hm
    rw [ho] at ho'; cases ho'
    exact ⟨_, es', ep', hL, r'⟩) hok hg
/-- an untracked record of ours (an iterator) has turned -/
theorem Inv.turned {t' : Nat} {it : Addr} (I : Inv X pins σ H s) (k : ∀ b o, b ≠ it → s.heap.get? b = some o → h'.get? b = some o) (hn : H it = none) (hL : it ≠ X.env.locals)
    (h1 : it ∈ X.ex ∨ X.s₀.heap.objs.size ≤ it) (h2 : ∀ x c, X.env.cells.lookup x = some c → c ≠ it) (h3 : ∀ p ∈ X.pn ++ pins, p.1 ≠ it) : Inv X pins σ H { s with heap := h', toks := t' } := by
  have nit : ∀ b u, H b = some u → b ≠ it := fun b u e z => by rw [z, hn] at e; cases e
  refine I.step (g' := s.gens) (d' := s.drawn) (ch := [it]) (fun b hb => ?_) (fun b o _ _ hc e _ => k b o (fun z => hc (by simp [z])) e) (fun b o _ _ hc e _ => ⟨o.slots, k b o (fun z => hc (by simp [z])) e⟩) (fun _ _ _ _ n => n)
    (fun b o hc e => ⟨o, k b o (fun z => hc (by simp [z])) e⟩) (fun _ _ e => e) (fun _ _ _ e => e) (fun b ps e => ⟨#[], by rw [e]; simp⟩) (fun m hm => ?_) (fun b u e => ?_) I.bare
  · have e : b = it := by simpa using hb
    subst e
    exact ⟨h1, hL, h2, h3⟩
  · obtain ⟨o, es, ep, ho, r⟩ := hm
    exact ⟨o, es, ep, k _ o (Ne.symm hL) ho, r⟩
  · refine (I.hok b u e).stay (fun c v hc q => k c v ?_ q) (fun _ q => q) fun _ _ q => q
    rcases hc with z | z
    · rw [z]; exact nit b u e
    · exact nit c _ z
theorem Inv.tok (I : Inv X pins σ H s) (t : Nat) : Inv X pins σ H { s with toks := t } := I.un (h' := s.heap) (t' := t) Un.refl I.hok
/-- all objects kept -/
theorem Inv.kept {t' : Nat} (I : Inv X pins σ H s) (k : ∀ b u, s.heap.get? b = some u → h'.get? b = some u) : Inv X pins σ H { s with heap := h', toks := t' } := I.un (Un.kept k) (I.hok.kept k)
/-- a new object laid and tracked -/
theorem Inv.laid {a : Addr} {o : HO} {t' : Nat} (I : Inv X pins σ H s) (k : ∀ b u, s.heap.get? b = some u → h'.get? b = some u) (hp : s.heap.objs.size ≤ a) (new : ObjOk X.prog X.w (upd H a o) h' a o) :
    Inv X pins σ (upd H a o) { s with heap := h', toks := t' } := I.un (Un.laid k hp (I.hok.fresh hp)) (I.hok.laid k hp new)
/-- an object written -/
theorem Inv.write {x e : Addr} {o : HO} {t' : Nat} (I : Inv X pins σ H s) (mu : Mut (H x)) (he : e = x ∨ H e = some (.own x)) (k : ∀ b u, b ≠ e → s.heap.get? b = some u → h'.get? b = some u) (heo : ∃ u, h'.get? e = some u)
    (new : ObjOk X.prog X.w (upd H x o) h' x o) : Inv X pins σ (upd H x o) { s with heap := h', toks := t' } := I.un (Un.write mu he k heo) (I.hok.write mu he k heo new)
theorem Inv.pins_of {pins' : List (Addr × Obj)} (I : Inv X pins σ H s) (h : ∀ p ∈ pins', s.heap.get? p.1 = some p.2 ∧ H p.1 = none ∧ p.1 ≠ X.env.locals ∧ p.1 ∉ X.fs ∧ ∀ v, p.2.data ≠ .cell v) : Inv X pins' σ H s :=
  ⟨I.ok, I.os, I.bare, I.base, I.loc, I.cell, I.free, I.freeC, fun p hp => (List.mem_append.mp hp).elim (fun z => I.pin p (List.mem_append_left _ z)) (h p), I.hok, I.len⟩

theorem nodup_ix {N : List Str} (hN : N.Nodup) {i j : Nat} {x : Str} (a : N[i]? = some x) (b : N[j]? = some x) : i = j := by
  obtain ⟨h1, e1⟩ := List.getElem?_eq_some_iff.mp a
  obtain ⟨h2, e2⟩ := List.getElem?_eq_some_iff.mp b
  exact (List.getElem_inj hN).mp (e1.trans e2.symm)

/-- a name is stored; what changed -/
theorem store_ok2 {M : Model} {A : Around} {E : Value → Shared → Prop} {i : Nat} {x : Str} {v : V} {u : Value} {Q : Unit → Shared → Prop} (I : Inv X pins σ H s) (hN : X.N.Nodup) (hi : X.N[i]? = some x) (hx : Loc X.env.scope x) (r : RelV v u)
    (h : ∀ s', Inv X pins (σ.set i (some v)) H s' → (∃ a, Heap.SameBut a s.heap s'.heap ∧ (a = X.env.locals ∨ X.env.cells.lookup x = some a)) → Q () s') (hf : X.fn x = true ∨ X.env.scope.names.lookup x = some .local := by first | exact .inl rfl | exact .inr rfl | assumption) : wpAny M A (storeName X.env x u) Q E s := by
  obtain ⟨m, hn, hl⟩ := id I.loc
  have hcls : (X.env.scope.kind == .class || (X.env.scope.kind == .module && X.env.locals != X.env.globals)) = false := by rw [I.ok.kind]; rfl
  have hiσ : i < σ.length := by rw [I.len]; exact (List.getElem?_eq_some_iff.mp hi).1
  have cne := I.cne
  have tracked : ∀ {a : Addr} {h' : Heap}, (∃ o, s.heap.get? a = some o ∧ H a = none) → Heap.SameBut a s.heap h' → HOk X.prog X.w H h' := fun {a h'} ha hs b ob e => by
    obtain ⟨_, _, hfree⟩ := ha
    refine (I.hok b ob e).stay (fun c w' hc q => (hs.2 c ?_).trans q) (fun _ q => q) fun _ _ q => q
    rintro rfl
    rcases hc with rfl | hc
    · rw [hfree] at e; cases e
    · rw [hfree] at hc; cases hc
  rcases hx with hk | hk
  · refine wpAny_storeName_local hk hn (fun h' hn' hs => ?_) hcls
    obtain ⟨oL, _, _, hoL, _⟩ := id hn
    refine h _ ⟨I.ok, I.os, I.bare, ⟨fun b o e n hb hx => ?_, fun b o e n hb hx => ?_, I.base.free, fun b o e hx => ?_, I.base.tups, I.base.frzs, I.base.tbls⟩, ⟨_, hn', fun j y v' e1 e2 e3 => ?_⟩, fun y c e => ?_, I.free, I.freeC, fun p hp => ?_, tracked ⟨oL, hoL, I.free⟩ hs, by simpa using I.len⟩ ⟨_, hs, .inl rfl⟩
    · exact (hs.2 b (Nat.ne_of_lt (Nat.lt_of_lt_of_le (Heap.lt_size e) I.ok.above))).trans (I.base.keep b o e n hb hx)
    · obtain ⟨sl, e1⟩ := I.base.slot b o e n hb hx
      exact ⟨sl, (hs.2 b (Nat.ne_of_lt (Nat.lt_of_lt_of_le (Heap.lt_size e) I.ok.above))).trans e1⟩
    · obtain ⟨o', e1⟩ := I.base.there b o e hx
      exact ⟨o', (hs.2 b (Nat.ne_of_lt (Nat.lt_of_lt_of_le (Heap.lt_size e) I.ok.above))).trans e1⟩
    · by_cases hj : j = i
      · subst hj
        rw [hi] at e1; cases e1
        rw [List.getElem?_set_self hiσ] at e2
        cases e2
        exact ⟨u, r, .inl ⟨hk, by simp⟩⟩
      · rw [List.getElem?_set_ne (Ne.symm hj)] at e2
        obtain ⟨u', r', q⟩ := hl j y v' e1 e2 e3
        refine ⟨u', r', ?_⟩
        rcases q with ⟨k, e⟩ | ⟨k, c, e, z⟩
        · refine .inl ⟨k, ?_⟩
          have : y ≠ x := fun e => hj (nodup_ix hN e1 (e ▸ hi))
          simp [this, e]
        · exact .inr ⟨k, c, e, z.sameBut hs (cne y c e)⟩
    · obtain ⟨w', z⟩ := I.cell y c e
      exact ⟨w', z.sameBut hs (cne y c e)⟩
    · obtain ⟨e, n, ne, nf, d⟩ := I.pin p hp
      exact ⟨(hs.2 p.1 ne).trans e, n, ne, nf, d⟩
  · have hfn : X.fn x = true := by
      rcases hf with z | z
      · exact z
      · rw [z] at hk; cases hk
    obtain ⟨c, hc⟩ := I.ok.has x (.inl hk)
    obtain ⟨w', z⟩ := I.cell x c hc
    refine wpAny_storeName_cell I.ok.kind hk hc z (fun h' hc' hs => ?_)
    obtain ⟨oc, hoc, hocd⟩ := id z
    refine h { s with heap := h' } ⟨I.ok, I.os, I.bare, ⟨fun b o e n hb hx => ?_, fun b o e n hb hx => ?_, I.base.free, fun b o e hx => ?_, I.base.tups, I.base.frzs, I.base.tbls⟩, ⟨m, hn.sameBut hs (Ne.symm (cne x c hc)), fun j y v' e1 e2 e3 => ?_⟩, fun y c' e => ?_, I.free, I.freeC, fun p hp => ?_, tracked ⟨oc, hoc, I.freeC x c hc⟩ hs, by simpa using I.len⟩ ⟨c, hs, .inr hc⟩
    · exact (hs.2 b (Nat.ne_of_lt (Nat.lt_of_lt_of_le (Heap.lt_size e) (I.ok.cab x c hfn hc)))).trans (I.base.keep b o e n hb hx)
    · obtain ⟨sl, e1⟩ := I.base.slot b o e n hb hx
      exact ⟨sl, (hs.2 b (Nat.ne_of_lt (Nat.lt_of_lt_of_le (Heap.lt_size e) (I.ok.cab x c hfn hc)))).trans e1⟩
    · obtain ⟨o', e1⟩ := I.base.there b o e hx
      exact ⟨o', (hs.2 b (Nat.ne_of_lt (Nat.lt_of_lt_of_le (Heap.lt_size e) (I.ok.cab x c hfn hc)))).trans e1⟩
    · by_cases hj : j = i
      · subst hj
        rw [hi] at e1; cases e1
        rw [List.getElem?_set_self hiσ] at e2
        cases e2
        exact ⟨u, r, .inr ⟨.inl hk, c, hc, hc'⟩⟩
      · rw [List.getElem?_set_ne (Ne.symm hj)] at e2
        obtain ⟨u', r', q⟩ := hl j y v' e1 e2 e3
        refine ⟨u', r', ?_⟩
        rcases q with q | ⟨k, c', e, z'⟩
        · exact .inl q
        · refine .inr ⟨k, c', e, z'.sameBut hs ?_⟩
          rintro rfl
          exact hj (nodup_ix hN e1 (I.ok.inj _ _ _ e hc ▸ hi))
    · by_cases hcc : c' = c
      · subst hcc; exact ⟨_, hc'⟩
      · obtain ⟨w2, z2⟩ := I.cell y c' e
        exact ⟨w2, z2.sameBut hs hcc⟩
    · obtain ⟨e, n, ne, nf, d⟩ := I.pin p hp
      refine ⟨(hs.2 p.1 ?_).trans e, n, ne, nf, d⟩
      intro q
      rw [q, hoc] at e
      have q' : oc = p.2 := Option.some.inj e
      exact d w' (by rw [← q']; exact hocd)
theorem store_ok {M : Model} {A : Around} {E : Value → Shared → Prop} {i : Nat} {x : Str} {v : V} {u : Value} {Q : Unit → Shared → Prop} (I : Inv X pins σ H s) (hN : X.N.Nodup) (hi : X.N[i]? = some x) (hx : Loc X.env.scope x) (r : RelV v u)
    (h : ∀ s', Inv X pins (σ.set i (some v)) H s' → Q () s') (hf : X.fn x = true ∨ X.env.scope.names.lookup x = some .local := by first | exact .inl rfl | exact .inr rfl | assumption) : wpAny M A (storeName X.env x u) Q E s :=
  store_ok2 I hN hi hx r (fun s' I' _ => h s' I') hf
/-- behind a call or a block, the state as it is -/
theorem Inv.call' {s' : Shared} {ch : List Addr} (I : Inv X pins σ H s) (ho : s'.os = s.os) (u : Un (frs X.stack) ch H H' s.heap s'.heap) (hok : HOk X.prog X.w H' s'.heap) (hg : AllBare s'.gens)
    (hch : ∀ b ∈ ch, (b ∈ X.ex ∨ X.s₀.heap.objs.size ≤ b) ∧ b ≠ X.env.locals ∧ (∀ x c, X.env.cells.lookup x = some c → c ≠ b) ∧ ∀ p ∈ X.pn ++ pins, p.1 ≠ b) : Inv X pins σ H' s' := by
  obtain ⟨h', g', d', t', o'⟩ := s'
  have e : o' = s.os := ho
  subst e
  exact I.call (g' := g') (t' := t') (d' := d') u hok hg hch
end

/-! ### the judgements -/
/-- an exception: its class, its own dict's address (where it has one), the abstract heap behind it -/
abbrev XK := Value → Option Addr → Hp → Prop
abbrev St := List (Option V)
abbrev VK := V → Hp → Prop
/-- an expression's reading; a test's; an argument list's -/
abbrev TE := St → Hp → VK → Prop
abbrev TT := St → Hp → (Bool → Hp → Prop) → Prop
abbrev TA := St → Hp → (List V → Hp → Prop) → Prop
/-- what is wanted behind a statement -/
structure Ends where
  nx : St → Hp → Prop
  rt : VK
  bk : St → Hp → Prop := fun _ _ => False
  ct : St → Hp → Prop := fun _ _ => False
abbrev TS := Ends → St → Hp → Prop

def EP (X : Cx) (pins : List (Addr × Obj)) (σ : St) (Q : VK) (u : Value) (s' : Shared) : Prop := ∃ v H', Inv X pins σ H' s' ∧ RelV v u ∧ Q v H'
def TP (X : Cx) (pins : List (Addr × Obj)) (σ : St) (Q : Bool → Hp → Prop) (b : Bool) (s' : Shared) : Prop := ∃ H', Inv X pins σ H' s' ∧ Q b H'
def AP (X : Cx) (pins : List (Addr × Obj)) (σ : St) (Q : List V → Hp → Prop) (us : List Value) (s' : Shared) : Prop := ∃ vs H', Inv X pins σ H' s' ∧ Vals vs us ∧ Q vs H'
def SP (X : Cx) (pins : List (Addr × Obj)) (D : Ends) (f : Flow) (s' : Shared) : Prop :=
  match f with
  | .next => ∃ σ' H', Inv X pins σ' H' s' ∧ D.nx σ' H'
  | .brk => ∃ σ' H', Inv X pins σ' H' s' ∧ D.bk σ' H'
  | .cont => ∃ σ' H', Inv X pins σ' H' s' ∧ D.ct σ' H'
  | .ret u => ∃ v σ' H', Inv X pins σ' H' s' ∧ RelV v u ∧ D.rt v H'

def PE (X : Cx) (e : Expr) (t : TE) : Prop :=
  ∀ (pins : List (Addr × Obj)) (s : Shared) (σ : St) (H : Hp) (Q : VK), Inv X pins σ H s → t σ H Q → wpAny (model X.prog X.w) X.A (eval e X.env) (EP X pins σ Q) X.xe s
def PT (X : Cx) (e : Expr) (t : TT) : Prop :=
  ∀ (pins : List (Addr × Obj)) (s : Shared) (σ : St) (H : Hp) (Q : Bool → Hp → Prop), Inv X pins σ H s → t σ H Q → wpAny (model X.prog X.w) X.A (isTrue e X.env (eval e X.env)) (TP X pins σ Q) X.xe s
/-- a test whatever its 'whole' is (and, or) -/
def PW (X : Cx) (e : Expr) (t : TT) : Prop :=
  ∀ (whole : Sem Value) (pins : List (Addr × Obj)) (s : Shared) (σ : St) (H : Hp) (Q : Bool → Hp → Prop), Inv X pins σ H s → t σ H Q → wpAny (model X.prog X.w) X.A (isTrue e X.env whole) (TP X pins σ Q) X.xe s
theorem PW.pt {X : Cx} {e : Expr} {t : TT} (h : PW X e t) : PT X e t := h _
/-- an argument list (no star), from the left -/
def PA (X : Cx) (es : List Expr) (t : TA) : Prop :=
  ∀ (pos : Pos) (pins : List (Addr × Obj)) (s : Shared) (σ : St) (H : Hp) (Q : List V → Hp → Prop), Inv X pins σ H s → t σ H Q → wpAny (model X.prog X.w) X.A (spliced (backTo pos (starEach es X.env))) (AP X pins σ Q) X.xe s
def PS (X : Cx) (st : Stmt) (t : TS) : Prop :=
  ∀ (pins : List (Addr × Obj)) (s : Shared) (σ : St) (H : Hp) (D : Ends), Inv X pins σ H s → t D σ H → wpAny (model X.prog X.w) X.A (exec st X.env) (SP X pins D) X.xe s
def PSs (X : Cx) (st : List Stmt) (t : TS) : Prop :=
  ∀ (pins : List (Addr × Obj)) (s : Shared) (σ : St) (H : Hp) (D : Ends), Inv X pins σ H s → t D σ H → wpAny (model X.prog X.w) X.A (execs st X.env) (SP X pins D) X.xe s
/-- weaken the end -/
theorem thn {α : Type} {t : Sem α} {Q Q' : α → Shared → Prop} {M : Model} {A : Around} {E : Value → Shared → Prop} {s : Shared} (h : wpAny M A t Q E s) (hQ : ∀ a s, Q a s → Q' a s) : wpAny M A t Q' E s := wpAny_mono h hQ fun _ _ x => x
end L2

namespace L2
open PySem PySem.Spec PyProof.Rows
section
variable {X : Cx}

/-- two expressions in a row -/
theorem bin {a b : Expr} {ta tb : TE} (ha : PE X a ta) (hb : PE X b tb) {pins : List (Addr × Obj)} {s : Shared} {σ : St} {H : Hp} {R : V → V → Hp → Prop} (I : Inv X pins σ H s) (h : ta σ H fun x H1 => tb σ H1 fun y H2 => R x y H2)
    {α : Type} {Q : α → Shared → Prop} {f : Value → Value → Sem α}
    (hf : ∀ v u s2 x y H2, Inv X pins σ H2 s2 → RelV x v → RelV y u → R x y H2 → wpAny (model X.prog X.w) X.A (f v u) Q X.xe s2) :
    wpAny (model X.prog X.w) X.A (eval a X.env) (fun v s₁ => wpAny (model X.prog X.w) X.A (eval b X.env) (fun u s₂ => wpAny (model X.prog X.w) X.A (f v u) Q X.xe s₂) X.xe s₁) X.xe s := by
  refine thn (ha pins s σ H _ I h) fun v s1 ⟨x, H1, I1, r1, q1⟩ => ?_
  refine thn (hb pins s1 σ H1 _ I1 q1) fun u s2 ⟨y, H2, I2, r2, q2⟩ => ?_
  exact hf v u s2 x y H2 I2 r1 r2 q2

/-! ### names and constants -/
def tVar (i : Nat) : TE := fun σ H Q => ∃ v, σ[i]? = some (some v) ∧ Q v H
def tC (v : V) : TE := fun _ H Q => Q v H
theorem pe_var {i : Nat} {x : Str} {pos : Pos} (hN : X.N[i]? = some x) (hv : Vis X.env.scope x) (hd : (x == ("__debug__" : Str)) = false := by decide) (hcd : (x == ("__classdict__" : Str)) = false := by decide) : PE X (.Name x pos) (tVar i) := by
  intro pins s σ H Q I h
  obtain ⟨v, e, h⟩ := h
  obtain ⟨m, hn, hl⟩ := I.loc
  obtain ⟨u, r, l⟩ := hl i x v hN e hv
  have fin : EP X pins σ Q u s := ⟨v, H, I, r, h⟩
  rcases l with ⟨hk, hm⟩ | ⟨hk, c, hc, hcell⟩
  · exact wpAny_Name (wpAny_loadName_local I.ok.kind hk hn hm fin) hd
  · rcases hk with hk | hk
    · exact wpAny_Name (wpAny_loadName_cell I.ok.kind hk hc hcell fin) hd
    · exact wpAny_Name (wpAny_loadName_free I.ok.kind hk hc hcell fin hcd) hd
theorem pe_int {i j pos} : PE X (.Constant (.int i) j pos) (tC (.int i)) := fun _ _ _ H _ I h => wpAny_Constant_int ⟨.int i, H, I.tok _, ⟨_, rfl⟩, h⟩
theorem pe_bl {b j pos} : PE X (.Constant (.bool b) j pos) (tC (.bl b)) := fun _ _ _ H _ I h => Constant_bool ⟨.bl b, H, I, rfl, h⟩
theorem pe_non {j pos} : PE X (.Constant .none j pos) (tC .non) := fun _ _ _ H _ I h => Constant_none ⟨.non, H, I, rfl, h⟩
theorem pe_str {x j pos} : PE X (.Constant (.str x) j pos) (tC (.str x)) := fun _ _ _ H _ I h => Calls.Constant_str ⟨.str x, H, I.tok _, ⟨_, rfl⟩, h⟩

/-- a global name of the def -/
def Gl (X : Cx) (x : Str) : Prop := X.env.kindOf x = some .globalImplicit
theorem ld_glob {E : Value → Shared → Prop} {pins : List (Addr × Obj)} {s : Shared} {σ : St} {H : Hp} {x : Str} {u : Value} {pos : Pos} {Q : Value → Shared → Prop} (I : Inv X pins σ H s) (hg : Gl X x) (hm : X.mg x = some u) (h : Q u s)
    (hd : (x == ("__debug__" : Str)) = false := by decide) : wpAny (model X.prog X.w) X.A (eval (.Name x pos) X.env) Q E s :=
  Calls.Name_function_global I.ok.kind hg (Calls.loadGlobal_global (by rw [I.ok.glob]; exact I.mod.glob.keeps I.bk) hm h) hd
theorem ld_blt {E : Value → Shared → Prop} {pins : List (Addr × Obj)} {s : Shared} {σ : St} {H : Hp} {x : Str} {u : Value} {pos : Pos} {Q : Value → Shared → Prop} (I : Inv X pins σ H s) (hg : Gl X x) (hm : X.mg x = none) (hv : bootBuiltins x = some u) (h : Q u s)
    (hn : x ≠ "__name__" := by decide) (hd : (x == ("__debug__" : Str)) = false := by decide) : wpAny (model X.prog X.w) X.A (eval (.Name x pos) X.env) Q E s := by
  obtain ⟨mb, h1, h2⟩ := I.mod.blt
  exact Calls.Name_function_global I.ok.kind hg (Calls.loadGlobal_builtin (by rw [I.ok.glob]; exact I.mod.glob.keeps I.bk) hm (by rw [I.ok.blt]; exact h1.keeps I.bk) ((h2 x hn).trans hv) h) hd
/-- a module's constant, a class, a function, as a value -/
theorem pe_glob {x : Str} {v : V} {u : Value} {pos : Pos} (hg : Gl X x) (hm : X.mg x = some u) (r : RelV v u) (hd : (x == ("__debug__" : Str)) = false := by decide) : PE X (.Name x pos) (tC v) :=
  fun _ _ _ H _ I h => ld_glob I hg hm ⟨v, H, I, r, h⟩ hd
theorem pe_bltn {x : Str} {v : V} {u : Value} {pos : Pos} (hg : Gl X x) (hm : X.mg x = none) (hv : bootBuiltins x = some u) (r : RelV v u) (hn : x ≠ "__name__" := by decide) (hd : (x == ("__debug__" : Str)) = false := by decide) : PE X (.Name x pos) (tC v) :=
  fun _ _ _ H _ I h => ld_blt I hg hm hv ⟨v, H, I, r, h⟩ hn hd

variable {a b : Expr} {ta tb : TE} {pos : Pos}
/-- a comparison as a value, as a test -/
def tB (t : TE) : TT := fun σ H Q => t σ H fun x H1 => ∃ c, x = .bl c ∧ Q c H1
/-! ### and, or, not -/
variable {tA tB' : TT} {rest : List Expr}
def tAnd (t u : TT) : TT := fun σ H Q => t σ H fun c H1 => if c = true then u σ H1 Q else Q false H1
def tOr (t u : TT) : TT := fun σ H Q => t σ H fun c H1 => if c = true then Q true H1 else u σ H1 Q
def tNot (t : TT) : TT := fun σ H Q => t σ H fun c H1 => Q (!c) H1
theorem pw_and1 (ha : PT X a tA) : PW X (.BoolOp .And [a] pos) tA := by
  intro wh pins s σ H Q I h
  refine isTrue_and (thn (ha pins s σ H Q I h) fun c s1 e => ?_)
  cases c with
  | true => exact isTrue_and_nil e
  | false => exact e
theorem pw_or1 (ha : PT X a tA) : PW X (.BoolOp .Or [a] pos) tA := by
  intro wh pins s σ H Q I h
  refine isTrue_or (thn (ha pins s σ H Q I h) fun c s1 e => ?_)
  cases c with
  | false => exact isTrue_or_nil e
  | true => exact e
theorem pw_and (ha : PT X a tA) (hb : PW X (.BoolOp .And (b :: rest) pos) tB') : PW X (.BoolOp .And (a :: b :: rest) pos) (tAnd tA tB') := by
  intro wh pins s σ H Q I h
  refine isTrue_and (thn (ha pins s σ H _ I h) fun c s1 ⟨H1, I1, q1⟩ => ?_)
  cases c with
  | true => exact hb wh pins s1 σ H1 Q I1 q1
  | false => exact ⟨H1, I1, q1⟩
theorem pw_or (ha : PT X a tA) (hb : PW X (.BoolOp .Or (b :: rest) pos) tB') : PW X (.BoolOp .Or (a :: b :: rest) pos) (tOr tA tB') := by
  intro wh pins s σ H Q I h
  refine isTrue_or (thn (ha pins s σ H _ I h) fun c s1 ⟨H1, I1, q1⟩ => ?_)
  cases c with
  | true => exact ⟨H1, I1, q1⟩
  | false => exact hb wh pins s1 σ H1 Q I1 q1
theorem pt_not (ha : PT X a tA) : PT X (.UnaryOp .Not a pos) (tNot tA) := by
  intro pins s σ H Q I h
  exact isTrue_not (ha pins s σ H (fun c H1 => Q (!c) H1) I h)
/-- .. as values (bools) -/
def tAndV (ta tb : TE) : TE := fun σ H Q => ta σ H fun x H1 => ∃ c, x = .bl c ∧ if c = true then tb σ H1 Q else Q (.bl false) H1
def tOrV (ta tb : TE) : TE := fun σ H Q => ta σ H fun x H1 => ∃ c, x = .bl c ∧ if c = true then Q (.bl true) H1 else tb σ H1 Q
def tNotV (ta : TE) : TE := fun σ H Q => ta σ H fun x H1 => ∃ c, x = .bl c ∧ Q (.bl (!c)) H1
theorem pe_one {op} {t : TE} (h : PE X a t) : PE X (.BoolOp op [a] pos) t := fun pins s σ H Q I hw => BoolOp_one (h pins s σ H Q I hw)
theorem pe_and (ha : PE X a ta) (hb : PE X (.BoolOp .And (b :: rest) pos) tb) : PE X (.BoolOp .And (a :: b :: rest) pos) (tAndV ta tb) := by
  intro pins s σ H Q I h
  refine BoolOp_and (thn (ha pins s σ H _ I h) fun v s1 ⟨x, H1, I1, r1, q1⟩ => ?_)
  obtain ⟨c, rfl, q1⟩ := q1
  cases r1
  refine wpAny_truthy_bool ?_
  cases c with
  | true => exact hb pins s1 σ H1 Q I1 q1
  | false => exact ⟨.bl false, H1, I1, rfl, q1⟩
theorem pe_or (ha : PE X a ta) (hb : PE X (.BoolOp .Or (b :: rest) pos) tb) : PE X (.BoolOp .Or (a :: b :: rest) pos) (tOrV ta tb) := by
  intro pins s σ H Q I h
  refine BoolOp_or (thn (ha pins s σ H _ I h) fun v s1 ⟨x, H1, I1, r1, q1⟩ => ?_)
  obtain ⟨c, rfl, q1⟩ := q1
  cases r1
  refine wpAny_truthy_bool ?_
  cases c with
  | false => exact hb pins s1 σ H1 Q I1 q1
  | true => exact ⟨.bl true, H1, I1, rfl, q1⟩
theorem pe_not (ha : PE X a ta) : PE X (.UnaryOp .Not a pos) (tNotV ta) := by
  intro pins s σ H Q I h
  refine UnaryOp_ (thn (ha pins s σ H _ I h) fun v s1 ⟨x, H1, I1, r1, q1⟩ => ?_)
  obtain ⟨c, rfl, q1⟩ := q1
  cases r1
  exact not_of (wpAny_truthy_bool ⟨.bl (!c), H1, I1, rfl, q1⟩)
/-- a if t else b -/
def tIf (t : TT) (ta tb : TE) : TE := fun σ H Q => t σ H fun c H1 => if c = true then ta σ H1 Q else tb σ H1 Q
theorem pe_ifExp {c : Expr} (hc : PT X c tA) (ha : PE X a ta) (hb : PE X b tb) : PE X (.IfExp c a b pos) (tIf tA ta tb) := by
  intro pins s σ H Q I h
  refine wpAny_IfExp (thn (hc pins s σ H _ I h) fun d s1 ⟨H1, I1, q1⟩ => ?_)
  cases d with
  | true => exact ha pins s1 σ H1 Q I1 q1
  | false => exact hb pins s1 σ H1 Q I1 q1
end
end L2

namespace L2
open PySem PySem.Spec PyProof.Rows

/-! ### a list, a tuple that is read: tracked, frozen, or an object of the module -/
def SqL (K : PySem.W.Frag) (H : Hp) (a : Addr) (xs : List V) : Prop :=
  Rd H a (.lst xs) ∨
    ∃ (o : Obj) (its : Array Value) (n : Nat), K.lookup a = some o ∧ o.cls = .type "list" ∧ o.dict = none ∧ o.data = .seq its n ∧ its.size ≤ sizeLine ∧ Vals xs its.toList
def SqT (K : PySem.W.Frag) (H : Hp) (a : Addr) (xs : List V) : Prop :=
  Rd H a (.tup xs) ∨
    ∃ (o : Obj) (its : Array Value) (n : Nat), K.lookup a = some o ∧ o.cls = .type "tuple" ∧ o.data = .seq its n ∧ its.size ≤ sizeLine ∧ Vals xs its.toList
def absV : Value → Option V
  | .none => some .non
  | .bool b => some (.bl b)
  | .int i _ => some (.int i)
  | .str x _ => some (.str x)
  | .bytes b _ => some (.byt b)
  | .float b _ => some (.flt b)
  | .ref a => some (.ref a)
  | .type n => some (.ty n)
  | _ => none
theorem RelV.abs {x : V} {u : Value} (r : RelV x u) : absV u = some x := by
  cases x with
  | non => cases r; rfl
  | bl _ => cases r; rfl
  | int _ => obtain ⟨t, rfl⟩ := r; rfl
  | str _ => obtain ⟨t, rfl⟩ := r; rfl
  | byt _ => obtain ⟨t, rfl⟩ := r; rfl
  | flt _ => obtain ⟨t, rfl⟩ := r; rfl
  | ref _ => cases r; rfl
  | ty _ => cases r; rfl
theorem RelV.inj {x y : V} {u : Value} (r : RelV x u) (q : RelV y u) : x = y := Option.some.inj (r.abs.symm.trans q.abs)
theorem Vals.inj : ∀ {xs ys : List V} {us : List Value}, Vals xs us → Vals ys us → xs = ys
  | _, _, _, .nil, .nil => rfl
  | _, _, _, .cons r t, .cons r' t' => by rw [r.inj r', Vals.inj t t']
section
variable {X : Cx} {pins : List (Addr × Obj)} {σ : St} {H : Hp} {s : Shared} {a : Addr} {xs ys : List V}
theorem SqL.of {K : PySem.W.Frag} (h : H a = some (.lst xs)) : SqL K H a xs := .inl (.inl h)
theorem SqT.of {K : PySem.W.Frag} (h : H a = some (.tup xs)) : SqT K H a xs := .inl (.inl h)
theorem Inv.list (I : Inv X pins σ H s) (h : SqL X.K H a xs) : ∃ its : List Value, Vals xs its ∧ PlainL s.heap a its.toArray ∧ xs.length ≤ sizeLine := by
  rcases h with h | ⟨o, its, n, hk, hc, hd, hs, hz, r⟩
  · obtain ⟨z, its, n, r, e⟩ := h.ok I.hok
    exact ⟨its, r, ⟨_, n, e, rfl, rfl, rfl⟩, z⟩
  · refine ⟨its.toList, r, ⟨o, n, I.kIn a o hk, hc, hd, by simpa using hs⟩, ?_⟩
    have e := r.length
    simp only [Array.length_toList] at e
    omega
theorem Inv.tuple (I : Inv X pins σ H s) (h : SqT X.K H a xs) : ∃ its : List Value, Vals xs its ∧ IsTup s.heap a its.toArray ∧ xs.length ≤ sizeLine := by
  rcases h with h | ⟨o, its, n, hk, hc, hs, hz, r⟩
  · obtain ⟨z, its, r, p⟩ := h.ok I.hok
    exact ⟨its, r, p, z⟩
  · refine ⟨its.toList, r, ⟨o, I.kIn a o hk, hc, n, by simpa using hs⟩, ?_⟩
    have e := r.length
    simp only [Array.length_toList] at e
    omega
theorem Inv.list_inj (I : Inv X pins σ H s) (h : SqL X.K H a xs) (h' : SqL X.K H a ys) : xs = ys := by
  obtain ⟨its, r, ⟨o, n, e, _, _, d⟩, _⟩ := I.list h
  obtain ⟨its', r', ⟨o', n', e', _, _, d'⟩, _⟩ := I.list h'
  rw [e] at e'; cases e'
  rw [d] at d'
  injection d' with d1 _
  have : its = its' := by simpa using congrArg Array.toList d1
  subst this
  exact r.inj r'
theorem Inv.tuple_inj (I : Inv X pins σ H s) (h : SqT X.K H a xs) (h' : SqT X.K H a ys) : xs = ys := by
  obtain ⟨its, r, ⟨o, e, _, n, d⟩, _⟩ := I.tuple h
  obtain ⟨its', r', ⟨o', e', _, n', d'⟩, _⟩ := I.tuple h'
  rw [e] at e'; cases e'
  rw [d] at d'
  injection d' with d1 _
  have : its = its' := by simpa using congrArg Array.toList d1
  subst this
  exact r.inj r'
end

/-! ### another wish about exceptions -/
abbrev Cx.wish (X : Cx) (E : Value → Shared → Prop) : Cx := { X with xe := E }
/-- no exception leaves -/
abbrev Cx.nox (X : Cx) : Cx := X.wish fun _ _ => False
theorem Cx.Ok.wish {X : Cx} (ok : X.Ok) (E : Value → Shared → Prop) : (X.wish E).Ok :=
  ⟨ok.mod, ok.kind, ok.glob, ok.blt, ok.above, ok.inj, ok.has, ok.cab, ok.hd, ok.frames, ok.stk, ok.exf, ok.bs, ok.bsz, ok.noex, ok.exfs, ok.funs, ok.frf⟩
theorem Cx.Ok.unwish {X : Cx} {E : Value → Shared → Prop} (ok : (X.wish E).Ok) : X.Ok :=
  ⟨ok.mod, ok.kind, ok.glob, ok.blt, ok.above, ok.inj, ok.has, ok.cab, ok.hd, ok.frames, ok.stk, ok.exf, ok.bs, ok.bsz, ok.noex, ok.exfs, ok.funs, ok.frf⟩
section
variable {X : Cx} {pins : List (Addr × Obj)} {σ : St} {H : Hp} {s : Shared} {E : Value → Shared → Prop}
theorem Inv.wish (I : Inv X pins σ H s) (E : Value → Shared → Prop) : Inv (X.wish E) pins σ H s := ⟨I.ok.wish E, I.os, I.bare, I.base, I.loc, I.cell, I.free, I.freeC, I.pin, I.hok, I.len⟩
theorem Inv.unwish (I : Inv (X.wish E) pins σ H s) : Inv X pins σ H s := ⟨I.ok.unwish, I.os, I.bare, I.base, I.loc, I.cell, I.free, I.freeC, I.pin, I.hok, I.len⟩
theorem SP.unwish {D : Ends} {f : Flow} {s' : Shared} (h : SP (X.wish E) pins D f s') : SP X pins D f s' := by
  cases f with
  | next => obtain ⟨σ', H', I, q⟩ := h; exact ⟨σ', H', I.unwish, q⟩
  | brk => obtain ⟨σ', H', I, q⟩ := h; exact ⟨σ', H', I.unwish, q⟩
  | cont => obtain ⟨σ', H', I, q⟩ := h; exact ⟨σ', H', I.unwish, q⟩
  | ret u => obtain ⟨v, σ', H', I, r, q⟩ := h; exact ⟨v, σ', H', I.unwish, r, q⟩
theorem PE.nox {e : Expr} {t : TE} (h : PE X.nox e t) : PE X e t := fun pins s σ H Q I hw =>
  wpAny_mono (h pins s σ H Q (I.wish _) hw) (fun _ _ ⟨v, H', I', r, q⟩ => ⟨v, H', I'.unwish, r, q⟩) fun _ _ z => False.elim z
theorem PT.nox {e : Expr} {t : TT} (h : PT X.nox e t) : PT X e t := fun pins s σ H Q I hw =>
  wpAny_mono (h pins s σ H Q (I.wish _) hw) (fun _ _ ⟨H', I', q⟩ => ⟨H', I'.unwish, q⟩) fun _ _ z => False.elim z
theorem PSs.nox {st : List Stmt} {t : TS} (h : PSs X.nox st t) : PSs X st t := fun pins s σ H D I hw =>
  wpAny_mono (h pins s σ H D (I.wish _) hw) (fun _ _ q => q.unwish) fun _ _ z => False.elim z
end

/-! ### blocks and small statements -/
section
variable {X : Cx} {st : Stmt} {rest : List Stmt} {t u : TS} {e : Expr} {te : TE} {pos : Pos}
def tNext : TS := fun D σ H => D.nx σ H
def tSeq (t u : TS) : TS := fun D σ H => t { D with nx := u D } σ H
theorem pss_nil : PSs X [] tNext := fun _ _ σ H _ I h => wpAny_execs_nil ⟨σ, H, I, h⟩
theorem pss_cons (h1 : PS X st t) (h2 : PSs X rest u) : PSs X (st :: rest) (tSeq t u) := by
  intro pins s σ H D I h
  refine wpAny_execs_cons (thn (h1 pins s σ H { D with nx := u D } I h) fun f s1 q => ?_)
  cases f with
  | next =>
    obtain ⟨σ', H', I', q⟩ := q
    exact h2 pins s1 σ' H' D I' q
  | ret v => exact q
  | brk => exact q
  | cont => exact q
def tBreak : TS := fun D σ H => D.bk σ H
def tCont : TS := fun D σ H => D.ct σ H
theorem ps_pass : PS X (.Pass pos) tNext := fun _ _ σ H _ I h => wpAny_Pass ⟨σ, H, I, h⟩
theorem ps_break : PS X (.Break pos) tBreak := fun _ _ σ H _ I h => wpAny_Break ⟨σ, H, I, h⟩
theorem ps_continue : PS X (.Continue pos) tCont := fun _ _ σ H _ I h => wpAny_Continue ⟨σ, H, I, h⟩
/-- in a def's body nothing is shown -/
theorem Inv.quiet {pins : List (Addr × Obj)} {σ : St} {H : Hp} {s : Shared} (I : Inv X pins σ H s) : interactive X.env = false := by simp [interactive, I.ok.kind]
/-- an expression whose value is dropped -/
def tDrop (te : TE) : TS := fun D σ H => te σ H fun _ H1 => D.nx σ H1
theorem ps_expr (he : PE X e te) (hs : swapsWith e none pos.line X.env = pure false := by rfl) : PS X (.Expr e pos) (tDrop te) := by
  intro pins s σ H D I h
  exact wpAny_Expr_any (thn (he pins s σ H _ I h) fun v s1 ⟨x, H1, I1, r1, q1⟩ => ⟨σ, H1, I1, q1⟩) I.quiet hs
def tRet (te : TE) : TS := fun D σ H => te σ H D.rt
theorem ps_ret (he : PE X e te) : PS X (.Return (some e) pos) (tRet te) := by
  intro pins s σ H D I h
  exact wpAny_Return_some (thn (he pins s σ H _ I h) fun v s1 ⟨x, H1, I1, r1, q1⟩ => ⟨x, σ, H1, I1, r1, q1⟩)
def tIfS (c : TT) (t u : TS) : TS := fun D σ H => c σ H fun b H1 => if b = true then t D σ H1 else u D σ H1
theorem ps_if {c : Expr} {a b : List Stmt} {tc : TT} (hc : PT X c tc) (ha : PSs X a t) (hb : PSs X b u) : PS X (.If c a b pos) (tIfS tc t u) := by
  intro pins s σ H D I h
  refine wpAny_If (thn (hc pins s σ H _ I h) fun d s1 ⟨H1, I1, q1⟩ => ?_)
  cases d with
  | true => exact ha pins s1 σ H1 D I1 q1
  | false => exact hb pins s1 σ H1 D I1 q1
end

/-! ### targets -/
abbrev TG := V → St → Hp → (St → Hp → Prop) → Prop
abbrev TGs := List V → St → Hp → (St → Hp → Prop) → Prop
def PG (X : Cx) (target : Expr) (t : TG) : Prop :=
  ∀ (pins : List (Addr × Obj)) (s : Shared) (σ : St) (H : Hp) (v : V) (u : Value) (Q : St → Hp → Prop), Inv X pins σ H s → RelV v u → t v σ H Q →
    wpAny (model X.prog X.w) X.A (assign target X.env u) (fun _ s' => ∃ σ' H', Inv X pins σ' H' s' ∧ Q σ' H') X.xe s
/-- several targets, one after another -/
def PGs (X : Cx) (ts : List Expr) (t : TGs) : Prop :=
  ∀ (pins : List (Addr × Obj)) (s : Shared) (σ : St) (H : Hp) (vs : List V) (us : List Value) (Q : St → Hp → Prop), Inv X pins σ H s → Vals vs us → t vs σ H Q →
    wpAny (model X.prog X.w) X.A (assignInOrder ((assignEach ts X.env).map (·.2)) us) (fun _ s' => ∃ σ' H', Inv X pins σ' H' s' ∧ Q σ' H') X.xe s
/-- o[i] = v, by values -/
abbrev TSet := V → V → V → Hp → (Hp → Prop) → Prop
def PSet (X : Cx) (t : TSet) : Prop :=
  ∀ (pins : List (Addr × Obj)) (s : Shared) (σ : St) (H : Hp) (o i v : V) (ov iv u : Value) (Q : Hp → Prop), Inv X pins σ H s → RelV o ov → RelV i iv → RelV v u → t o i v H Q →
    wpAny (model X.prog X.w) X.A (setItem ov iv u) (fun _ s' => ∃ H', Inv X pins σ H' s' ∧ Q H') X.xe s
/-- a op= b, by values -/
abbrev TIp := V → V → Hp → VK → Prop
def PIp (X : Cx) (op : Operator) (t : TIp) : Prop :=
  ∀ (pins : List (Addr × Obj)) (s : Shared) (σ : St) (H : Hp) (x y : V) (v u : Value) (Q : VK), Inv X pins σ H s → RelV x v → RelV y u → t x y H Q →
    wpAny (model X.prog X.w) X.A (inplaceOp op v u) (EP X pins σ Q) X.xe s
section
variable {X : Cx} {pos : Pos}
def gName (i : Nat) : TG := fun v σ H Q => Q (σ.set i (some v)) H
theorem pg_name {i : Nat} {x : Str} (hN : X.N.Nodup) (hi : X.N[i]? = some x) (hx : Loc X.env.scope x) (hf : X.fn x = true ∨ X.env.scope.names.lookup x = some .local := by first | exact .inl rfl | exact .inr rfl | assumption) : PG X (.Name x pos) (gName i) := by
  intro pins s σ H v u Q I r h
  exact wpAny_assign_Name (store_ok I hN hi hx r (fun s' I' => ⟨_, H, I', h⟩) hf)
def gNil : TGs := fun vs σ H Q => vs = [] ∧ Q σ H
def gCons (t : TG) (u : TGs) : TGs := fun vs σ H Q => ∃ v r, vs = v :: r ∧ t v σ H fun σ' H' => u r σ' H' Q
theorem pgs_nil : PGs X [] gNil := by
  intro pins s σ H vs us Q I r h
  obtain ⟨e, h⟩ := h
  subst e
  cases r
  exact assignInOrder_nil ⟨σ, H, I, h⟩
theorem pgs_cons {e : Expr} {es : List Expr} {t : TG} {u : TGs} (h1 : PG X e t) (h2 : PGs X es u)
    (hs : (assignEach (e :: es) X.env).map (·.2) = assign e X.env :: (assignEach es X.env).map (·.2) := by rfl) : PGs X (e :: es) (gCons t u) := by
  intro pins s σ H vs us Q I r h
  obtain ⟨v, vr, e1, h⟩ := h
  subst e1
  cases r with
  | cons r rr =>
    rw [hs]
    refine assignInOrder_cons (thn (h1 pins s σ H _ _ _ I r h) fun _ s1 ⟨σ1, H1, I1, q1⟩ => ?_)
    exact h2 pins s1 σ1 H1 _ _ Q I1 rr q1
/-- (a, b, ..) = a tuple of that length -/
def gTup (K : PySem.W.Frag) (n : Nat) (t : TGs) : TG := fun v σ H Q => ∃ a xs, v = .ref a ∧ SqT K H a xs ∧ xs.length = n ∧ t xs σ H Q
theorem pg_tup {es : List Expr} {k : Nat} {t : TGs} {n : Nat} (hc : X.calm = true) (h : PGs X es t)
    (hn : (assignEach es X.env).length = n := by rfl) (hst : (assignEach es X.env).findIdx? (·.1) = none := by rfl) : PG X (.Tuple es k pos) (gTup X.K n t) := by
  intro pins s σ H v u Q I r hw
  obtain ⟨a, xs, e1, hq, hl, hw⟩ := hw
  subst e1
  cases r
  obtain ⟨its, rv, ht, hz⟩ := I.tuple hq
  refine assign_Tuple_tuple (I.ok.hd hc) ht (by simp [hn, ← hl, rv.length]) hst fun h' hx => ?_
  have I1 : Inv X pins σ H { s with heap := h' } := I.kept (t' := s.toks) fun b o e => hx b o (Nat.ne_of_lt (Heap.lt_size e)) e
  exact h pins _ σ H xs _ Q I1 (by simpa using rv) hw
/-- o[i] = .. -/
def gSub (to ti : TE) (t : TSet) : TG := fun v σ H Q => to σ H fun o H1 => ti σ H1 fun i H2 => t o i v H2 fun H3 => Q σ H3
theorem pg_sub {o i : Expr} {to ti : TE} {t : TSet} (ho : PE X o to) (hi : PE X i ti) (hs : PSet X t)
    (ha : ∀ v, assign (.Subscript o i pos) X.env v = (do
      let ov ← holding [v] (eval o X.env)
      let iv ← holding [v, ov] (eval i X.env)
      standAt pos
      holding [v, ov, iv] (setItem ov iv v)
      release [v, ov, iv] []) := by intro _; rfl) : PG X (.Subscript o i pos) (gSub to ti t) := by
  intro pins s σ H v u Q I r h
  rw [ha]
  refine wpAny_bind (wpAny_holding (thn (ho pins s σ H _ I h) fun ov s1 ⟨x, H1, I1, r1, q1⟩ => ?_))
  refine wpAny_bind (wpAny_holding (thn (hi pins s1 σ H1 _ I1 q1) fun iv s2 ⟨y, H2, I2, r2, q2⟩ => ?_))
  refine wpAny_bind (wpAny_standAt (wpAny_bind (wpAny_holding (thn (hs pins s2 σ H2 x y v ov iv u _ I2 r1 r2 r q2) fun _ s3 ⟨H3, I3, q3⟩ => ?_))))
  exact wpAny_release ⟨σ, H3, I3, q3⟩
/-- target = value -/
def tAsg (te : TE) (g : TG) : TS := fun D σ H => te σ H fun x H1 => g x σ H1 D.nx
theorem ps_asg {tg e : Expr} {te : TE} {g : TG} (he : PE X e te) (hg : PG X tg g) (hs : swapsWithSole [tg] e pos.line X.env = pure false := by rfl) (hw : swappedStores [tg] e X.env = pure none := by rfl)
    (h1 : (assignEach [tg] X.env).map (·.2) = [assign tg X.env] := by rfl) : PS X (.Assign [tg] e pos) (tAsg te g) := by
  intro pins s σ H D I h
  refine wpAny_Assign_stores (thn (he pins s σ H _ I h) fun v s1 ⟨x, H1, I1, r1, q1⟩ => ?_) hs hw
  rw [h1]
  exact thn (hg pins s1 σ H1 x v _ I1 r1 q1) fun _ s2 q => q
/-- a, b = x, y with plain local names: stored from the right; the pair itself is not tracked (the opening rows as in PyProof/Rows/TupAssign.lean:23) -/
def tPar (i j : Nat) (ta : TA) : TS := fun D σ H => ta σ H fun vs H1 => ∃ v w, vs = [v, w] ∧ D.nx ((σ.set i (some v)).set j (some w)) H1
theorem ps_par {i j : Nat} {x y : Str} {a b : Expr} {ta : TA} {px py pt : Pos} {kt k2 pt2} (hc : X.calm = true) (hN : X.N.Nodup) (hi : X.N[i]? = some x) (hj : X.N[j]? = some y) (hij : i ≠ j)
    (hx : X.env.scope.names.lookup x = some .local) (hy : X.env.scope.names.lookup y = some .local) (ha : PA X [a, b] ta)
    (hw : swappedStores [.Tuple [.Name x px, .Name y py] kt pt] (.Tuple [a, b] k2 pt2) X.env = pure (some [x, y]))
    (hs : swapsWithSole [.Tuple [.Name x px, .Name y py] kt pt] (.Tuple [a, b] k2 pt2) pos.line X.env = pure false := by rfl) :
    PS X (.Assign [.Tuple [.Name x px, .Name y py] kt pt] (.Tuple [a, b] k2 pt2) pos) (tPar i j ta) := by
  intro pins s σ H D I h
  rw [exec_Assign_arm]
  refine wpAny_bind (wpAny_standAt ?_)
  rw [hs]
  refine wpAny_bind (wpAny_pure ?_)
  rw [if_neg (by decide)]
  refine wpAny_bind (Tuple_ (thn (ha _ pins s σ H _ I h) fun us s1 ⟨vs, H1, I1, r1, q1⟩ => ?_))
  obtain ⟨v, w, e1, q1⟩ := q1
  subst e1
  obtain ⟨u1, u2, rfl, rv, rw'⟩ : ∃ u1 u2, us = [u1, u2] ∧ RelV v u1 ∧ RelV w u2 := by
    cases r1 with
    | cons p q =>
      cases q with
      | cons p' q' =>
        cases q'
        exact ⟨_, _, rfl, p, p'⟩
  refine wpAny_newObj_type ?_ (by show 2 ≤ sizeLine; decide)
  have I2 : Inv X pins σ H1 { s1 with heap := s1.heap.push { cls := .type "tuple", data := .seq [u1, u2].toArray } } := I1.kept (t' := s1.toks) fun b o e => Heap.get?_push_of_some _ e
  rw [hw]
  refine wpAny_bind (wpAny_pure ?_)
  show wpAny (model X.prog X.w) X.A (do rule "assign.swapped-stores"; let items ← unpackItems (.ref s1.heap.objs.size) 2 none; assignInOrder [fun v => bindName X.env y v, fun v => bindName X.env x v] items.reverse; pure Flow.next) _ _ _
  refine wpAny_bind (wpAny_rule (wpAny_bind (unpackItems_tuple (items := #[u1, u2]) (I.ok.hd hc) (IsTup.new s1.heap _) fun h' hx' => ?_)))
  have I3 := I2.kept (h' := h') (t' := s1.toks) fun b o e => hx' b o (Nat.ne_of_lt (Heap.lt_size e)) e
  show wpAny _ _ (assignInOrder [fun v => bindName X.env y v, fun v => bindName X.env x v] [u2, u1] >>= fun _ => pure Flow.next) _ _ _
  refine wpAny_bind (assignInOrder_cons (wpAny_bindName (store_ok I3 hN hj (.inl hy) rw' (fun s2 I4 => ?_) (.inr hy))))
  refine assignInOrder_cons (wpAny_bindName (store_ok I4 hN hi (.inl hx) rv (fun s3 I5 => assignInOrder_nil (wpAny_pure ?_)) (.inr hx)))
  rw [List.set_comm _ _ (Ne.symm hij)] at I5
  exact ⟨_, H1, I5, q1⟩
/-- name op= e -/
def tAug (i : Nat) (te : TE) (ti : TIp) : TS := fun D σ H => ∃ x, σ[i]? = some (some x) ∧ te σ H fun y H1 => ti x y H1 fun z H2 => D.nx (σ.set i (some z)) H2
theorem ps_aug {i : Nat} {x : Str} {e : Expr} {te : TE} {op : Operator} {ti : TIp} {pos' : Pos} (hN : X.N.Nodup) (hi : X.N[i]? = some x) (hx : Loc X.env.scope x) (he : PE X e te) (ho : PIp X op ti) (hf : X.fn x = true ∨ X.env.scope.names.lookup x = some .local := by first | exact .inl rfl | exact .inr rfl | assumption) :
    PS X (.AugAssign (.Name x pos') op e pos) (tAug i te ti) := by
  intro pins s σ H D I h
  obtain ⟨v, e1, h⟩ := h
  obtain ⟨m, hn, hl⟩ := I.loc
  have vis : Vis X.env.scope x := by rcases hx with k | k; exact .inl k; exact .inr (.inl k)
  obtain ⟨u, r, l⟩ := hl i x v hi e1 vis
  refine wpAny_AugAssign_Name ?_
  have go : wpAny (model X.prog X.w) X.A (eval e X.env) (fun w s₂ => wpAny (model X.prog X.w) X.A (inplaceOp op u w) (fun r s₃ => wpAny (model X.prog X.w) X.A (storeName X.env x r) (fun _ => SP X pins D .next) X.xe s₃) X.xe s₂) X.xe s := by
    refine thn (he pins s σ H _ I h) fun w s1 ⟨y, H1, I1, r1, q1⟩ => ?_
    refine thn (ho pins s1 σ H1 v y u w _ I1 r r1 q1) fun z s2 ⟨zv, H2, I2, r2, q2⟩ => ?_
    exact store_ok I2 hN hi hx r2 (fun s3 I3 => ⟨_, H2, I3, q2⟩) hf
  rcases l with ⟨hk, hm⟩ | ⟨hk, c, hc, hcell⟩
  · exact wpAny_loadName_local I.ok.kind hk hn hm go
  · rcases hk with hk | hk
    · exact wpAny_loadName_cell I.ok.kind hk hc hcell go
    · rcases hx with k | k
      · have : X.env.scope.names.lookup x = some .free := hk
        rw [k] at this; cases this
      · have : X.env.scope.names.lookup x = some .free := hk
        rw [k] at this; cases this
/-- o[i] op= e -/
def tAugS (to ti te : TE) (tget : V → V → Hp → VK → Prop) (tip : TIp) (tset : TSet) : TS := fun D σ H => to σ H fun o H1 => ti σ H1 fun i H2 => tget o i H2 fun x H3 => te σ H3 fun y H4 => tip x y H4 fun z H5 => tset o i z H5 fun H6 => D.nx σ H6
/-- o[i], by values -/
def PGet (X : Cx) (t : V → V → Hp → VK → Prop) : Prop :=
  ∀ (pins : List (Addr × Obj)) (s : Shared) (σ : St) (H : Hp) (o i : V) (ov iv : Value) (Q : VK), Inv X pins σ H s → RelV o ov → RelV i iv → t o i H Q →
    wpAny (model X.prog X.w) X.A (getItem ov iv) (EP X pins σ Q) X.xe s
theorem ps_augS {o i e : Expr} {to ti te : TE} {tget : V → V → Hp → VK → Prop} {tip : TIp} {tset : TSet} {op : Operator} {tpos : Pos} (ho : PE X o to) (hi : PE X i ti) (hg : PGet X tget) (he : PE X e te) (hp : PIp X op tip) (hs : PSet X tset)
    (ha : ∀ ov iv new, augStore i ov iv new = (do holding [new, ov, iv] (setItem ov iv new); release [new, ov, iv] []; pure .next) := by intros; rfl) : PS X (.AugAssign (.Subscript o i tpos) op e pos) (tAugS to ti te tget tip tset) := by
  intro pins s σ H D I h
  refine wpAny_AugAssign_SubscriptAny (thn (ho pins s σ H _ I h) fun ov s1 ⟨x1, H1, I1, r1, q1⟩ => ?_) ha
  refine thn (hi pins s1 σ H1 _ I1 q1) fun iv s2 ⟨x2, H2, I2, r2, q2⟩ => ?_
  refine thn (hg pins s2 σ H2 x1 x2 ov iv _ I2 r1 r2 q2) fun old s3 ⟨x3, H3, I3, r3, q3⟩ => ?_
  refine thn (he pins s3 σ H3 _ I3 q3) fun v s4 ⟨x4, H4, I4, r4, q4⟩ => ?_
  refine thn (hp pins s4 σ H4 x3 x4 old v _ I4 r3 r4 q4) fun new s5 ⟨x5, H5, I5, r5, q5⟩ => ?_
  exact thn (hs pins s5 σ H5 x1 x2 x5 ov iv new _ I5 r1 r2 r5 q5) fun _ s6 ⟨H6, I6, q6⟩ => ⟨σ, H6, I6, q6⟩
end

/-! ### while -/
section
variable {X : Cx} {pos : Pos}
/-- the invariant W with its measure -/
def tWhile (c : TT) (tb : TS) : TS := fun D σ H => ∃ W : Nat → St → Hp → Prop, (∃ m, W m σ H) ∧ ∀ m σ H, W m σ H →
  c σ H fun b H1 => if b = true then ∃ N : St → Hp → Prop, (∀ σ' H', N σ' H' → ∃ m', m' < m ∧ W m' σ' H') ∧ tb { D with nx := N, ct := N, bk := D.nx } σ H1 else D.nx σ H1
theorem ps_while {c : Expr} {body : List Stmt} {tc : TT} {tb : TS} (hp : PassesOwn (model X.prog X.w) X.A X.env X.xe) (hc : PT X c tc) (hb : PSs X body tb) : PS X (.While c body [] pos) (tWhile tc tb) := by
  intro pins s σ H D I h
  obtain ⟨W, ⟨m0, w0⟩, turn⟩ := h
  refine wpAny_While (codeAny_whileLoop (fun n s' => ∃ σ' H', Inv X pins σ' H' s' ∧ W n σ' H') ?_ m0 ⟨σ, H, I, w0⟩)
  rintro n s1 ⟨σ1, H1, I1, w1⟩
  refine wpAny_passesOwn hp (thn (hc pins s1 σ1 H1 _ I1 (turn n σ1 H1 w1)) fun b s2 ⟨H2, I2, q2⟩ => ?_)
  cases b with
  | true =>
    obtain ⟨N, hN, q2⟩ := q2
    rw [if_pos rfl]
    refine wpAny_passesOwn hp (thn (hb pins s2 σ1 H2 _ I2 q2) fun f s3 q3 => ?_)
    cases f with
    | next =>
      obtain ⟨σ3, H3, I3, n3⟩ := q3
      obtain ⟨m', hm, w3⟩ := hN σ3 H3 n3
      exact ⟨m', hm, σ3, H3, I3, w3⟩
    | cont =>
      obtain ⟨σ3, H3, I3, n3⟩ := q3
      obtain ⟨m', hm, w3⟩ := hN σ3 H3 n3
      exact ⟨m', hm, σ3, H3, I3, w3⟩
    | brk => exact q3
    | ret v => exact q3
  | false =>
    rw [if_neg Bool.false_ne_true]
    exact wpAny_execs_nil ⟨σ1, H2, I2, q2⟩
end

/-! ### what a loop or a comprehension walks -/
/-- at turn i: it yields x (the heap may grow), or it stops -/
structure It where
  go : Nat → Hp → Prop
  yld : Nat → Hp → V → Hp → Prop
  stop : Nat → Hp → Prop
/-- the iterator's own objects may turn: they are not the frame's, not pinned, younger than the entry (or a comprehension's own) -/
def FpOk (X : Cx) (pins : List (Addr × Obj)) (H : Hp) (b : Addr) : Prop :=
  H b = none ∧ b ≠ X.env.locals ∧ b ∉ X.fs ∧ (b ∈ X.ex ∨ X.s₀.heap.objs.size ≤ b) ∧ (∀ x c, X.env.cells.lookup x = some c → c ≠ b) ∧ ∀ p ∈ X.pn ++ pins, p.1 ≠ b
theorem Inv.fpOk {X : Cx} {pins : List (Addr × Obj)} {σ : St} {H H' : Hp} {s : Shared} {b : Addr} (I : Inv X pins σ H s) (hb : s.heap.objs.size ≤ b) (hn : H' b = none) : FpOk X pins H' b := by
  refine ⟨hn, Nat.ne_of_gt (Nat.lt_of_lt_of_le I.lt hb), I.nofs hb, .inr (Nat.le_trans I.sz hb), fun x c e z => ?_, fun p hp z => ?_⟩
  · obtain ⟨v, q⟩ := I.cell x c e
    exact absurd (Nat.lt_of_lt_of_le q.lt (by rw [z]; exact hb)) (Nat.lt_irrefl _)
  · exact absurd (Nat.lt_of_lt_of_le (Heap.lt_size (I.pin p hp).1) (by rw [z]; exact hb)) (Nat.lt_irrefl _)
structure Turn (P : Program) (w : World) (K : PySem.W.Frag) (tg : Expr) (J : It) (fp : List Addr) (it : Addr) (tn : Nat → Heap → Prop) : Prop where
  mem : it ∈ fp
  obj : ∀ i h, tn i h → ∀ b ∈ fp, ∃ o, h.get? b = some o ∧ ∀ v, o.data ≠ .cell v
  keep : ∀ i h h', tn i h → (∀ b ∈ fp, ∀ o, h.get? b = some o → h'.get? b = some o) → tn i h'
  item : ∀ (X : Cx), X.prog = P → X.w = w → X.K = K → X.calm = true → ∀ (i : Nat) (pins : List (Addr × Obj)) (s : Shared) (σ : St) (H : Hp) (E : Value → Shared → Prop), Inv X pins σ H s → (∀ b ∈ fp, FpOk X pins H b) → tn i s.heap → J.go i H →
    wpAny (model P w) X.A (pyNext (.ref it)) (fun r s1 => ∃ u, r = some u ∧
      wpAny (model P w) X.A (letOwnedTupleGo tg (.ref it) u) (fun _ s2 => ∃ x H', Inv X pins σ H' s2 ∧ RelV x u ∧ J.yld i H x H' ∧ tn (i + 1) s2.heap ∧ ∀ b ∈ fp, H' b = none) E s1) E s
  done : ∀ (X : Cx), X.prog = P → X.w = w → X.K = K → X.calm = true → ∀ (i : Nat) (pins : List (Addr × Obj)) (s : Shared) (σ : St) (H : Hp) (E : Value → Shared → Prop), Inv X pins σ H s → (∀ b ∈ fp, FpOk X pins H b) → tn i s.heap → J.stop i H →
    wpAny (model P w) X.A (pyNext (.ref it)) (fun r s1 => r = none ∧ Inv X pins σ H s1) E s
  self : ∀ (A : Around) (i : Nat) (s : Shared) (Q : Value → Shared → Prop) (E : Value → Shared → Prop), tn i s.heap → Q (.ref it) s → wpAny (model P w) A (pyIter (.ref it)) Q E s
abbrev TI := St → Hp → (It → Hp → Prop) → Prop
/-- an iterator has come -/
def PIE (X : Cx) (pins : List (Addr × Obj)) (σ : St) (tg : Expr) (R : It → Hp → Prop) (itv : Value) (s2 : Shared) : Prop :=
  ∃ (it : Addr) (fp : List Addr) (tn : Nat → Heap → Prop) (J : It) (H' : Hp), itv = .ref it ∧ Inv X pins σ H' s2 ∧ Turn X.prog X.w X.K tg J fp it tn ∧ tn 0 s2.heap ∧ (∀ b ∈ fp, FpOk X pins H' b) ∧ R J H'
def PI (X : Cx) (tg iter : Expr) (wi : TI) : Prop :=
  ∀ (pins : List (Addr × Obj)) (s : Shared) (σ : St) (H : Hp) (R : It → Hp → Prop), Inv X pins σ H s → wi σ H R →
    wpAny (model X.prog X.w) X.A (eval iter X.env) (fun v s1 => wpAny (model X.prog X.w) X.A (pyIter v) (PIE X pins σ tg R) X.xe s1) X.xe s

/-- the step ahead of the store is nothing for an iterator that keeps no tuple -/
theorem go_of {M : Model} {A : Around} {E : Value → Shared → Prop} {s : Shared} {tg : Expr} {it : Addr} {u : Value} {o : Obj} {n : String} {vs : Array Value} {Q : Unit → Shared → Prop} (ho : s.heap.get? it = some o) (hc : o.cls = .type n) (hd : o.data = .fields vs)
    (hn : ["enumerate", "zip", "dict_itemiterator", "dict_reverseitemiterator", "odict_iterator", "itertools.zip_longest", "itertools.pairwise"].contains n = false) (hQ : Q () s) : wpAny M A (letOwnedTupleGo tg (.ref it) u) Q E s := by
  unfold letOwnedTupleGo
  cases tg <;> first
    | exact wpAny_pure hQ
    | (cases u <;> first
        | exact wpAny_pure hQ
        | (refine wpAny_bind (wpAny_load ho ?_)
           rw [hc, hd]
           show wpAny M A (if (["enumerate", "zip", "dict_itemiterator", "dict_reverseitemiterator", "odict_iterator", "itertools.zip_longest", "itertools.pairwise"].contains n && vs[0]? == some (rawInt _)) = true then _ else _) Q E s
           rw [if_neg (by intro h; rw [hn, Bool.false_and] at h; cases h)]
           exact wpAny_pure hQ))

/-- the list at a, as it stands at each turn (a loop may append to it) -/
def Itl (K : PySem.W.Frag) (a : Addr) : It :=
  ⟨fun i H => ∃ xs x, SqL K H a xs ∧ xs[i]? = some x, fun i H x H' => H' = H ∧ ∀ xs, SqL K H a xs → xs[i]? = some x, fun i H => ∃ xs, SqL K H a xs ∧ xs.length ≤ i⟩
def Itt (K : PySem.W.Frag) (a : Addr) : It :=
  ⟨fun i H => ∃ xs x, SqT K H a xs ∧ xs[i]? = some x, fun i H x H' => H' = H ∧ ∀ xs, SqT K H a xs → xs[i]? = some x, fun i H => ∃ xs, SqT K H a xs ∧ xs.length ≤ i⟩
/-- lo, lo + 1, .. (n of them) -/
def Itr (lo : Int) (n : Nat) : It := ⟨fun i _ => i < n, fun i H x H' => H' = H ∧ x = .int (lo + i), fun i _ => n ≤ i⟩
theorem turn_list {P : Program} {w : World} {K : PySem.W.Frag} {tg : Expr} (a it : Addr) : Turn P w K tg (Itl K a) [it] it (fun i h => h.IsListIter it a i) where
  mem := by simp
  obj := fun i h st b hb => by
    have e : b = it := by simpa using hb
    subst e
    obtain ⟨o, e, c, d⟩ := st
    exact ⟨o, e, fun v z => by rw [d] at z; cases z⟩
  keep := fun i h h' st k => st.at fun o e => k it (by simp) o e
  item := by
    intro X hP hw hK hc i pins s σ H E I hf st hg
    subst hP hw hK
    obtain ⟨xs, x, hq, hx⟩ := hg
    obtain ⟨its, rv, p, hz⟩ := I.list hq
    obtain ⟨u, hu, ru⟩ := rv.get hx
    obtain ⟨f0, f1, f2, f3, f4, f5⟩ := hf it (by simp)
    refine wpAny_pyNext_list_item st p.isList (x := u) (by simpa using hu) fun h' st' sb => ?_
    have I1 : Inv X pins σ H { s with heap := h' } := I.turned (t' := s.toks) (fun b o hb e => (sb.2 b hb).trans e) f0 f1 f3 f4 f5
    obtain ⟨o, e, c, d⟩ := id st'
    exact ⟨u, rfl, go_of (s := { s with heap := h' }) e c d (by decide) ⟨x, H, I1, ru, ⟨rfl, fun ys hy => by rw [I.list_inj hy hq]; exact hx⟩, st', fun b hb => (hf b hb).1⟩⟩
  done := by
    intro X hP hw hK hc i pins s σ H E I hf st hg
    subst hP hw hK
    obtain ⟨xs, hq, hx⟩ := hg
    obtain ⟨its, rv, p, hz⟩ := I.list hq
    obtain ⟨f0, f1, f2, f3, f4, f5⟩ := hf it (by simp)
    have hl := rv.length
    exact wpAny_pyNext_list_end (I.ok.hd hc) st p.isList (by simp; omega) fun h' eb => ⟨rfl, I.turned (t' := s.toks) (fun b o hb e => eb b o hb e) f0 f1 f3 f4 f5⟩
  self := fun _ _ _ _ _ st h => wpAny_pyIter_listiter st h
theorem turn_tuple {P : Program} {w : World} {K : PySem.W.Frag} {tg : Expr} (a it : Addr) : Turn P w K tg (Itt K a) [it] it (fun i h => h.IsTupleIter it a i) where
  mem := by simp
  obj := fun i h st b hb => by
    have e : b = it := by simpa using hb
    subst e
    obtain ⟨o, e, c, d⟩ := st
    exact ⟨o, e, fun v z => by rw [d] at z; cases z⟩
  keep := fun i h h' st k => st.at fun o e => k it (by simp) o e
  item := by
    intro X hP hw hK hc i pins s σ H E I hf st hg
    subst hP hw hK
    obtain ⟨xs, x, hq, hx⟩ := hg
    obtain ⟨its, rv, p, hz⟩ := I.tuple hq
    obtain ⟨u, hu, ru⟩ := rv.get hx
    obtain ⟨f0, f1, f2, f3, f4, f5⟩ := hf it (by simp)
    refine wpAny_pyNext_tuple_item st (show s.heap.IsTuple a its.toArray from p) (x := u) (by simpa using hu) fun h' st' sb => ?_
    have I1 : Inv X pins σ H { s with heap := h' } := I.turned (t' := s.toks) (fun b o hb e => (sb.2 b hb).trans e) f0 f1 f3 f4 f5
    obtain ⟨o, e, c, d⟩ := id st'
    exact ⟨u, rfl, go_of (s := { s with heap := h' }) e c d (by decide) ⟨x, H, I1, ru, ⟨rfl, fun ys hy => by rw [I.tuple_inj hy hq]; exact hx⟩, st', fun b hb => (hf b hb).1⟩⟩
  done := by
    intro X hP hw hK hc i pins s σ H E I hf st hg
    subst hP hw hK
    obtain ⟨xs, hq, hx⟩ := hg
    obtain ⟨its, rv, p, hz⟩ := I.tuple hq
    obtain ⟨f0, f1, f2, f3, f4, f5⟩ := hf it (by simp)
    have hl := rv.length
    exact wpAny_pyNext_tuple_end (I.ok.hd hc) st (show s.heap.IsTuple a its.toArray from p) (by simp; omega) fun h' eb => ⟨rfl, I.turned (t' := s.toks) (fun b o hb e => eb b o hb e) f0 f1 f3 f4 f5⟩
  self := fun _ _ _ _ _ st h => wpAny_pyIter_tupleiter st h
theorem turn_range {P : Program} {w : World} {K : PySem.W.Frag} {tg : Expr} (it : Addr) (lo : Int) (n : Nat) : Turn P w K tg (Itr lo n) [it] it (fun i h => IsRangeIter h it (lo + (i : Nat) * 1) ((n : Int) - (i : Nat)) 1) where
  mem := by simp
  obj := fun i h st b hb => by
    have e : b = it := by simpa using hb
    subst e
    exact ⟨_, st, fun v z => by
      have z' : Data.fields _ = Data.cell v := z
      cases z'⟩
  keep := fun i h h' st k => k it (by simp) _ st
  item := by
    intro X hP hw hK hc i pins s σ H E I hf st hg
    subst hP hw hK
    obtain ⟨f0, f1, f2, f3, f4, f5⟩ := hf it (by simp)
    have W := Walks.range (prog := X.prog) (w := X.w) (I.ok.hd hc) it lo 1 n
    refine W.item i s _ _ hg st fun v h' tk hv st' kk => ?_
    obtain ⟨t, rfl⟩ := hv
    have I1 : Inv X pins σ H { s with heap := h', toks := tk } := I.turned (fun b o hb e => kk b o (by simpa using hb) e) f0 f1 f3 f4 f5
    refine ⟨_, rfl, go_of (s := { s with heap := h', toks := tk }) (n := "range_iterator") st' rfl rfl (by decide) ⟨.int (lo + i), H, I1, ⟨t, ?_⟩, ⟨rfl, rfl⟩, st', fun b hb => (hf b hb).1⟩⟩
    rw [Int.mul_one]
  done := by
    intro X hP hw hK hc i pins s σ H E I hf st hg
    subst hP hw hK
    obtain ⟨f0, f1, f2, f3, f4, f5⟩ := hf it (by simp)
    exact wpAny_pyNext_range_end (I.ok.hd hc) st (by have : n ≤ i := hg; omega) fun h' eb => ⟨rfl, I.turned (t' := s.toks) (fun b o hb e => eb b o hb e) f0 f1 f3 f4 f5⟩
  self := fun _ _ _ _ _ st h => wpAny_pyIter_rangeiter st h
end L2

namespace L2
open PySem PySem.Spec PyProof.Rows
section
variable {X : Cx} {tg : Expr}
/-- a range object just made, walked -/
theorem range_it {pins : List (Addr × Obj)} {σ : St} {H : Hp} {s : Shared} {R : It → Hp → Prop} {E : Value → Shared → Prop} {lo hi : Int} {t u v : Tok} {tk : Nat} (I : Inv X pins σ H s) (h1 : -(2 ^ 62) ≤ lo) (h2 : lo < 2 ^ 62) (h3 : -(2 ^ 62) ≤ hi) (h4 : hi < 2 ^ 62)
    (q : R (Itr lo (hi - lo).toNat) H) : wpAny (model X.prog X.w) X.A (pyIter (.ref s.heap.objs.size)) (PIE X pins σ tg R) E { s with heap := s.heap.push { cls := .type "range", data := .fields #[.int lo t, .int hi u, .int 1 v] }, toks := tk } := by
  refine wpAny_pyIter_range (IsRange.new ..) (small_one h1 h2 h3 h4) ?_
  have I1 : Inv X pins σ H { s with heap := s.heap.push { cls := .type "range", data := .fields #[.int lo t, .int hi u, .int 1 v] }, toks := tk } := I.kept fun b o e => Heap.get?_push_of_some _ e
  refine ⟨(s.heap.push { cls := .type "range", data := .fields #[.int lo t, .int hi u, .int 1 v] }).objs.size, [(s.heap.push { cls := .type "range", data := .fields #[.int lo t, .int hi u, .int 1 v] }).objs.size], _, _, H, rfl,
    I1.kept (t' := tk) fun b o e => Heap.get?_push_of_some _ e, turn_range _ lo (hi - lo).toNat, ?_, fun b hb => ?_, q⟩
  · have e1 : lo + ((0 : Nat) : Int) * 1 = lo := by simp
    have e2 : (((hi - lo).toNat : Nat) : Int) - ((0 : Nat) : Int) = Builtin.Range.rangeSize lo hi 1 := by rw [rangeSize_one]; split <;> omega
    show IsRangeIter _ _ (lo + ((0 : Nat) : Int) * 1) ((((hi - lo).toNat : Nat) : Int) - ((0 : Nat) : Int)) 1
    rw [e1, e2]
    exact Heap.get?_push_size _ rfl
  · have e : b = (s.heap.push { cls := .type "range", data := .fields #[.int lo t, .int hi u, .int 1 v] }).objs.size := by simpa using hb
    subst e
    exact I1.fpOk (Nat.le_refl _) (I1.hok.fresh (Nat.le_refl _))
def iRng1 (ta : TA) : TI := fun σ H R => ta σ H fun vs H1 => ∃ j : Int, vs = [.int j] ∧ -(2 ^ 62) ≤ j ∧ j < 2 ^ 62 ∧ R (Itr 0 j.toNat) H1
def iRng2 (ta : TA) : TI := fun σ H R => ta σ H fun vs H1 => ∃ i j : Int, vs = [.int i, .int j] ∧ (-(2 ^ 62) ≤ i ∧ i < 2 ^ 62 ∧ -(2 ^ 62) ≤ j ∧ j < 2 ^ 62) ∧ R (Itr i (j - i).toNat) H1
theorem pi_range1 {a : Expr} {ta : TA} {p pos : Pos} (hg : Gl X "range") (hm : X.mg "range" = none) (ha : PA X [a] ta) (hs : starEach [a] X.env = [(false, eval a X.env)] := by rfl) : PI X tg (.Call (.Name "range" p) [a] [] pos) (iRng1 ta) := by
  intro pins s σ H R I h
  refine Call_ (ld_blt I hg hm boot_range (PyProof.Rows.callWith_type1 (thn (ha pos pins s σ H _ I h) fun us s1 ⟨vs, H1, I1, r1, q1⟩ => ?_) hs rfl))
  obtain ⟨j, e, q1, q2, q⟩ := q1
  subst e
  cases r1 with
  | cons r rr =>
    cases rr
    obtain ⟨t, rfl⟩ := r
    exact call_range_1 (range_it I1 (by omega) (by omega) q1 q2 (by simpa using q))
theorem pi_range2 {a b : Expr} {ta : TA} {p pos : Pos} (hg : Gl X "range") (hm : X.mg "range" = none) (ha : PA X [a, b] ta) (hs : starEach [a, b] X.env = [(false, eval a X.env), (false, eval b X.env)] := by rfl) (hs2 : starEach [b] X.env = [(false, eval b X.env)] := by rfl) :
    PI X tg (.Call (.Name "range" p) [a, b] [] pos) (iRng2 ta) := by
  intro pins s σ H R I h
  refine Call_ (ld_blt I hg hm boot_range (PyProof.Rows.callWith_type1 (thn (ha pos pins s σ H _ I h) fun us s1 ⟨vs, H1, I1, r1, q1⟩ => ?_) (by rw [hs, hs2]) (by rw [hs2]; rfl)))
  obtain ⟨i, j, e, ⟨q1, q2, q3, q4⟩, q⟩ := q1
  subst e
  cases r1 with
  | cons r rr =>
    cases rr with
    | cons r' rr =>
      cases rr
      obtain ⟨t, rfl⟩ := r
      obtain ⟨t', rfl⟩ := r'
      exact call_range_2 (range_it I1 q1 q2 q3 q4 q)

/-! ### for -/
/-- W: the invariant by the turn and a measure; N: what the body is to reach -/
def tFor (wi : TI) (g : TG) (tb : TS) : TS := fun D σ H => wi σ H fun J H1 => ∃ W : Nat → Nat → St → Hp → Prop, (∃ m, W 0 m σ H1) ∧ ∀ i m σ H, W i m σ H →
  (J.stop i H ∧ D.nx σ H) ∨ (J.go i H ∧ ∃ N : St → Hp → Prop, (∀ σ' H', N σ' H' → ∃ m', m' < m ∧ W (i + 1) m' σ' H') ∧ ∀ x H', J.yld i H x H' → g x σ H' fun σ2 H2 => tb { D with nx := N, ct := N, bk := D.nx } σ2 H2)
/-- the records at fp as they stand -/
def pinsAt (fp : List Addr) (h : Heap) : List (Addr × Obj) := fp.filterMap fun b => (h.get? b).map fun o => (b, o)
theorem mem_pinsAt {fp : List Addr} {h : Heap} {b : Addr} {o : Obj} (hb : b ∈ fp) (e : h.get? b = some o) : (b, o) ∈ pinsAt fp h := List.mem_filterMap.mpr ⟨b, hb, by rw [e]; rfl⟩
theorem of_pinsAt {fp : List Addr} {h : Heap} {p : Addr × Obj} (hp : p ∈ pinsAt fp h) : p.1 ∈ fp ∧ h.get? p.1 = some p.2 := by
  obtain ⟨b, hb, e⟩ := List.mem_filterMap.mp hp
  cases q : h.get? b with
  | none => rw [q] at e; cases e
  | some o =>
    rw [q] at e
    have e' : (b, o) = p := Option.some.inj e
    subst e'
    exact ⟨hb, q⟩
theorem Inv.pinned {pins : List (Addr × Obj)} {σ : St} {H : Hp} {s : Shared} {fp : List Addr} (I : Inv X pins σ H s) (hf : ∀ b ∈ fp, FpOk X pins H b) (ho : ∀ b ∈ fp, ∃ o, s.heap.get? b = some o ∧ ∀ v, o.data ≠ .cell v) : Inv X (pins ++ pinsAt fp s.heap) σ H s :=
  I.pins_of fun p hp => (List.mem_append.mp hp).elim (fun z => I.pin p (List.mem_append_right _ z)) fun z => by
    obtain ⟨hb, e⟩ := of_pinsAt z
    obtain ⟨f0, f1, f2, _⟩ := hf p.1 hb
    obtain ⟨o, e', d⟩ := ho p.1 hb
    rw [e] at e'; cases e'
    exact ⟨e, f0, f1, f2, d⟩
theorem Inv.unpinned {pins pl : List (Addr × Obj)} {σ : St} {H : Hp} {s : Shared} (I : Inv X (pins ++ pl) σ H s) : Inv X pins σ H s := I.pins_of fun p hp => I.pin p (List.mem_append_right _ (List.mem_append_left _ hp))
theorem ps_for {iter : Expr} {body : List Stmt} {wi : TI} {g : TG} {tb : TS} {pos : Pos} (hp : PassesOwn (model X.prog X.w) X.A X.env X.xe) (hc : X.calm = true) (hi : PI X tg iter wi) (hg : PG X tg g) (hb : PSs X body tb)
    (hs : ∀ x, foldedSetIterable iter X.env x = pure x := by intro _; rfl) : PS X (.For tg iter body [] pos) (tFor wi g tb) := by
  intro pins s σ H D I h
  refine wpAny_For (thn (hi pins s σ H _ I h) fun v s1 h1 => thn h1 fun itv s2 h2 => ?_) hs
  obtain ⟨it, fp, tn, J, H2, e, I2, T, st2, f2, W, ⟨m0, w0⟩, turn⟩ := h2
  subst e
  -- what stays true of the iterator's objects through the loop
  have stat : ∀ {H' : Hp}, (∀ b ∈ fp, H' b = none) → ∀ b ∈ fp, FpOk X pins H' b := fun hn b hb => ⟨hn b hb, (f2 b hb).2⟩
  refine codeAny_forLoop_any (fun n s' => ∃ i σ' H', Inv X pins σ' H' s' ∧ tn i s'.heap ∧ (∀ b ∈ fp, H' b = none) ∧ W i n σ' H') ?_ m0 ⟨0, σ, H2, I2, st2, fun b hb => (f2 b hb).1, w0⟩
  rintro n s3 ⟨i, σ3, H3, I3, st3, fr3, w3⟩
  rcases turn i n σ3 H3 w3 with ⟨stop, qn⟩ | ⟨go, N, hN, step⟩
  · refine wpAny_passesOwn hp (thn (T.done X rfl rfl rfl hc i pins s3 σ3 H3 X.xe I3 (stat fr3) st3 stop) fun r s4 ⟨hr, I4⟩ => ?_)
    subst hr
    exact wpAny_execs_nil ⟨σ3, H3, I4, qn⟩
  · refine wpAny_passesOwn hp (thn (T.item X rfl rfl rfl hc i pins s3 σ3 H3 X.xe I3 (stat fr3) st3 go) fun r s4 ⟨u, hr, h4⟩ => ?_)
    subst hr
    refine wpAny_passesOwn hp (thn h4 fun _ s5 ⟨x, H5, I5, r5, y5, st5, fr5⟩ => ?_)
    have I5' := I5.pinned (stat fr5) (T.obj _ _ st5)
    refine wpAny_passesOwn hp (thn (hg _ s5 σ3 H5 x u _ I5' r5 (step x H5 y5)) fun _ s6 ⟨σ6, H6, I6, q6⟩ => ?_)
    refine wpAny_passesOwn hp (thn (hb _ s6 σ6 H6 _ I6 q6) fun f s7 q7 => ?_)
    have again : ∀ {σ7 : St} {H7 : Hp}, Inv X (pins ++ pinsAt fp s5.heap) σ7 H7 s7 → N σ7 H7 → ∃ m, m < n ∧ ∃ i σ' H', Inv X pins σ' H' s7 ∧ tn i s7.heap ∧ (∀ b ∈ fp, H' b = none) ∧ W i m σ' H' := fun {σ7 H7} I7 n7 => by
      obtain ⟨m', hm, w7⟩ := hN σ7 H7 n7
      refine ⟨m', hm, i + 1, σ7, H7, I7.unpinned, T.keep _ _ _ st5 fun b hb o e => (I7.pin (b, o) (List.mem_append_right _ (List.mem_append_right _ (mem_pinsAt hb e)))).1, fun b hb => ?_, w7⟩
      obtain ⟨o, e, d⟩ := T.obj _ _ st5 b hb
      exact (I7.pin (b, o) (List.mem_append_right _ (List.mem_append_right _ (mem_pinsAt hb e)))).2.1
    cases f with
    | next => obtain ⟨σ7, H7, I7, n7⟩ := q7; exact again I7 n7
    | cont => obtain ⟨σ7, H7, I7, n7⟩ := q7; exact again I7 n7
    | brk => obtain ⟨σ7, H7, I7, q7⟩ := q7; exact ⟨σ7, H7, I7.unpinned, q7⟩
    | ret v => obtain ⟨x7, σ7, H7, I7, r7, q7⟩ := q7; exact ⟨x7, σ7, H7, I7.unpinned, r7, q7⟩
end

end L2

namespace L2
open PySem PySem.Spec PyProof.Rows

abbrev R2 := V → V → Hp → VK → Prop
/-- a two-place operation on values: f is binaryOp op, inplaceOp op or compareOp op -/
def OpR (X : Cx) (f : Value → Value → Sem Value) (r : R2) : Prop :=
  ∀ (pins : List (Addr × Obj)) (s : Shared) (σ : St) (H : Hp) (x y : V) (v u : Value) (Q : VK), Inv X pins σ H s → RelV x v → RelV y u → r x y H Q →
    wpAny (model X.prog X.w) X.A (f v u) (EP X pins σ Q) X.xe s
/-- a one-place operation -/
def UnR (X : Cx) (f : Value → Sem Value) (r : V → Hp → VK → Prop) : Prop :=
  ∀ (pins : List (Addr × Obj)) (s : Shared) (σ : St) (H : Hp) (x : V) (v : Value) (Q : VK), Inv X pins σ H s → RelV x v → r x H Q →
    wpAny (model X.prog X.w) X.A (f v) (EP X pins σ Q) X.xe s
/-- a call of a value that is known (a builtin, a type) with values -/
def CallR (X : Cx) (f : Value) (r : List V → Hp → VK → Prop) : Prop :=
  ∀ (pins : List (Addr × Obj)) (s : Shared) (σ : St) (H : Hp) (xs : List V) (us : List Value) (Q : VK), Inv X pins σ H s → Vals xs us → r xs H Q →
    wpAny (model X.prog X.w) X.A (call f us) (EP X pins σ Q) X.xe s
/-- a value's truth -/
def TruR (X : Cx) (r : V → Hp → (Bool → Hp → Prop) → Prop) : Prop :=
  ∀ (pins : List (Addr × Obj)) (s : Shared) (σ : St) (H : Hp) (x : V) (v : Value) (Q : Bool → Hp → Prop), Inv X pins σ H s → RelV x v → r x H Q →
    wpAny (model X.prog X.w) X.A (truthy v) (TP X pins σ Q) X.xe s

def tOp (r : R2) (ta tb : TE) : TE := fun σ H Q => ta σ H fun x H1 => tb σ H1 fun y H2 => r x y H2 Q
def tUn (r : V → Hp → VK → Prop) (ta : TE) : TE := fun σ H Q => ta σ H fun x H1 => r x H1 Q
/-- ints in, under C, and a value out -/
def rI (C : Int → Int → Prop) (g : Int → Int → V) : R2 := fun x y H Q => ∃ i j, x = .int i ∧ y = .int j ∧ C i j ∧ Q (g i j) H
def rI0 (g : Int → Int → V) : R2 := fun x y H Q => ∃ i j, x = .int i ∧ y = .int j ∧ Q (g i j) H
def rU (g : Int → V) : V → Hp → VK → Prop := fun x H Q => ∃ i, x = .int i ∧ Q (g i) H

section
variable {X : Cx} {a b c : Expr} {ta tb tc : TE} {pos : Pos}

theorem binT (ha : PE X a ta) (hb : PE X b tb) {pins : List (Addr × Obj)} {s : Shared} {σ : St} {H : Hp} {R : V → V → Hp → Prop} (I : Inv X pins σ H s)
    (h : ta σ H fun x H1 => tb σ H1 fun y H2 => R x y H2) {Q : Value → Shared → Prop} {f : Value → Value → Sem Value}
    (hf : ∀ v u s2 x y H2, Inv X pins σ H2 s2 → RelV x v → RelV y u → R x y H2 → wpAny (model X.prog X.w) X.A (f v u) Q X.xe s2) :
    wpAny (model X.prog X.w) X.A (eval a X.env) (fun v s₁ => wpAny (model X.prog X.w) X.A (eval b X.env) (fun u s₂ => wpAny (model X.prog X.w) X.A (f v u) Q X.xe s₂) X.xe s₁) X.xe s := by
  refine thn (ha pins s σ H _ I h) fun v s1 ⟨x, H1, I1, r1, q1⟩ => ?_
  refine thn (hb pins s1 σ H1 _ I1 q1) fun u s2 ⟨y, H2, I2, r2, q2⟩ => ?_
  exact hf v u s2 x y H2 I2 r1 r2 q2

theorem pe_op {op : Operator} {r : R2} (ho : OpR X (binaryOp op) r) (ha : PE X a ta) (hb : PE X b tb) : PE X (.BinOp a op b pos) (tOp r ta tb) := by
  intro pins s σ H Q I h
  exact wpAny_BinOp (binT ha hb I h fun v u s2 x y H2 I2 rx ry q => ho pins s2 σ H2 x y v u Q I2 rx ry q)
theorem pe_un {op : UnaryOp} {r : V → Hp → VK → Prop} (ho : UnR X (unaryOp op) r) (ha : PE X a ta) : PE X (.UnaryOp op a pos) (tUn r ta) := by
  intro pins s σ H Q I h
  exact UnaryOp_ (thn (ha pins s σ H _ I h) fun v s1 ⟨x, H1, I1, r1, q1⟩ => ho pins s1 σ H1 x v Q I1 r1 q1)
/-! ### ints -/
theorem opI {f : Value → Value → Sem Value} {C : Int → Int → Prop} {g : Int → Int → Int}
    (rule : ∀ (i j : Int) (t u : Tok) (s : Shared) (Q : Value → Shared → Prop) (E : Value → Shared → Prop), C i j → Q (.int (g i j) s.toks) { s with toks := s.toks + 1 } → wpAny (model X.prog X.w) X.A (f (.int i t) (.int j u)) Q E s) :
    OpR X f (rI C fun i j => .int (g i j)) := by
  intro pins s σ H x y v u Q I rx ry h
  obtain ⟨i, j, rfl, rfl, hc, q⟩ := h
  obtain ⟨t, rfl⟩ := rx
  obtain ⟨t', rfl⟩ := ry
  exact rule i j t t' s _ _ hc ⟨.int (g i j), H, I.tok _, ⟨_, rfl⟩, q⟩
theorem opI0 {f : Value → Value → Sem Value} {g : Int → Int → Int}
    (rule : ∀ (i j : Int) (t u : Tok) (s : Shared) (Q : Value → Shared → Prop) (E : Value → Shared → Prop), Q (.int (g i j) s.toks) { s with toks := s.toks + 1 } → wpAny (model X.prog X.w) X.A (f (.int i t) (.int j u)) Q E s) :
    OpR X f (rI0 fun i j => .int (g i j)) := by
  intro pins s σ H x y v u Q I rx ry h
  obtain ⟨i, j, rfl, rfl, q⟩ := h
  obtain ⟨t, rfl⟩ := rx
  obtain ⟨t', rfl⟩ := ry
  exact rule i j t t' s _ _ ⟨.int (g i j), H, I.tok _, ⟨_, rfl⟩, q⟩
theorem opB0 {f : Value → Value → Sem Value} {g : Int → Int → Bool}
    (rule : ∀ (i j : Int) (t u : Tok) (s : Shared) (Q : Value → Shared → Prop) (E : Value → Shared → Prop), Q (.bool (g i j)) s → wpAny (model X.prog X.w) X.A (f (.int i t) (.int j u)) Q E s) :
    OpR X f (rI0 fun i j => .bl (g i j)) := by
  intro pins s σ H x y v u Q I rx ry h
  obtain ⟨i, j, rfl, rfl, q⟩ := h
  obtain ⟨t, rfl⟩ := rx
  obtain ⟨t', rfl⟩ := ry
  exact rule i j t t' s _ _ ⟨.bl (g i j), H, I, rfl, q⟩

def CPow (i j : Int) : Prop := 0 ≤ j ∧ j ≤ 1000000 ∧ i.natAbs < 2 ^ 64
def CMul (i j : Int) : Prop := (-(2 ^ 64) < i ∧ i < 2 ^ 64) ∨ (-(2 ^ 64) < j ∧ j < 2 ^ 64)
theorem CMul.ok {i j : Int} (h : CMul i j) : IntMulOk i j := by
  rcases h with ⟨h1, h2⟩ | ⟨h1, h2⟩
  · exact .of_left (intBits_le_64 h1 h2)
  · exact .of_right (intBits_le_64 h1 h2)
theorem op_add : OpR X (binaryOp .Add) (rI0 fun i j => .int (i + j)) := opI0 fun _ _ _ _ _ _ _ q => add_int q
theorem op_sub : OpR X (binaryOp .Sub) (rI0 fun i j => .int (i - j)) := opI0 fun _ _ _ _ _ _ _ q => sub_int q
/-- % by a positive divisor of any size -/
theorem op_mod : OpR X (binaryOp .Mod) (rI (fun _ j => 0 < j) fun i j => .int (i % j)) := opI fun i j _ _ _ _ _ hc q => by
  have h1 : (0 : Int) < j := hc
  exact mod_int' (by omega) (by rw [Int.fmod_eq_emod_of_nonneg i (by omega)]; exact q)
theorem op_pow : OpR X (binaryOp .Pow) (rI CPow fun i j => .int (i ^ j.toNat)) := opI fun _ _ _ _ _ _ _ hc q => pow_int_small hc.1 hc.2.1 hc.2.2 q
theorem iop_add : OpR X (inplaceOp .Add) (rI0 fun i j => .int (i + j)) := opI0 fun _ _ _ _ _ _ _ q => iadd_int q
theorem iop_sub : OpR X (inplaceOp .Sub) (rI0 fun i j => .int (i - j)) := opI0 fun _ _ _ _ _ _ _ q => isub_int q
theorem unI {f : Value → Sem Value} {g : Int → Int}
    (rule : ∀ (i : Int) (t : Tok) (s : Shared) (Q : Value → Shared → Prop) (E : Value → Shared → Prop), Q (.int (g i) s.toks) { s with toks := s.toks + 1 } → wpAny (model X.prog X.w) X.A (f (.int i t)) Q E s) :
    UnR X f (rU fun i => .int (g i)) := by
  intro pins s σ H x v Q I rx h
  obtain ⟨i, rfl, q⟩ := h
  obtain ⟨t, rfl⟩ := rx
  exact rule i t s _ _ ⟨.int (g i), H, I.tok _, ⟨_, rfl⟩, q⟩
theorem un_neg : UnR X (unaryOp .USub) (rU fun i => .int (-i)) := unI fun _ _ _ _ _ q => neg_int q
end

section
variable {X : Cx} {a b c : Expr} {ta tb tc : TE} {pos : Pos}
theorem op_lt : OpR X (compareOp .Lt) (rI0 fun i j => .bl (decide (i < j))) := opB0 fun _ _ _ _ _ _ _ q => lt_int q
theorem op_le : OpR X (compareOp .LtE) (rI0 fun i j => .bl (decide (i ≤ j))) := opB0 fun _ _ _ _ _ _ _ q => le_int q
theorem op_gt : OpR X (compareOp .Gt) (rI0 fun i j => .bl (decide (j < i))) := opB0 fun _ _ _ _ _ _ _ q => gt_int q
theorem op_ge : OpR X (compareOp .GtE) (rI0 fun i j => .bl (decide (j ≤ i))) := opB0 fun _ _ _ _ _ _ _ q => ge_int q
/-- two rules for one operation: by cases -/
theorem OpR.or {f : Value → Value → Sem Value} {r r' : R2} (h : OpR X f r) (h' : OpR X f r') : OpR X f (fun x y H Q => r x y H Q ∨ r' x y H Q) := by
  intro pins s σ H x y v u Q I rx ry q
  rcases q with q | q
  · exact h pins s σ H x y v u Q I rx ry q
  · exact h' pins s σ H x y v u Q I rx ry q

theorem nomark (b : Expr) {op : CmpOp} (h : op ≠ .In := by decide) (h2 : op ≠ .NotIn := by decide) : behindInMarks op b = false := by
  have e1 : (op == CmpOp.In) = false := by cases op <;> first | rfl | exact absurd rfl h
  have e2 : (op == CmpOp.NotIn) = false := by cases op <;> first | rfl | exact absurd rfl h2
  cases b <;> simp [behindInMarks, e1, e2]
/-- a comparison as a value; hm: nomark b, or (for in, not in) by with_unfolding_all rfl -/
theorem pe_cmpR {op : CmpOp} {r : R2} (ho : OpR X (compareOp op) r) (ha : PE X a ta) (hb : PE X b tb) (hm : behindInMarks op b = false) : PE X (.Compare a [op] [b] pos) (tOp r ta tb) := by
  intro pins s σ H Q I h
  exact wpAny_Compare1 (binT ha hb I h fun v u s2 x y H2 I2 rx ry q => ho pins s2 σ H2 x y v u Q I2 rx ry q) hm
/-- a reading of a value as a test -/
def tTest (t : TE) : TT := fun σ H Q => t σ H fun x H' => ∃ k, x = .bl k ∧ Q k H'
theorem pt_cmpR {op : CmpOp} {r : R2} (ho : OpR X (compareOp op) r) (ha : PE X a ta) (hb : PE X b tb) (hm : behindInMarks op b = false) : PT X (.Compare a [op] [b] pos) (tTest (tOp r ta tb)) := by
  intro pins s σ H Q I h
  refine wpAny_isTrue_Compare1 (thn (ha pins s σ H _ I h) fun v s1 ⟨x, H1, I1, r1, q1⟩ => thn (hb pins s1 σ H1 _ I1 q1) fun u s2 ⟨y, H2, I2, r2, q2⟩ =>
    thn (ho pins s2 σ H2 x y v u _ I2 r1 r2 q2) fun c s3 ⟨z, H3, I3, r3, k, e, q3⟩ => ?_) hm
  subst e
  cases r3
  exact wpAny_truthy_bool ⟨H3, I3, q3⟩
/-- a op1 b op2 c -/
def tChain (r r' : R2) (ta tb tc : TE) : TE := fun σ H Q => ta σ H fun x H1 => tb σ H1 fun y H2 => r x y H2 fun z H3 => ∃ k, z = .bl k ∧
  (if k = true then tc σ H3 fun w' H4 => r' y w' H4 Q else Q (.bl false) H3)
theorem pe_chain {op op' : CmpOp} {r r' : R2} (ho : OpR X (compareOp op) r) (ho' : OpR X (compareOp op') r') (ha : PE X a ta) (hb : PE X b tb) (hc : PE X c tc)
    (hm : lastMarks [op, op'] [b, c] = false := by with_unfolding_all rfl) : PE X (.Compare a [op, op'] [b, c] pos) (tChain r r' ta tb tc) := by
  intro pins s σ H Q I h
  refine Compare_chain (thn (ha pins s σ H _ I h) fun v s1 ⟨x, H1, I1, r1, q1⟩ => chain_link (thn (hb pins s1 σ H1 _ I1 q1) fun u s2 ⟨y, H2, I2, r2, q2⟩ =>
    thn (ho pins s2 σ H2 x y v u _ I2 r1 r2 q2) fun d s3 ⟨z, H3, I3, r3, k, e, q3⟩ => ?_)) hm
  subst e
  cases r3
  refine wpAny_truthy_bool ?_
  cases k with
  | false => exact ite_ff ⟨.bl false, H3, I3, rfl, q3⟩
  | true => exact ite_tt (chain_last (thn (hc pins s3 σ H3 _ I3 q3) fun w' s4 ⟨z', H4, I4, r4, q4⟩ => ho' pins s4 σ H4 y z' u w' Q I4 r2 r4 q4))
theorem pt_chain {op op' : CmpOp} {r r' : R2} (ho : OpR X (compareOp op) r) (ho' : OpR X (compareOp op') r') (ha : PE X a ta) (hb : PE X b tb) (hc : PE X c tc)
    (hm : lastMarks [op, op'] [b, c] = false := by with_unfolding_all rfl) : PT X (.Compare a [op, op'] [b, c] pos) (tTest (tChain r r' ta tb tc)) := by
  intro pins s σ H Q I h
  refine isTrue_chain (thn (ha pins s σ H _ I h) fun v s1 ⟨x, H1, I1, r1, q1⟩ => test_link (thn (hb pins s1 σ H1 _ I1 q1) fun u s2 ⟨y, H2, I2, r2, q2⟩ =>
    thn (ho pins s2 σ H2 x y v u _ I2 r1 r2 q2) fun d s3 ⟨z, H3, I3, r3, k, e, q3⟩ => ?_)) hm
  subst e
  cases r3
  refine wpAny_truthy_bool ?_
  cases k with
  | false =>
    obtain ⟨k', e', q'⟩ := q3
    cases e'
    exact ite_ff ⟨H3, I3, q'⟩
  | true =>
    refine ite_tt (test_last (thn (hc pins s3 σ H3 _ I3 q3) fun w' s4 ⟨z', H4, I4, r4, q4⟩ => thn (ho' pins s4 σ H4 y z' u w' _ I4 r2 r4 q4) fun d' s5 ⟨z2, H5, I5, r5, k2, e2, q5⟩ => ?_))
    subst e2
    cases r5
    exact wpAny_truthy_bool ⟨H5, I5, q5⟩

/-! ### truth -/
/-- a value's truth by the abstract heap -/
def TruV (K : PySem.W.Frag) (x : V) (H : Hp) (k : Bool) : Prop :=
  match x with
  | .non => k = false
  | .bl b => k = b
  | .int i => k = (i != 0)
  | .str y => y.length ≤ sizeLine ∧ k = ((y.length : Int) != 0)
  | .byt y => y.size ≤ sizeLine ∧ k = ((y.size : Int) != 0)
  | .ref p => (∃ xs, SqL K H p xs ∧ k = !xs.isEmpty) ∨ (∃ xs, SqT K H p xs ∧ k = !xs.isEmpty) ∨ ∃ kvs, H p = some (.dK kvs) ∧ k = !kvs.isEmpty
  | _ => False
theorem isEmpty_kv {κ : Type} {kvs : List (κ × V)} {vs : List (κ × Value)} (r : KV kvs vs) : (!vs.isEmpty) = !kvs.isEmpty := by
  cases r <;> rfl
theorem isEmpty_of {xs : List V} {its : List Value} (r : Vals xs its) : (!its.toArray.isEmpty) = !xs.isEmpty := by
  cases r <;> simp
theorem line63 : (sizeLine : Nat) < 2 ^ 63 := by rw [sizeLine_eq]; decide
theorem tru_ok : TruR X (fun x H Q => ∃ k, TruV X.K x H k ∧ Q k H) := by
  intro pins s σ H x v Q I rx h
  obtain ⟨k, e, q⟩ := h
  have hl := line63
  have hs : sizeLine = 16777216 := sizeLine_eq
  cases x with
  | non =>
    cases rx
    have e' : k = false := e
    subst e'
    exact truthy_none ⟨H, I, q⟩
  | bl b =>
    cases rx
    have e' : k = b := e
    subst e'
    exact wpAny_truthy_bool ⟨H, I, q⟩
  | int i =>
    obtain ⟨t, rfl⟩ := rx
    have e' : k = (i != 0) := e
    subst e'
    exact PySem.P.truthy_int ⟨H, I, q⟩
  | str y =>
    obtain ⟨t, rfl⟩ := rx
    obtain ⟨hy, e'⟩ : y.length ≤ sizeLine ∧ k = ((y.length : Int) != 0) := e
    subst e'
    exact PySem.P.truthy_str (by omega) ⟨H, I.tok _, q⟩
  | byt y =>
    obtain ⟨t, rfl⟩ := rx
    obtain ⟨hy, e'⟩ : y.size ≤ sizeLine ∧ k = ((y.size : Int) != 0) := e
    subst e'
    exact PySem.W.truthy_bytes (by omega) ⟨H, I.tok _, q⟩
  | ref p =>
    cases rx
    have e' : (∃ xs, SqL X.K H p xs ∧ k = !xs.isEmpty) ∨ (∃ xs, SqT X.K H p xs ∧ k = !xs.isEmpty) ∨ ∃ kvs, H p = some (.dK kvs) ∧ k = !kvs.isEmpty := e
    rcases e' with ⟨xs, hx, e'⟩ | ⟨xs, hx, e'⟩ | ⟨kvs, hx, e'⟩
    · subst e'
      obtain ⟨its, r, pl, hz⟩ := I.list hx
      have hlen := r.length
      exact wpAny_truthy_list pl.isList (by simp only [List.size_toArray]; omega) ⟨H, I.tok _, by rw [isEmpty_of r]; exact q⟩
    · subst e'
      obtain ⟨its, r, pl, hz⟩ := I.tuple hx
      have hlen := r.length
      exact truthy_tuple pl (by simp only [List.size_toArray]; omega) ⟨H, I.tok _, by rw [isEmpty_of r]; exact q⟩
    · subst e'
      obtain ⟨hz, hS, vs, r, m⟩ : kvs.length ≤ sizeLine ∧ (p == sysModules) = false ∧ ∃ vs, KV kvs vs ∧ s.heap.DictOf (mixKind X.prog X.w) p vs := I.hok p _ hx
      have hlen : kvs.length = vs.length := Paired.length r
      exact wpAny_truthy_dict hS m (by omega) ⟨H, I.tok _, by rw [isEmpty_kv r]; exact q⟩
  | _ => exact (show False from e).elim
/-- any expression whose test is its value's truth (a name, a call, a subscript, a field ..: he by fun _ => rfl) -/
theorem pt_truth (ha : PE X a ta) (he : ∀ whole, isTrue a X.env whole = (do let v ← whole; standAt a.pos; holding [v] (truthy v))) :
    PT X a (fun σ H Q => ta σ H fun x H' => ∃ k, TruV X.K x H' k ∧ Q k H') := by
  intro pins s σ H Q I h
  exact isTrue_plain (thn (ha pins s σ H _ I h) fun v s1 ⟨x, H1, I1, r1, q1⟩ => tru_ok pins s1 σ H1 x v Q I1 r1 q1) (he _)

theorem op_add_str : OpR X (binaryOp .Add) (fun x y H Q => ∃ i j, x = .str i ∧ y = .str j ∧ i.length + j.length ≤ sizeLine ∧ Q (.str (i ++ j)) H) := by
  intro pins s σ H x y v u Q I rx ry h
  obtain ⟨i, j, rfl, rfl, hz, q⟩ := h
  obtain ⟨t, rfl⟩ := rx
  obtain ⟨t', rfl⟩ := ry
  exact add_str (fun t' tk => ⟨.str (i ++ j), H, I.tok _, ⟨_, rfl⟩, q⟩) hz
/-! ### scalar builtins, by CallR -/
theorem vals1 {x : V} {us : List Value} (r : Vals [x] us) : ∃ u, us = [u] ∧ RelV x u := by
  cases r with
  | cons r1 r2 => cases r2; exact ⟨_, rfl, r1⟩
theorem vals2 {x y : V} {us : List Value} (r : Vals [x, y] us) : ∃ u w', us = [u, w'] ∧ RelV x u ∧ RelV y w' := by
  cases r with
  | cons r1 r2 =>
    cases r2 with
    | cons r3 r4 => cases r4; exact ⟨_, _, rfl, r1, r3⟩
theorem call_abs : CallR X (.builtin "abs") (fun xs H Q => ∃ i, xs = [.int i] ∧ Q (.int (if i < 0 then -i else i)) H) := by
  intro pins s σ H xs us Q I r h
  obtain ⟨i, rfl, q⟩ := h
  obtain ⟨u, rfl, t, rfl⟩ := vals1 r
  exact call_abs_int fun u tk => ⟨.int (if i < 0 then -i else i), H, I.tok _, ⟨_, rfl⟩, q⟩
theorem call_max2 (hc : X.calm = true) : CallR X (.builtin "max") (fun xs H Q => ∃ i j, xs = [.int i, .int j] ∧ Q (.int (if j > i then j else i)) H) := by
  intro pins s σ H xs us Q I r h
  obtain ⟨i, j, rfl, q⟩ := h
  obtain ⟨u, w', rfl, ⟨t, rfl⟩, ⟨t', rfl⟩⟩ := vals2 r
  refine max_two_ints (I.ok.hd hc) fun h' tk k => ⟨_, H, I.kept k, ?_, q⟩
  by_cases hj : j > i
  · rw [if_pos hj, if_pos hj]; exact ⟨_, rfl⟩
  · rw [if_neg hj, if_neg hj]; exact ⟨_, rfl⟩
theorem call_min2 (hc : X.calm = true) : CallR X (.builtin "min") (fun xs H Q => ∃ i j, xs = [.int i, .int j] ∧ Q (.int (if j < i then j else i)) H) := by
  intro pins s σ H xs us Q I r h
  obtain ⟨i, j, rfl, q⟩ := h
  obtain ⟨u, w', rfl, ⟨t, rfl⟩, ⟨t', rfl⟩⟩ := vals2 r
  refine min_two_ints (I.ok.hd hc) fun h' tk k => ⟨_, H, I.kept k, ?_, q⟩
  by_cases hj : j < i
  · rw [if_pos hj, if_pos hj]; exact ⟨_, rfl⟩
  · rw [if_neg hj, if_neg hj]; exact ⟨_, rfl⟩
theorem call_int1 : CallR X (.type "int") (fun xs H Q => (∃ i, xs = [.int i] ∧ Q (.int i) H) ∨ ∃ k, xs = [.bl k] ∧ Q (.int (if k then 1 else 0)) H) := by
  intro pins s σ H xs us Q I r h
  rcases h with ⟨i, rfl, q⟩ | ⟨k, rfl, q⟩
  · obtain ⟨u, rfl, t, rfl⟩ := vals1 r
    exact call_int_int ⟨.int i, H, I, ⟨_, rfl⟩, q⟩
  · obtain ⟨u, rfl, r1⟩ := vals1 r
    cases r1
    exact call_int_bool ⟨.int (if k then 1 else 0), H, I.tok _, ⟨_, rfl⟩, q⟩
/-- len of a str, a bytes, a list, a tuple -/
def LenV (K : PySem.W.Frag) (x : V) (H : Hp) (n : Nat) : Prop :=
  match x with
  | .str y => y.length ≤ sizeLine ∧ n = y.length
  | .byt y => y.size ≤ sizeLine ∧ n = y.size
  | .ref p => (∃ xs, SqL K H p xs ∧ n = xs.length) ∨ ∃ xs, SqT K H p xs ∧ n = xs.length
  | _ => False
theorem call_len : CallR X (.builtin "len") (fun xs H Q => ∃ x n, xs = [x] ∧ LenV X.K x H n ∧ Q (.int n) H) := by
  intro pins s σ H xs us Q I r h
  obtain ⟨x, n, rfl, e, q⟩ := h
  obtain ⟨u, rfl, rx⟩ := vals1 r
  have hl := line63
  have hs : sizeLine = 16777216 := sizeLine_eq
  cases x with
  | str y =>
    obtain ⟨t, rfl⟩ := rx
    obtain ⟨hy, e'⟩ : y.length ≤ sizeLine ∧ n = y.length := e
    subst e'
    exact len_str (by omega) ⟨.int _, H, I.tok _, ⟨_, rfl⟩, q⟩
  | byt y =>
    obtain ⟨t, rfl⟩ := rx
    obtain ⟨hy, e'⟩ : y.size ≤ sizeLine ∧ n = y.size := e
    subst e'
    exact PySem.W.len_bytes (by omega) ⟨.int _, H, I.tok _, ⟨_, rfl⟩, q⟩
  | ref p =>
    cases rx
    have e' : (∃ xs, SqL X.K H p xs ∧ n = xs.length) ∨ ∃ xs, SqT X.K H p xs ∧ n = xs.length := e
    rcases e' with ⟨xs, hx, e'⟩ | ⟨xs, hx, e'⟩
    · subst e'
      obtain ⟨its, r', pl, hz⟩ := I.list hx
      have hlen := r'.length
      exact Calls.call_len_list pl.isList (by simp only [List.size_toArray]; omega) ⟨.int xs.length, H, I.tok _, ⟨_, by simp only [List.size_toArray]; rw [hlen]⟩, q⟩
    · subst e'
      obtain ⟨its, r', pl, hz⟩ := I.tuple hx
      have hlen := r'.length
      exact len_tuple pl (by simp only [List.size_toArray]; omega) ⟨.int xs.length, H, I.tok _, ⟨_, by simp only [List.size_toArray]; rw [hlen]⟩, q⟩
  | _ => exact (show False from e).elim
end
end L2

namespace L2
open PySem PySem.Spec PyProof.Rows

/-! ### an instance, its attributes a map -/
structure ObjM (h : Heap) (x dx C : Addr) (mA : Str → Option Value) : Prop where
  obj : h.get? x = some (PySem.W.instObj C dx)
  ns : h.Ns1 dx mA
  ne : dx ≠ x

theorem lookIn_ns {h : Heap} {dx : Addr} {mA : Str → Option Value} (n : h.Ns1 dx mA) : ∃ od, h.get? dx = some od ∧ ∀ name, PySem.W.lookIn name od = some (mA name) := by
  obtain ⟨o, es, ep, ho, hd, hk, _, hm⟩ := n
  refine ⟨o, ho, fun name => ?_⟩
  have e := hm name
  unfold nsFind findBy at e
  rw [← Array.find?_toList] at e
  unfold PySem.W.lookIn
  rw [hd]
  dsimp only
  split
  · rename_i y q
    rw [q] at e
    exact congrArg some e
  · rename_i q
    rw [q] at e
    have a : es.toList.any (·.refKey) = false := by
      rw [List.any_eq_false]
      intro y hy
      obtain ⟨z, t, hkey⟩ := hk y (Array.mem_toList_iff.mp hy)
      simp [DictEntry.refKey, hkey]
    have a' : ¬ es.toList.any (·.refKey) = true := by rw [a]; exact Bool.false_ne_true
    rw [if_neg a']
    exact congrArg some e

theorem ObjM.look {h : Heap} {x dx C : Addr} {mA : Str → Option Value} (I : ObjM h x dx C mA) : ∃ od, PySem.W.InstAt h x (PySem.W.instObj C dx) C (some od) ∧ ∀ name, PySem.W.lookIn name od = some (mA name) :=
  let ⟨od, ho, hl⟩ := lookIn_ns I.ns
  ⟨od, ⟨I.obj, rfl, rfl, ho⟩, hl⟩

section
variable {prog : Program} {w : World} {A : Around} {E : Value → Shared → Prop} {s : Shared} {K : PySem.W.Frag} {x dx C f : Addr} {mA : Str → Option Value} {name : Str} {v : Value}

end

theorem RelO.some_of {v : V} {o : Option Value} (r : RelO (some v) o) : ∃ u, o = some u ∧ RelV v u := by
  cases o with
  | none => exact (show False from r).elim
  | some u => exact ⟨u, rfl, r⟩
section
variable {P : Program} {w : World} {H H' : Hp} {h h' : Heap} {a C dx : Addr} {fs fs' : List (Str × V)}
theorem ins_get (hok : HOk P w H h) (e : H a = some (.ins C dx fs)) : ∃ mA, ObjM h a dx C mA ∧ (∀ f, RelO (fs.lookup f) (mA f)) ∧ PySem.Within mA (fs.map (·.1)) ∧ fs.length ≤ 1000 ∧ H dx = some (.own a) := by
  obtain ⟨d, z, ne, ob, mA, n, r, q⟩ := (show ObjOk P w H h a (.ins C dx fs) from hok a _ e)
  exact ⟨mA, ⟨ob, n, ne⟩, r, q, z, d⟩
end

/-! ### what of the text a class must have -/
structure Cls (K : PySem.W.Frag) (C : Addr) : Prop where
  pg : PySem.W.plainGet K C Str.empty = true
  hd : PySem.W.hasDictIn K C = true
  po : PySem.W.plainOver K C = true
  sa : PySem.W.findIn K (.ref C) "__setattr__" = some (some (.builtin "object.__setattr__"))
theorem Cls.get {K : PySem.W.Frag} {C : Addr} (c : Cls K C) (f : Str) : PySem.W.plainGet K C f = true := c.pg
section
variable {X : Cx} {pins : List (Addr × Obj)} {σ : St} {H : Hp} {s : Shared} {a C dx : Addr} {fs : List (Str × V)} {f : Str} {v : V} {A : Around} {E : Value → Shared → Prop}

/-- a new instance, tracked, without attributes -/
theorem Inv.made (I : Inv X pins σ H s) : Inv X pins σ (upd (upd H s.heap.objs.size (.own (s.heap.objs.size + 1))) (s.heap.objs.size + 1) (.ins C s.heap.objs.size []))
    { s with heap := (s.heap.push PySem.W.emptyDict).push (PySem.W.instObj C s.heap.objs.size) } := by
  have e1 : (s.heap.push PySem.W.emptyDict).get? s.heap.objs.size = some PySem.W.emptyDict := Heap.get?_push_size s.heap rfl
  have e2 : ((s.heap.push PySem.W.emptyDict).push (PySem.W.instObj C s.heap.objs.size)).get? (s.heap.objs.size + 1) = some (PySem.W.instObj C s.heap.objs.size) := by
    have := Heap.get?_push_size (s.heap.push PySem.W.emptyDict) (o := PySem.W.instObj C s.heap.objs.size) rfl
    rwa [Heap.size_push] at this
  have e3 : (s.heap.push PySem.W.emptyDict).Ns s.heap.objs.size (fun _ => none) := ⟨PySem.W.emptyDict, #[], _, e1, rfl, (fun e he => absurd he (by simp)), fun _ => rfl⟩
  have I1 := I.laid (a := s.heap.objs.size) (o := .own (s.heap.objs.size + 1)) (h' := s.heap.push PySem.W.emptyDict) (t' := s.toks) (fun b u q => Heap.get?_push_of_some _ q) (Nat.le_refl _) ⟨_, e1⟩
  refine I1.laid (a := s.heap.objs.size + 1) (o := .ins C s.heap.objs.size []) (t' := s.toks) (fun b u q => Heap.get?_push_of_some _ q) (Nat.le_of_eq (Heap.size_push _ _)) ?_
  have ne : s.heap.objs.size ≠ s.heap.objs.size + 1 := Nat.ne_of_lt (Nat.lt_succ_self _)
  refine ⟨by rw [upd_ne ne, upd_same], Nat.zero_le _, ne, e2, fun _ => none, (Heap.Ns1.of_empty e3).at fun o q => Heap.get?_push_of_some _ q, fun _ => True.intro, fun y hy => absurd rfl hy⟩

end

section
variable {X : Cx} {o e value : Expr} {f : Str} {pos pos' tpos : Pos} {ta tv : TE}
end

/-! ### isinstance -/
section
variable {X : Cx} {pins : List (Addr × Obj)} {σ : St} {H : Hp} {s : Shared} {A : Around} {E : Value → Shared → Prop} {Q : Value → Shared → Prop} {c : Value} {b : Bool}
/-- the type of a value, as the fragment's deciders take it; for an instance its class -/
inductive TyOf (K : PySem.W.Frag) (H : Hp) : V → Value → Prop where
  | non : TyOf K H .non (.type "NoneType")
  | bl (x : Bool) : TyOf K H (.bl x) (.type "bool")
  | int (i : Int) : TyOf K H (.int i) (.type "int")
  | str (x : Str) : TyOf K H (.str x) (.type "str")
  | flt (x : UInt64) : TyOf K H (.flt x) (.type "float")
  | lst {a : Addr} {xs : List V} (e : H a = some (.lst xs)) : TyOf K H (.ref a) (.type "list")
  | frz {a : Addr} {o : Obj} {xs : List V} (e : H a = some (.frz o (.lst xs))) : TyOf K H (.ref a) (.type "list")
  | tup {a : Addr} {xs : List V} (e : H a = some (.tup xs)) : TyOf K H (.ref a) (.type "tuple")
  | dK {a : Addr} {kvs : List (Key × V)} (e : H a = some (.dK kvs)) : TyOf K H (.ref a) (.type "dict")
  | dT {a : Addr} {kvs : List (List Key × V)} (e : H a = some (.dT kvs)) : TyOf K H (.ref a) (.type "dict")
  | ins {a C dx : Addr} {fs : List (Str × V)} (e : H a = some (.ins C dx fs)) (cl : Cls K C) (ha : PySem.W.findIn K (.ref C) "__class__" = some (some (.builtin "object.__class__")))
      (hn : PySem.W.specialIn K (.builtin "object.__class__") "__get__" = some (some (.builtin "getset_descriptor.__get__"))) (htk : PySem.W.takesIn K (.builtin "object.__class__") = some true)
      (hm : PySem.W.mroIn K C (.type "object") = some true) : TyOf K H (.ref a) (.ref C)
/-- isinstance(x, c) for one class c, a built-in or an own one: kitOne's answer -/
theorem isinst_ok {x : V} {u t : Value} (I : Inv X pins σ H s) (rx : RelV x u) (ty : TyOf X.K H x t) (e : PySem.W.kitOne X.K t c = some b) (h : ∀ tk, Q (.bool b) { s with toks := tk }) :
    wpAny (model X.prog X.w) A (call (.builtin "isinstance") [u, c]) Q E s := by
  cases ty with
  | non => cases (show u = Value.none from rx); exact PySem.W.kia_one PySem.W.kitx_none I.kIn True.intro e (fun z => nomatch z) h
  | bl y => cases (show u = Value.bool y from rx); exact PySem.W.kia_one PySem.W.kitx_bool I.kIn True.intro e (fun z => nomatch z) h
  | int i => obtain ⟨t, q⟩ := (show ∃ t, u = Value.int i t from rx); cases q; exact PySem.W.kia_one PySem.W.kitx_int I.kIn True.intro e (fun z => nomatch z) h
  | str y => obtain ⟨t, q⟩ := (show ∃ t, u = Value.str y t from rx); cases q; exact PySem.W.kia_one PySem.W.kitx_str I.kIn True.intro e (fun z => nomatch z) h
  | flt y => obtain ⟨t, q⟩ := (show ∃ t, u = Value.float y t from rx); cases q; exact PySem.W.kia_one PySem.W.kitx_float I.kIn True.intro e (fun z => nomatch z) h
  | @lst a xs ea =>
    cases (show u = Value.ref a from rx)
    obtain ⟨_, _, n, _, h1⟩ := (show ObjOk X.prog X.w H s.heap a (.lst xs) from I.hok a _ ea)
    exact PySem.W.kia_one PySem.W.kitx_list I.kIn ⟨_, h1, rfl⟩ e (fun z => nomatch z) h
  | @frz a ob xs ea =>
    cases (show u = Value.ref a from rx)
    obtain ⟨_, _, _, n, _, h1⟩ := (show ObjOk X.prog X.w H s.heap a (.frz ob (.lst xs)) from I.hok a _ ea)
    exact PySem.W.kia_one PySem.W.kitx_list I.kIn ⟨_, h1, rfl⟩ e (fun z => nomatch z) h
  | @tup a xs ea =>
    cases (show u = Value.ref a from rx)
    obtain ⟨_, _, _, p⟩ := (show ObjOk X.prog X.w H s.heap a (.tup xs) from I.hok a _ ea)
    obtain ⟨o, h1, h2, _⟩ := p
    exact PySem.W.kia_one PySem.W.kitx_tuple I.kIn ⟨o, h1, h2⟩ e (fun z => nomatch z) h
  | @dK a kvs ea =>
    cases (show u = Value.ref a from rx)
    obtain ⟨_, _, vs, _, p⟩ := (show ObjOk X.prog X.w H s.heap a (.dK kvs) from I.hok a _ ea)
    obtain ⟨o, es, ep, h1, h2, _⟩ := p
    exact PySem.W.kia_one PySem.W.kitx_dict I.kIn ⟨o, h1, h2.1⟩ e (fun z => nomatch z) h
  | @dT a kvs ea =>
    cases (show u = Value.ref a from rx)
    obtain ⟨_, _, xs, _, o, es, ep, h1, h2, _⟩ := (show ObjOk X.prog X.w H s.heap a (.dT kvs) from I.hok a _ ea)
    exact PySem.W.kia_one PySem.W.kitx_dict I.kIn ⟨o, h1, h2.1⟩ e (fun z => nomatch z) h
  | @ins a C dx fs ea cl ha hn htk hm =>
    cases (show u = Value.ref a from rx)
    obtain ⟨mA, O, _⟩ := ins_get I.hok ea
    obtain ⟨od, J, _⟩ := O.look
    exact PySem.W.kia_one (PySem.W.kitx_own (cl.get _) cl.hd ha hn htk hm) I.kIn J e (fun z => nomatch z) h
end
end L2

namespace L2
open PySem PySem.Spec PyProof.Rows

/-! ### room -/
structure Room (k : Nat) (A : Around) : Prop where
  hd : A.handled = none
  dp : A.depth + 3 * k + 5 < recursionLimit
  un : A.units + 16 * k + 200 < cLine
theorem Room.mono {j k : Nat} {A : Around} (r : Room k A) (h : j ≤ k) : Room j A := ⟨r.hd, by have := r.dp; omega, by have := r.un; omega⟩
theorem Room.deeper {k : Nat} {A : Around} (r : Room (k + 1) A) (env : Env) : Room k (A.deeper env) :=
  ⟨r.hd, by have := r.dp; show A.depth + 1 + 3 * k + 5 < _; omega, by have := r.un; show A.units + 3 + 16 * k + 200 < _; omega⟩
theorem Room.in1 {k : Nat} {A : Around} (r : Room (k + 1) A) : Room k A.in1 :=
  ⟨r.hd, by have := r.dp; show A.depth + 3 * k + 5 < _; omega, by have := r.un; show A.units + 1 + 16 * k + 200 < _; omega⟩
theorem Room.depth {k : Nat} {A : Around} (r : Room k A) : A.depth < recursionLimit := by have := r.dp; omega
theorem Room.units {k : Nat} {A : Around} (r : Room k A) : A.units + 64 < cLine := by have := r.un; omega
/-! ### argument lists and displays -/
def tNil : TA := fun _ H Q => Q [] H
def tCons (ta : TE) (tr : TA) : TA := fun σ H Q => ta σ H fun x H1 => tr σ H1 fun xs H2 => Q (x :: xs) H2
section
variable {X : Cx} {e : Expr} {es : List Expr} {te : TE} {t : TA} {pos : Pos}
theorem pa_nil : PA X [] tNil := fun _ _ _ _ H Q I h => Calls.spliced_nil ⟨[], H, I, .nil, h⟩
theorem pa_cons (ha : PE X e te) (hr : PA X es t) (hs : starEach (e :: es) X.env = (false, eval e X.env) :: starEach es X.env := by rfl) : PA X (e :: es) (tCons te t) := by
  intro pos pins s σ H Q I h
  rw [hs]
  show wpAny _ _ (spliced ((false, eval e X.env) :: backTo pos (starEach es X.env))) _ _ s
  refine Calls.spliced_cons (thn (ha pins s σ H _ I h) fun u s1 ⟨x, H1, I1, r1, q1⟩ => ?_)
  exact thn (hr pos pins s1 σ H1 _ I1 q1) fun us s2 ⟨xs, H2, I2, r2, q2⟩ => ⟨x :: xs, H2, I2, .cons r1 r2, q2⟩

/-- a tuple, a list of written items -/
def tTup (t : TA) : TE := fun σ H Q => t σ H fun xs H1 => xs.length ≤ sizeLine ∧ ∀ p, H1 p = none → Q (.ref p) (upd H1 p (.tup xs))
def tLst (t : TA) : TE := fun σ H Q => t σ H fun xs H1 => xs.length ≤ sizeLine ∧ ∀ p, H1 p = none → Q (.ref p) (upd H1 p (.lst xs))
theorem pe_tup {x1} (h : PA X es t) : PE X (.Tuple es x1 pos) (tTup t) := by
  intro pins s σ H Q I hq
  refine wpAny_Tuple_spliced (thn (h pos pins s σ H _ I hq) fun us s1 ⟨xs, H1, I1, r, z, q⟩ => ⟨by rw [← r.length]; exact z, ?_⟩)
  have hf : H1 s1.heap.objs.size = none := I1.hok.fresh (Nat.le_refl _)
  refine ⟨.ref s1.heap.objs.size, upd H1 s1.heap.objs.size (.tup xs), I1.laid (t' := s1.toks) (fun b u e => Heap.get?_push_of_some _ e) (Nat.le_refl _) ?_, rfl, q _ hf⟩
  exact ⟨z, us, r, ⟨_, Heap.get?_push_size _ rfl, rfl, _, rfl⟩⟩
theorem pe_lst (h : PA X es t) : PE X (.List es pos) (tLst t) := by
  intro pins s σ H Q I hq
  refine wpAny_List_spliced (thn (h pos pins s σ H _ I hq) fun us s1 ⟨xs, H1, I1, r, z, q⟩ => ⟨by rw [← r.length]; exact z, ?_⟩)
  have hf : H1 s1.heap.objs.size = none := I1.hok.fresh (Nat.le_refl _)
  refine ⟨.ref s1.heap.objs.size, upd H1 s1.heap.objs.size (.lst xs), I1.laid (t' := s1.toks) (fun b u e => Heap.get?_push_of_some _ e) (Nat.le_refl _) ?_, rfl, q _ hf⟩
  exact ⟨z, us, 0, r, Heap.get?_push_size _ rfl⟩
end

/-! ### what a def promises -/
/-- a def's promise: the bound arguments in the parameters' order, the heap, the wanted end, the wanted exception -/
abbrev Sp := List V → Hp → VK → XK → Prop
/-- how an exception lies behind a call (file 08 gives it): the callers' frames, abstract heap and state ahead of the call, the wish, the exception, the state -/
abbrev CXT := List Env → Hp → Shared → XK → Value → Shared → Prop

/-- the state at a call -/
structure Env0 (P : Program) (w : World) (K : PySem.W.Frag) (mg : Str → Option Value) (base : Heap) (A : Around) (outer : List Env) (s : Shared) (H : Hp) : Prop where
  frames : A.frames = some outer
  mod : Mod K mg base
  bs : ∀ b o, base.get? b = some o → s.heap.get? b = some o ∧ H b = none
  bsz : base.objs.size ≤ s.heap.objs.size
  funs : s.heap.FunFrames base outer
  frf : ∀ b ∈ frs outer, H b = none
  hok : HOk P w H s.heap
  bare : AllBare s.gens
/-- a call's end -/
def CE (outer : List Env) (P : Program) (w : World) (H : Hp) (s : Shared) (Q : VK) (u : Value) (s' : Shared) : Prop :=
  ∃ v H', s'.os = s.os ∧ AllBare s'.gens ∧ Un (frs outer) [] H H' s.heap s'.heap ∧ HOk P w H' s'.heap ∧ RelV v u ∧ Q v H'
def CR (CX : CXT) (outer : List Env) (P : Program) (w : World) (H : Hp) (s : Shared) (Q : VK) (E : XK) (r : Result) (s' : Shared) : Prop :=
  match r with
  | .ok (.ret u) => CE outer P w H s Q u s'
  | .ok _ => False
  | .error e => CX outer H s E e s'
structure FnOk (P : Program) (w : World) (K : PySem.W.Frag) (mg : Str → Option Value) (base : Heap) (CX : CXT) (k : Nat) (f : Addr) (fd : FuncData) (ps : List Str) (sp : Sp) : Prop where
  len : ∀ vs H Q E, sp vs H Q E → vs.length = ps.length
  run : ∀ (A : Around) (outer : List Env) (s : Shared) (H : Hp) (args : Args) (us : List Value) (vs : List V) (Q : VK) (E : XK), Room k A → Env0 P w K mg base A outer s H → BindsTo s fd args (ps.zip us) → Vals vs us → sp vs H Q E →
    codeAny (model P w) A (.call (.ref f) args) (CR CX outer P w H s Q E) s
theorem FnOk.mono {P : Program} {w : World} {K : PySem.W.Frag} {mg : Str → Option Value} {base : Heap} {CX : CXT} {j k : Nat} {f : Addr} {fd : FuncData} {ps : List Str} {sp : Sp} (F : FnOk P w K mg base CX j f fd ps sp) (h : j ≤ k) :
    FnOk P w K mg base CX k f fd ps sp := ⟨F.len, fun A outer s H args us vs Q E hr => F.run A outer s H args us vs Q E (hr.mono h)⟩
/-- a weaker promise -/
theorem FnOk.imp {P : Program} {w : World} {K : PySem.W.Frag} {mg : Str → Option Value} {base : Heap} {CX : CXT} {k : Nat} {f : Addr} {fd : FuncData} {ps : List Str} {sp sp' : Sp} (F : FnOk P w K mg base CX k f fd ps sp)
    (h : ∀ vs H Q E, sp' vs H Q E → sp vs H Q E) : FnOk P w K mg base CX k f fd ps sp' :=
  ⟨fun vs H Q E q => F.len vs H Q E (h _ _ _ _ q), fun A outer s H args us vs Q E hr he hb hv hs => F.run A outer s H args us vs Q E hr he hb hv (h _ _ _ _ hs)⟩

theorem Env0.in1 {P : Program} {w : World} {K : PySem.W.Frag} {mg : Str → Option Value} {base : Heap} {A : Around} {outer : List Env} {s : Shared} {H : Hp} (e : Env0 P w K mg base A outer s H) :
    Env0 P w K mg base A.in1 outer s H := ⟨e.frames, e.mod, e.bs, e.bsz, e.funs, e.frf, e.hok, e.bare⟩

section
variable {X : Cx} {pins : List (Addr × Obj)} {σ : St} {H : Hp} {s s' : Shared}
/-- from a body: what a callee wants -/
theorem Inv.env0 (I : Inv X pins σ H s) : Env0 X.prog X.w X.K X.mg X.base X.A X.stack s H :=
  ⟨I.ok.frames, I.ok.mod, I.bs, Nat.le_trans I.ok.bsz I.sz, I.stack, I.stkFree, I.hok, I.bare⟩
/-- behind a call -/
theorem Inv.after {Q : VK} {u : Value} (I : Inv X pins σ H s) (h : CE X.stack X.prog X.w H s Q u s') : EP X pins σ Q u s' := by
  obtain ⟨v, H', os, bare, un, hok, r, q⟩ := h
  obtain ⟨hh, g, d, t, os'⟩ := s'
  obtain rfl : os' = s.os := os
  exact ⟨v, H', I.call (h' := hh) (g' := g) (d' := d) (t' := t) (ch := []) un hok bare (fun b z => absurd z (by simp)), r, q⟩
end

/-! ### calls -/
/-- f(..): the written arguments, then the defaults dvs; E: what is wanted of an exception -/
def tCall (sp : Sp) (dvs : List V) (E : XK) (t : TA) : TE := fun σ H Q => t σ H fun vs H1 => sp (vs ++ dvs) H1 Q E
/-- how the parameters are bound: us the positional arguments, kw the keywords' values by name, ds the defaults that fill up -/
def Binds (K : PySem.W.Frag) (fd : FuncData) (ps : List Str) (ds : List Value) : Prop :=
  ∀ (s : Shared) (us : List Value), K.In s.heap → (us ++ ds).length = ps.length → BindsTo s fd ⟨us, []⟩ (ps.zip (us ++ ds))
/-- every parameter is given -/
theorem Binds.all {K : PySem.W.Frag} {fd : FuncData} {ps : List Str} (h : ∀ us : List Value, us.length = ps.length → bindArgs fd ⟨us, []⟩ = pure (ps.zip us)) : Binds K fd ps [] := fun s us _ hl => by
  rw [List.append_nil] at hl ⊢
  exact .of_eq (h us hl)

/-- an exception of a callee reaches what this body wants of exceptions -/
def Passes (CX : CXT) (X : Cx) (E : XK) : Prop := ∀ (pins : List (Addr × Obj)) (σ : St) (H : Hp) (s : Shared) (e : Value) (s' : Shared), Inv X pins σ H s → CX X.stack H s E e s' → X.xe e s'

section
variable {X : Cx} {CX : CXT} {k : Nat} {f C : Addr} {fd : FuncData} {ps : List Str} {sp : Sp} {dvs : List V} {ds : List Value} {E : XK} {x m : Str} {p pos apos : Pos} {e o : Expr} {es : List Expr} {ta : TE} {t : TA}

/-- the callee runs -/
theorem run_fn {pins : List (Addr × Obj)} {σ : St} {H : Hp} {s : Shared} {Q : VK} {us : List Value} {vs : List V} (F : FnOk X.prog X.w X.K X.mg X.base CX k f fd ps sp) (hr : Room k X.A) (hb : Binds X.K fd ps ds) (hd : Vals dvs ds) (hx : Passes CX X E)
    (I : Inv X pins σ H s) (r : Vals vs us) (h : sp (vs ++ dvs) H Q E) : wpAny (model X.prog X.w) X.A (call (.ref f) us) (EP X pins σ Q) X.xe s := by
  have r2 : Vals (vs ++ dvs) (us ++ ds) := r.append hd
  have hl : (us ++ ds).length = ps.length := by rw [← r2.length]; exact F.len _ _ _ _ h
  refine wpAny_call (codeAny_mono (F.run X.A X.stack s H ⟨us, []⟩ (us ++ ds) (vs ++ dvs) Q E hr I.env0 (hb s us I.kIn hl) r2 h) fun r s' hq => ?_)
  cases r with
  | error e => exact hx pins σ H s e s' I hq
  | ok fl =>
    cases fl with
    | ret u => exact I.after hq
    | next => exact False.elim hq
    | brk => exact False.elim hq
    | cont => exact False.elim hq

theorem pe_call (F : FnOk X.prog X.w X.K X.mg X.base CX k f fd ps sp) (hr : Room k X.A) (hg : Gl X x) (hm : X.mg x = some (.ref f)) (hk : PySem.W.keepIn X.K (.ref f) = true) (hb : Binds X.K fd ps ds) (hd : Vals dvs ds) (hx : Passes CX X E)
    (ha : PA X (e :: es) t) (hdb : (x == ("__debug__" : Str)) = false := by decide) (he : starEach (e :: es) X.env = (false, eval e X.env) :: starEach es X.env := by rfl) (hpl : (backTo pos (starEach es X.env)).any (·.1) = false := by rfl) :
    PE X (.Call (.Name x p) (e :: es) [] pos) (tCall sp dvs E t) := by
  intro pins s σ H Q I h
  refine wpAny_Call_Name_kw (ld_glob I hg hm ?_ hdb)
  refine PySem.W.callWith_K (h₀ := X.base) I.ok.mod.kin hk (thn (ha pos pins s σ H _ I h) fun us s1 ⟨vs, H1, I1, r, q⟩ => ⟨I1.kIn, ?_⟩) he hpl
  exact run_fn F hr hb hd hx I1 r q
theorem pe_call0 (F : FnOk X.prog X.w X.K X.mg X.base CX k f fd ps sp) (hr : Room k X.A) (hg : Gl X x) (hm : X.mg x = some (.ref f)) (hk : PySem.W.keepIn X.K (.ref f) = true) (hb : Binds X.K fd ps ds) (hd : Vals dvs ds) (hx : Passes CX X E)
    (hdb : (x == ("__debug__" : Str)) = false := by decide) : PE X (.Call (.Name x p) [] [] pos) (tCall sp dvs E tNil) := by
  intro pins s σ H Q I h
  refine wpAny_Call_Name_kw (ld_glob I hg hm ?_ hdb)
  exact PySem.W.callWith_K0 I.kIn hk (run_fn (us := []) F hr hb hd hx I .nil h)

end

section
variable {X : Cx} {CX : CXT} {k : Nat} {f C : Addr} {fd : FuncData} {ps ks : List Str} {sp : Sp} {E : XK} {x m : Str} {p pos apos kpos : Pos} {e o : Expr} {es : List Expr} {kws : List Keyword} {te ta : TE} {t tk : TA} {nm : Option Str}
variable {g : List Value → List Value → List Value} {gV : List V → List V → List V}
end

/-! ### a def's body keeps its promise -/
/-- names: the parameters first -/
structure FnScope (N P : List Str) (sc : Scope) : Prop where
  kind : sc.kind = .function
  co : sc.isCoroutine = false
  gen : sc.isGenerator = false
  nd : N.Nodup
  pre : N.take P.length = P
  par : ∀ x ∈ P, sc.names.lookup x = some .local ∨ sc.names.lookup x = some .cell
  nofree : ∀ y ∈ sc.names, y.2 ≠ .free

theorem bindL_out {kindOf : Str → Option NameKind} {x : Str} : ∀ {binds : List (Str × Value)} {m : Str → Option Value}, (∀ v, (x, v) ∉ binds) → bindL kindOf binds m x = m x
  | [], _, _ => rfl
  | (n, v) :: r, m, h => by
    unfold bindL
    rw [bindL_out fun w hw => h w (List.mem_cons_of_mem _ hw)]
    split
    · have : x ≠ n := by rintro rfl; exact h v List.mem_cons_self
      simp [this]
    · rfl
theorem bindC_out {kindOf : Str → Option NameKind} {x : Str} : ∀ {binds : List (Str × Value)} {m : Str → Option Value}, (∀ v, (x, v) ∉ binds) → bindC kindOf binds m x = m x
  | [], _, _ => rfl
  | (n, v) :: r, m, h => by
    unfold bindC
    rw [bindC_out fun w hw => h w (List.mem_cons_of_mem _ hw)]
    split
    · rfl
    · have : x ≠ n := by rintro rfl; exact h v List.mem_cons_self
      simp [this]
theorem bindL_get {kindOf : Str → Option NameKind} {x : Str} {v : Value} : ∀ {P : List Str} {vs : List Value} {i : Nat} {m : Str → Option Value}, P.Nodup → P[i]? = some x → vs[i]? = some v → kindOf x = some .local →
    bindL kindOf (P.zip vs) m x = some v
  | [], _, _, _, _, h, _, _ => by simp at h
  | _ :: _, [], _, _, _, _, h, _ => by simp at h
  | p :: P, w :: vs, 0, m, nd, h1, h2, hk => by
    simp at h1 h2; subst h1; subst h2
    show bindL kindOf ((p, w) :: P.zip vs) m p = _
    unfold bindL
    rw [bindL_out fun v hv => (List.nodup_cons.mp nd).1 (List.of_mem_zip hv).1, if_pos hk]
    simp
  | p :: P, w :: vs, i + 1, m, nd, h1, h2, hk => by
    show bindL kindOf ((p, w) :: P.zip vs) m x = _
    unfold bindL
    exact bindL_get (i := i) (List.nodup_cons.mp nd).2 (by simpa using h1) (by simpa using h2) hk
theorem bindC_get {kindOf : Str → Option NameKind} {x : Str} {v : Value} : ∀ {P : List Str} {vs : List Value} {i : Nat} {m : Str → Option Value}, P.Nodup → P[i]? = some x → vs[i]? = some v → kindOf x ≠ some .local →
    bindC kindOf (P.zip vs) m x = some v
  | [], _, _, _, _, h, _, _ => by simp at h
  | _ :: _, [], _, _, _, _, h, _ => by simp at h
  | p :: P, w :: vs, 0, m, nd, h1, h2, hk => by
    simp at h1 h2; subst h1; subst h2
    show bindC kindOf ((p, w) :: P.zip vs) m p = _
    unfold bindC
    rw [bindC_out fun v hv => (List.nodup_cons.mp nd).1 (List.of_mem_zip hv).1, if_neg hk]
    simp
  | p :: P, w :: vs, i + 1, m, nd, h1, h2, hk => by
    show bindC kindOf ((p, w) :: P.zip vs) m x = _
    unfold bindC
    exact bindC_get (i := i) (List.nodup_cons.mp nd).2 (by simpa using h1) (by simpa using h2) hk

/-- the names' values at the entry -/
def start (N : List Str) (vs : List V) : St := vs.map some ++ List.replicate (N.length - vs.length) none

/-- the context of a def's body, at its entry; an exception leaves the frame, then lies as CX says -/
def cxOf (CX : CXT) (P : Program) (w : World) (K : PySem.W.Frag) (mg : Str → Option Value) (base : Heap) (N : List Str) (qual : Str) (scope : Scope) (f : Addr) (cd : Value) (A : Around) (outer : List Env) (s : Shared) (H : Hp) (E : XK) : Cx where
  prog := P
  w := w
  K := K
  mg := mg
  base := base
  A := A.deeper (envOfC qual scope s.heap.objs.size f cd)
  N := N
  s₀ := s
  H₀ := H
  env := envOfC qual scope s.heap.objs.size f cd
  outer := outer
  stack := envOfC qual scope s.heap.objs.size f cd :: outer
  ex := []
  calm := true
  fn := fun _ => true
  pn := []
  xe := fun e s' => wpAny (model P w) (A.deeper (envOfC qual scope s.heap.objs.size f cd)) (leaving (envOfC qual scope s.heap.objs.size f cd) e) (fun _ s'' => CX outer H s E e s'') (fun e' s'' => CX outer H s E e' s'') s'

theorem cell_has {sc : Scope} {n : Nat} {x : Str} (h : sc.names.lookup x = some .cell) : ∃ c, (cellsFrom n sc.names []).lookup x = some c := by
  have q := PySem.W.cellsFrom_some sc.names n [] (.inl h)
  exact Option.isSome_iff_exists.mp q

theorem inv_start {CX : CXT} {P : Program} {w : World} {K : PySem.W.Frag} {mg : Str → Option Value} {base : Heap} {N ps : List Str} {qual : Str} {scope : Scope} {f : Addr} {cd : Value} {A : Around} {outer : List Env} {s s1 : Shared} {H : Hp} {E : XK} {us : List Value} {vs : List V}
    (S : FnScope N ps scope) (hd : A.handled = none) (e0 : Env0 P w K mg base A outer s H) (hl : vs.length = ps.length) (r : Vals vs us)
    (x : InCallC s s.heap.objs.size (bindL (envOfC qual scope s.heap.objs.size f cd).kindOf (ps.zip us) fun _ => none) (cellsFrom (s.heap.objs.size + 1) scope.names []) (bindC (envOfC qual scope s.heap.objs.size f cd).kindOf (ps.zip us) fun _ => none) s1) :
    Inv (cxOf CX P w K mg base N qual scope f cd A outer s H E) [] (start N vs) H s1 := by
  have hpl : ps.length ≤ N.length := by have := congrArg List.length S.pre; rw [List.length_take] at this; omega
  obtain ⟨h1, tk, rfl, hk⟩ := x.done
  have noA : ∀ b : Addr, b ∉ (cxOf CX P w K mg base N qual scope f cd A outer s H E).ex := fun b z => absurd (show b ∈ ([] : List Addr) from z) (by simp)
  refine ⟨⟨e0.mod, S.kind, rfl, rfl, Nat.le_refl _, fun y z c h1 h2 => ?_, fun y hy => ?_, fun y c _ h => ?_, fun _ => hd, Around.frames_deeper e0.frames, .inr ⟨rfl, rfl⟩, fun b z => absurd z (noA b), e0.bs, e0.bsz, fun b _ _ => noA b, fun b z => absurd z (noA b), e0.funs, e0.frf⟩,
    rfl, e0.bare, Un.kept hk, ⟨_, x.toInCall.ns, fun i y v h1 h2 h3 => ?_⟩, fun y c h => ⟨_, x.cell y c h⟩, e0.hok.fresh (Nat.le_refl _), fun y c h => ?_, fun p hp => absurd (show p ∈ ([] : List (Addr × Obj)) from hp) (by simp), e0.hok.kept hk, ?_⟩
  · exact name_of_addr x.apart (PySem.mem_of_lookup h1) (PySem.mem_of_lookup h2)
  · have hy : scope.names.lookup y = some .cell ∨ scope.names.lookup y = some .free := hy
    rcases hy with hy | hy
    · exact cell_has hy
    · exact absurd rfl (S.nofree _ (PySem.mem_of_lookup hy))
  · exact Nat.le_of_lt (x.above y c (PySem.mem_of_lookup h))
  · have hi : i < vs.length := by
      unfold start at h2
      by_cases hi : i < vs.length
      · exact hi
      · rw [List.getElem?_append_right (by simpa using hi)] at h2
        rw [List.getElem?_replicate] at h2
        split at h2 <;> cases h2
    have ha : vs[i]? = some v := by
      unfold start at h2
      rw [List.getElem?_append_left (by simpa using hi), List.getElem?_map] at h2
      cases e : vs[i]? with
      | none => rw [e] at h2; cases h2
      | some a => rw [e] at h2; cases h2; rfl
    obtain ⟨u, hu, rv⟩ := r.get ha
    have hp : ps[i]? = some y := by
      rw [← S.pre, List.getElem?_take_of_lt (by omega)]; exact h1
    have ndP : ps.Nodup := by rw [← S.pre]; exact S.nd.sublist (List.take_sublist _ _)
    refine ⟨u, rv, ?_⟩
    rcases S.par y (List.mem_of_getElem? hp) with k | k
    · exact .inl ⟨k, bindL_get ndP hp hu k⟩
    · obtain ⟨c, e⟩ := cell_has (n := s.heap.objs.size + 1) k
      refine .inr ⟨.inl k, c, e, ?_⟩
      have q := x.cell y c e
      rw [bindC_get ndP hp hu (by show scope.names.lookup y ≠ _; rw [k]; decide)] at q
      exact q
  · exact e0.hok.fresh (Nat.le_of_lt (x.above y c (PySem.mem_of_lookup h)))
  · unfold start
    show _ = N.length
    rw [List.length_append, List.length_map, List.length_replicate]
    omega

/-- THE RULE: a def (or a method) of the text, by its body. The body's reading t is chosen for each entry; it is run at the parameters' values -/
theorem fn_of {CX : CXT} {P : Program} {w : World} {K : PySem.W.Frag} {mg : Str → Option Value} {base : Heap} {k : Nat} {f : Addr} {name qual : Str} {params : Arguments} {body : List Stmt} {scope : Scope} {dV kV doc pm cdv ct oc : Value} {an od : Option Addr}
    {osl : Array (Option Value)} {N ps : List Str} {sp : Sp} (lk : K.lookup f = some ⟨oc, od, .func (PySem.W.fnOf name qual params body scope dV kV doc pm an cdv ct), osl⟩) (hcd : PySem.W.codeIn K cdv qual = true) (S : FnScope N ps scope)
    (len : ∀ vs H Q E, sp vs H Q E → vs.length = ps.length)
    (hbody : ∀ (A : Around) (outer : List Env) (s : Shared) (H : Hp) (vs : List V) (Q : VK) (E : XK), Room k (A.deeper (envOfC qual scope s.heap.objs.size f cdv)) → sp vs H Q E →
      ∃ t, PSs (cxOf CX P w K mg base N qual scope f cdv A outer s H E) body t ∧ t { nx := fun _ H' => Q .non H', rt := Q } (start N vs) H) :
    FnOk P w K mg base CX (k + 1) f (PySem.W.fnOf name qual params body scope dV kV doc pm an cdv ct) ps sp := by
  refine ⟨len, fun A outer s H args us vs Q E hr e0 hb r hsp => ?_⟩
  have hl := len _ _ _ _ hsp
  have KX : K.In s.heap := e0.mod.kin.keeps fun b o e => (e0.bs b o e).1
  have lim : s.heap.NoLimit := e0.mod.nolimit.keeps fun b o e => (e0.bs b o e).1
  have hkind : ∀ y ∈ ps.zip us, scope.names.lookup y.1 = some .local ∨ (scope.names.lookup y.1 = some .cell ∧ ((cellsFrom (s.heap.objs.size + 1) scope.names []).lookup y.1).isSome = true) := fun ⟨n, v⟩ hy => by
    rcases S.par n (List.of_mem_zip hy).1 with q | q
    · exact .inl q
    · exact .inr ⟨q, PySem.W.cellsFrom_some _ _ _ (.inl q)⟩
  refine codeAny_call_function hr.depth (KX _ _ lk) rfl S.co S.gen rfl (PySem.W.codeRec_of KX hcd) (hb _ _ _ _ ?_)
  refine wpAny_newFunctionEnv_cells S.kind hkind fun env he s1 x => ?_
  subst he
  refine ⟨lim.keeps x.toInCall.keep, codeAny_func ?_⟩
  obtain ⟨t, ht, hq⟩ := hbody A outer s H vs Q E (hr.deeper _) hsp
  have I : Inv (cxOf CX P w K mg base N qual scope f cdv A outer s H E) [] (start N vs) H s1 := inv_start S hr.hd e0 hl r x
  refine wpAny_mono (ht [] s1 (start N vs) H _ I hq) (fun fl s' hs => ?_) fun e s' hs => hs
  have fin : ∀ {σ' : St} {H' : Hp} {v : V} {u : Value}, Inv (cxOf CX P w K mg base N qual scope f cdv A outer s H E) [] σ' H' s' → RelV v u → Q v H' → CE outer P w H s Q u s' :=
    fun {σ' H' v u} J rv q => ⟨v, H', J.os, J.bare, J.base, J.hok, rv, q⟩
  cases fl with
  | ret u =>
    obtain ⟨v, σ', H', J, rv, q⟩ := hs
    exact fin J rv q
  | next =>
    obtain ⟨σ', H', J, q⟩ := hs
    exact fin (v := V.non) (u := Value.none) J rfl q
  | brk =>
    obtain ⟨_, _, _, q⟩ := hs
    exact False.elim q
  | cont =>
    obtain ⟨_, _, _, q⟩ := hs
    exact False.elim q
end L2

namespace L2
open PySem PySem.Spec PyProof.Rows
section
variable {X : Cx} {x : Str} {p pos : Pos} {e : Expr} {es : List Expr} {t : TA} {id T : String} {r : List V → Hp → VK → Prop}

def tCB (r : List V → Hp → VK → Prop) (t : TA) : TE := fun σ H Q => t σ H fun vs H1 => r vs H1 Q
/-- f(e, ..), f a built-in function -/
theorem pe_callB (hc : CallR X (.builtin id) r) (hg : Gl X x) (hm : X.mg x = none) (hv : bootBuiltins x = some (.builtin id)) (ha : PA X (e :: es) t) (hn : x ≠ "__name__" := by decide) (hdb : (x == ("__debug__" : Str)) = false := by decide)
    (he : starEach (e :: es) X.env = (false, eval e X.env) :: starEach es X.env := by rfl) (hpl : (backTo pos (starEach es X.env)).any (·.1) = false := by rfl) : PE X (.Call (.Name x p) (e :: es) [] pos) (tCB r t) := by
  intro pins s σ H Q I h
  refine wpAny_Call_Name_kw (ld_blt I hg hm hv ?_ hn hdb)
  exact PyProof.Rows.callWith_builtin1 (thn (ha pos pins s σ H _ I h) fun us s1 ⟨vs, H1, I1, r1, q1⟩ => hc pins s1 σ H1 vs us Q I1 r1 q1) he hpl
/-- T(e, ..), T a built-in type -/
theorem pe_callTy (hc : CallR X (.type T) r) (hg : Gl X x) (hm : X.mg x = none) (hv : bootBuiltins x = some (.type T)) (ha : PA X (e :: es) t) (hn : x ≠ "__name__" := by decide) (hdb : (x == ("__debug__" : Str)) = false := by decide)
    (he : starEach (e :: es) X.env = (false, eval e X.env) :: starEach es X.env := by rfl) (hpl : (backTo pos (starEach es X.env)).any (·.1) = false := by rfl) : PE X (.Call (.Name x p) (e :: es) [] pos) (tCB r t) := by
  intro pins s σ H Q I h
  refine wpAny_Call_Name_kw (ld_blt I hg hm hv ?_ hn hdb)
  exact PyProof.Rows.callWith_type1 (thn (ha pos pins s σ H _ I h) fun us s1 ⟨vs, H1, I1, r1, q1⟩ => hc pins s1 σ H1 vs us Q I1 r1 q1) he hpl
end
end L2

namespace HT
open PySem PyProof.Rows

section
open PySem.SeqAt
open PySem.AutoSeq1 (wpAny_loadPart')
open PySem.MeetsSeq PySem.MeetsSeq2 PySem.MeetsSeq3

end

section
variable {prog : Program} {w : World} {A : Around} {E : Value → Shared → Prop} {s : Shared}

/-- t + u, t not empty -/
theorem cat_tup {t b : Addr} {vs ws : List Value} {Q : Value → Shared → Prop} (ht : IsTup s.heap t vs.toArray) (hb : IsTup s.heap b ws.toArray) (hv : vs ≠ [])
    (h1 : ws = [] → Q (.ref t) s) (h2 : ws ≠ [] → Q (.ref s.heap.objs.size) { s with heap := s.heap.push { cls := .type "tuple", data := .seq (vs ++ ws).toArray } })
    (hsz : vs.length + ws.length ≤ sizeLine) : wpAny (model prog w) A (binaryOp .Add (.ref t) (.ref b)) Q E s := by
  obtain ⟨⟨cls, dd, data, sl⟩, ho, hc, n, hd⟩ := id ht
  obtain ⟨⟨cls2, dd2, data2, sl2⟩, ho2, hc2, n2, hd2⟩ := id hb
  simp only at hc hd hc2 hd2
  subst hc hd hc2 hd2
  have e : vs.toArray ++ ws.toArray = (vs ++ ws).toArray := by simp
  by_cases hw : ws = []
  · exact concat_meets ⟨_, ho, rfl⟩ ⟨_, ho2, rfl⟩ noFill_tuple_add seq_tuple_add PySem.F.slot_tuple_add PySem.F.entry_tuple_add (PySem.F.args_tuple_add_2 _ _)
      (tuple_addW1 t b vs.toArray ws.toArray n n2 dd dd2 sl sl2 (by simpa using hv) (by simp [hw])) ⟨ho, ho2, h1 hw⟩
  · refine concat_meets ⟨_, ho, rfl⟩ ⟨_, ho2, rfl⟩ noFill_tuple_add seq_tuple_add PySem.F.slot_tuple_add PySem.F.entry_tuple_add (PySem.F.args_tuple_add_2 _ _)
      (tuple_addW2 t b vs.toArray ws.toArray n n2 dd dd2 sl sl2 (by simpa using hv) (by simpa using hw) (by rw [List.size_toArray, List.size_toArray]; exact hsz)) ⟨ho, ho2, ?_⟩
    rw [e]
    exact h2 hw

/-! ### t[a:b], not the whole -/
/-- a slice's bound as a place among n (d where it is left out) -/
def sIx (n d : Nat) : Option Int → Nat
  | none => d
  | some v => if v < 0 then (v + (n : Int)).toNat else min v.toNat n
theorem sIx_le (n d : Nat) (hd : d ≤ n) (o : Option Int) : sIx n d o ≤ n := by
  cases o with
  | none => exact hd
  | some v =>
    show (if v < 0 then (v + (n : Int)).toNat else min v.toNat n) ≤ n
    by_cases hv : v < 0
    · rw [if_pos hv]; omega
    · rw [if_neg hv]; exact Nat.min_le_right _ _
theorem clip_eq (v : Int) (n d : Nat) : (if v < 0 then max (v + (n : Int)) 0 else min v (n : Int)) = ((sIx n d (some v) : Nat) : Int) := by
  show (if v < 0 then max (v + (n : Int)) 0 else min v (n : Int)) = (((if v < 0 then (v + (n : Int)).toNat else min v.toNat n) : Nat) : Int)
  by_cases hv : v < 0
  · simp only [if_pos hv]; omega
  · simp only [if_neg hv]; omega
theorem adjust_gen (lo hi : Option Int) (n : Nat) : Builtin.Slice.sliceAdjust lo hi 1 (n : Int) = (((sIx n 0 lo : Nat) : Int), ((sIx n n hi : Nat) : Int)) := by
  have h1 : ¬ ((1 : Int) < 0) := by omega
  unfold Builtin.Slice.sliceAdjust
  simp only [h1, if_false]
  refine Prod.ext ?_ ?_
  · cases lo with
    | none => rfl
    | some v => exact clip_eq v n 0
  · cases hi with
    | none => rfl
    | some v => exact clip_eq v n n
theorem places_gen (i j : Nat) : Builtin.Slice.slicePlaces (i : Int) (j : Int) 1 = j - i := by
  unfold Builtin.Slice.slicePlaces
  have h1 : (1 : Int) > 0 := by omega
  simp only [h1, if_true, Int.ediv_one]
  split <;> omega
theorem slicePart_ {v : Value} {o : Option Int} {Q : Option Int → Shared → Prop} (p : IsPart v o) (h : Q o s) : wpAny (model prog w) A (Builtin.Slice.slicePartIndex v) Q E s := by
  cases p with
  | none => exact slicePart_none h
  | int i t => exact slicePart_int h
theorem sliceApplied_gen {sl : Addr} {vl vu : Value} {lo hi : Option Int} {n : Nat} {Q : Int × Int × Nat → Shared → Prop} (hs : s.heap.IsSliceOf sl vl vu .none) (pl : IsPart vl lo) (pu : IsPart vu hi)
    (h : Q (((sIx n 0 lo : Nat) : Int), 1, sIx n n hi - sIx n 0 lo) s) : wpAny (model prog w) A (Builtin.Slice.sliceApplied (.ref sl) (pure (n : Int))) Q E s := by
  obtain ⟨os, hos, hcs, hds⟩ := id hs
  unfold Builtin.Slice.sliceApplied Builtin.Slice.sliceFields
  refine wpAny_bind (wpAny_bind (wpAny_field hos hds (x := vl) rfl (wpAny_bind (wpAny_field hos hds (x := vu) rfl (wpAny_bind (wpAny_field hos hds (x := .none) rfl (wpAny_pure ?_)))))))
  refine wpAny_bind (slicePart_none ?_)
  show wpAny _ _ (if ((1 : Int) == 0) = true then _ else _) _ _ s
  rw [if_neg (by decide)]
  refine wpAny_bind (slicePart_ pl (wpAny_bind (slicePart_ pu (wpAny_bind (wpAny_pure ?_)))))
  show wpAny _ _ (match Builtin.Slice.sliceAdjust lo hi 1 (n : Int) with | (lo, hi) => pure (lo, (1 : Int), Builtin.Slice.slicePlaces lo hi 1)) _ _ s
  rw [adjust_gen lo hi n]
  show wpAny _ _ (pure (((sIx n 0 lo : Nat) : Int), (1 : Int), Builtin.Slice.slicePlaces ((sIx n 0 lo : Nat) : Int) ((sIx n n hi : Nat) : Int) 1)) _ _ s
  rw [places_gen]
  exact wpAny_pure h
theorem pick_gen (xs : Array Value) (i k : Nat) : ((List.range k).filterMap fun (m : Nat) => xs[((i : Int) + (m : Int) * 1).toNat]?).toArray = ((xs.toList.drop i).take k).toArray := by
  have e : (fun (m : Nat) => xs[((i : Int) + (m : Int) * 1).toNat]?) = fun m => xs[i + m]? := by
    funext m
    have : ((i : Int) + (m : Int) * 1).toNat = i + m := by omega
    rw [this]
  rw [e]
  have := pick_run xs i k
  rw [List.filterMap_map] at this
  have e2 : ((fun x => xs[x]?) ∘ fun x => i + x) = fun m => xs[i + m]? := rfl
  rw [e2] at this
  rw [this]

theorem getItem_tuple_cut {t sl : Addr} {items : Array Value} {vl vu : Value} {lo hi : Option Int} {Q : Value → Shared → Prop} (ht : IsTup s.heap t items) (hs : s.heap.IsSliceOf sl vl vu .none) (pl : IsPart vl lo) (pu : IsPart vu hi)
    (hw : ¬ (sIx items.size 0 lo = 0 ∧ sIx items.size items.size hi = items.size))
    (h : Q (.ref s.heap.objs.size) { s with heap := s.heap.push { cls := .type "tuple", data := .seq ((items.toList.drop (sIx items.size 0 lo)).take (sIx items.size items.size hi - sIx items.size 0 lo)).toArray } })
    (hsz : items.size ≤ sizeLine) : wpAny (model prog w) A (getItem (.ref t) (.ref sl)) Q E s := by
  have htake : sizeOk (.seq ((items.toList.drop (sIx items.size 0 lo)).take (sIx items.size items.size hi - sIx items.size 0 lo)).toArray) := by
    show ((items.toList.drop (sIx items.size 0 lo)).take (sIx items.size items.size hi - sIx items.size 0 lo)).toArray.size ≤ sizeLine
    rw [List.size_toArray, List.length_take, List.length_drop, Array.length_toList]
    omega
  have hj : sIx items.size items.size hi ≤ items.size := sIx_le _ _ (Nat.le_refl _) hi
  obtain ⟨os, hos, hcs, hds⟩ := id hs
  have hTs : s.TypeIs (.ref sl) "slice" := ⟨os, hos, hcs⟩
  unfold getItem
  try with_reducible refine wpAny_holding ?_
  first | refine wpAny_bind (wpAny_pure ?_) | skip
  refine wpAny_bind (wpAny_sequenceKey ht.typeIs (by decide) ?_)
  refine wpAny_bind (wpAny_callSpecial?_slot (name := Str.ofString "__getitem__") ht.typeIs PyProof.Rows.slot_tuple_getitem
    (wpAny_call_entry PyProof.Rows.slot_tuple_getitem ht.typeIs entry_tuple_getitem ?_ (args_tuple_getitem _ _)))
  show wpAny _ _ (Builtin.Tuple.tupleItemsOf (.ref t) >>= _) _ _ s
  refine wpAny_bind (tupleItemsOf_ ht ?_)
  refine wpAny_bind (wpAny_typeOf hTs ?_)
  rw [if_pos (by decide)]
  refine wpAny_bind (sliceApplied_gen hs pl pu ?_)
  have hno : ¬ ((((sIx items.size 0 lo : Nat) : Int) == 0 && (1 : Int) == 1 && (sIx items.size items.size hi - sIx items.size 0 lo) == items.size) = true) := by
    intro q
    rw [Bool.and_eq_true, Bool.and_eq_true] at q
    have q1 : ((sIx items.size 0 lo : Nat) : Int) = 0 := eq_of_beq q.1.1
    have q2 : sIx items.size items.size hi - sIx items.size 0 lo = items.size := eq_of_beq q.2
    exact hw ⟨by omega, by omega⟩
  show wpAny _ _ (if (((sIx items.size 0 lo : Nat) : Int) == 0 && (1 : Int) == 1 && (sIx items.size items.size hi - sIx items.size 0 lo) == items.size) = true then _ else _) _ _ s
  rw [if_neg hno, pick_gen]
  first
    | exact wpAny_bind (m := Builtin.Tuple.tupleExact _) (wpAny_newObj_type (wpAny_pure ⟨_, rfl, wpAny_pure h⟩) htake)
    | exact wpAny_bind (m := Builtin.Tuple.tupleExact _) (wpAny_newObj_type (wpAny_bind (wpAny_pure (wpAny_pure ⟨_, rfl, wpAny_pure h⟩))) htake)
    | exact wpAny_bind (wpAny_bind (m := Builtin.Tuple.tupleExact _) (wpAny_newObj_type (wpAny_pure (wpAny_pure ⟨_, rfl, wpAny_pure h⟩)) htake))
    | exact wpAny_bind (wpAny_bind (m := Builtin.Tuple.tupleExact _) (wpAny_newObj_type (wpAny_pure ⟨_, rfl, wpAny_pure h⟩) htake))
end
end HT

namespace L2
open PySem PySem.Spec PyProof.Rows

/-! ### the parts of a slice -/
abbrev TO := St → Hp → (Option Int → Hp → Prop) → Prop
/-- a slice's part (left out, or an int) -/
def PO (X : Cx) (e : Option Expr) (t : TO) : Prop :=
  ∀ (pins : List (Addr × Obj)) (s : Shared) (σ : St) (H : Hp) (Q : Option Int → Hp → Prop), Inv X pins σ H s → t σ H Q →
    wpAny (model X.prog X.w) X.A (evalPart e X.env) (fun u s' => ∃ o H', Inv X pins σ H' s' ∧ IsPart u o ∧ Q o H') X.xe s
def tNoPart : TO := fun _ H Q => Q none H
def tPart (t : TE) : TO := fun σ H Q => t σ H fun x H1 => ∃ i, x = .int i ∧ Q (some i) H1

section
variable {X : Cx} {e : Expr} {te : TE} {lo hi : Option Expr} {tl th : TO} {pos p2 : Pos}

theorem po_none : PO X none tNoPart := by
  intro pins s σ H Q I h
  rw [evalPart_none]
  exact wpAny_pure ⟨none, H, I, .none, h⟩
theorem po_some (h : PE X e te) : PO X (some e) (tPart te) := by
  intro pins s σ H Q I hw
  rw [evalPart_some]
  refine thn (h pins s σ H _ I hw) fun u s1 ⟨x, H1, I1, r1, q1⟩ => ?_
  obtain ⟨i, rfl, q⟩ := q1
  obtain ⟨t, rfl⟩ := r1
  exact ⟨some i, H1, I1, .int i t, q⟩

/-- what a slice of a value is, by values: the slice object stands at sl -/
def SlR (X : Cx) (r : V → Option Int → Option Int → Hp → VK → Prop) : Prop :=
  ∀ (pins : List (Addr × Obj)) (s : Shared) (σ : St) (H : Hp) (x : V) (v vl vu : Value) (lo hi : Option Int) (sl : Addr) (Q : VK), Inv X pins σ H s → RelV x v → s.heap.IsSliceOf sl vl vu .none → IsPart vl lo → IsPart vu hi → r x lo hi H Q →
    ∃ T id, typeLookup (.type T) "__getitem__" = pure (some (.builtin id)) ∧ s.TypeIs v T ∧ wpAny (model X.prog X.w) X.A (getItem v (.ref sl)) (EP X pins σ Q) X.xe s
theorem SlR.or {r r' : V → Option Int → Option Int → Hp → VK → Prop} (h : SlR X r) (h' : SlR X r') : SlR X (fun x lo hi H Q => r x lo hi H Q ∨ r' x lo hi H Q) := by
  intro pins s σ H x v vl vu lo hi sl Q I rx hs pl pu q
  rcases q with q | q
  · exact h pins s σ H x v vl vu lo hi sl Q I rx hs pl pu q
  · exact h' pins s σ H x v vl vu lo hi sl Q I rx hs pl pu q
def tSl (r : V → Option Int → Option Int → Hp → VK → Prop) (te : TE) (tl th : TO) : TE := fun σ H Q => te σ H fun x H1 => tl σ H1 fun l H2 => th σ H2 fun u H3 => r x l u H3 Q
/-- a[lo:hi], any a -/
theorem pe_slice {r : V → Option Int → Option Int → Hp → VK → Prop} (hr : SlR X r) (he : PE X e te) (hl : PO X lo tl) (hu : PO X hi th) : PE X (.Subscript e (.Slice lo hi none p2) pos) (tSl r te tl th) := by
  intro pins s σ H Q I h
  refine Subscript_ (thn (he pins s σ H _ I h) fun v s1 ⟨x, H1, I1, r1, q1⟩ => ?_)
  refine wpAny_Slice (thn (hl pins s1 σ H1 _ I1 q1) fun vl s2 ⟨l, H2, I2, pl, q2⟩ => thn (hu pins s2 σ H2 _ I2 q2) fun vu s3 ⟨u, H3, I3, pu, q3⟩ => ?_)
  rw [evalPart_none]
  refine wpAny_pure ?_
  have I4 : Inv X pins σ H3 { s3 with heap := s3.heap.push { cls := .type "slice", data := .fields #[vl, vu, .none] } } := I3.kept (t' := s3.toks) fun b ob q => Heap.get?_push_of_some _ q
  obtain ⟨T, id, hT, ht, hg⟩ := hr pins { s3 with heap := s3.heap.push { cls := .type "slice", data := .fields #[vl, vu, .none] } } σ H3 x v vl vu l u s3.heap.objs.size Q I4 r1 (Heap.IsSliceOf.new ..) pl pu q3
  show wpAny (model X.prog X.w) X.A (subscriptTail e (.Slice lo hi none p2) v (.ref s3.heap.objs.size)) (EP X pins σ Q) X.xe { s3 with heap := s3.heap.push { cls := .type "slice", data := .fields #[vl, vu, .none] } }
  exact tail_any (ops := [.ref s3.heap.objs.size, v]) ht hT hg (by with_unfolding_all rfl)

/-- the items of xs[lo:hi] -/
def cutV (xs : List V) (lo hi : Option Int) : List V := (xs.drop (HT.sIx xs.length 0 lo)).take (HT.sIx xs.length xs.length hi - HT.sIx xs.length 0 lo)
theorem cutV_length (xs : List V) (lo hi : Option Int) : (cutV xs lo hi).length ≤ xs.length := by
  unfold cutV
  rw [List.length_take, List.length_drop]
  omega
/-- t[lo:hi], not the whole of it (the whole would be t itself) -/
def rSlT (K : PySem.W.Frag) : V → Option Int → Option Int → Hp → VK → Prop := fun x lo hi H Q => ∃ a xs, x = .ref a ∧ SqT K H a xs ∧
  ¬ (HT.sIx xs.length 0 lo = 0 ∧ HT.sIx xs.length xs.length hi = xs.length) ∧ ∀ p, H p = none → Q (.ref p) (upd H p (.tup (cutV xs lo hi)))
theorem sl_tup : SlR X (rSlT X.K) := by
  intro pins s σ H x v vl vu lo hi sl Q I rx hs pl pu h
  obtain ⟨a, xs, rfl, hx, hw, q⟩ := h
  cases rx
  obtain ⟨its, r, ht, hz⟩ := I.tuple hx
  have hlen : its.toArray.size = xs.length := by rw [List.size_toArray]; exact r.length.symm
  refine ⟨"tuple", _, PyProof.Rows.slot_tuple_getitem.lookup, ht.typeIs, ?_⟩
  refine HT.getItem_tuple_cut ht hs pl pu (by rw [hlen]; exact hw) ?_ (by rw [hlen]; exact hz)
  rw [hlen]
  refine ⟨.ref s.heap.objs.size, _, I.laid (t' := s.toks) (o := .tup (cutV xs lo hi)) (fun b ob q => Heap.get?_push_of_some _ q) (Nat.le_refl _) ?_, rfl, q _ (I.hok.fresh (Nat.le_refl _))⟩
  exact ⟨Nat.le_trans (cutV_length xs lo hi) hz, _, (r.drop (HT.sIx xs.length 0 lo)).take (HT.sIx xs.length xs.length hi - HT.sIx xs.length 0 lo), IsTup.new _ _⟩

/-- t + u, t not empty: u empty gives t itself -/
def rCatT (K : PySem.W.Frag) : R2 := fun x y H Q => ∃ a b xs ys, x = .ref a ∧ y = .ref b ∧ SqT K H a xs ∧ SqT K H b ys ∧ xs ≠ [] ∧ xs.length + ys.length ≤ sizeLine ∧
  (ys = [] → Q (.ref a) H) ∧ (ys ≠ [] → ∀ p, H p = none → Q (.ref p) (upd H p (.tup (xs ++ ys))))
theorem Vals.nil_iff {xs : List V} {us : List Value} (r : Vals xs us) : us = [] ↔ xs = [] := by
  cases r with
  | nil => simp
  | cons _ _ => simp
theorem op_catT : OpR X (binaryOp .Add) (rCatT X.K) := by
  intro pins s σ H x y v u Q I rx ry h
  obtain ⟨a, b, xs, ys, rfl, rfl, ha, hb, hx, hz, q1, q2⟩ := h
  cases rx
  cases ry
  obtain ⟨its, r1, p1, _⟩ := I.tuple ha
  obtain ⟨its2, r2, p2, _⟩ := I.tuple hb
  refine HT.cat_tup p1 p2 (fun z => hx (r1.nil_iff.mp z)) (fun z => ⟨.ref a, H, I, rfl, q1 (r2.nil_iff.mp z)⟩) (fun z => ?_) (by rw [← r1.length, ← r2.length]; exact hz)
  refine ⟨.ref s.heap.objs.size, _, I.laid (t' := s.toks) (o := .tup (xs ++ ys)) (fun b ob q => Heap.get?_push_of_some _ q) (Nat.le_refl _) ?_, rfl, q2 (fun w => z (r2.nil_iff.mpr w)) _ (I.hok.fresh (Nat.le_refl _))⟩
  exact ⟨by rw [List.length_append]; exact hz, _, r1.append r2, IsTup.new _ _⟩
end
end L2

namespace L2
open PySem PySem.Spec PyProof.Rows

/-! ### places -/
/-- the place that an index of any sign means -/
def ixN (n : Nat) (i : Int) : Option Nat := if 0 ≤ i then (if i < n then some i.toNat else none) else if -(n : Int) ≤ i then some (i + n).toNat else none
def atI {α : Type} (xs : List α) (i : Int) : Option α := (ixN xs.length i).bind fun j => xs[j]?
theorem ixN_seq {n : Nat} {i : Int} {j : Nat} (h : ixN n i = some j) : seqIndex? i n = some j ∧ j < n ∧ -(n : Int) ≤ i ∧ i < n := by
  unfold ixN at h
  by_cases h0 : 0 ≤ i
  · rw [if_pos h0] at h
    by_cases h1 : i < n
    · rw [if_pos h1] at h
      have e : i.toNat = j := Option.some.inj h
      exact ⟨by rw [seqIndex_of h0 h1, e], by omega, by omega, h1⟩
    · rw [if_neg h1] at h; cases h
  · rw [if_neg h0] at h
    by_cases h1 : -(n : Int) ≤ i
    · rw [if_pos h1] at h
      have e : (i + n).toNat = j := Option.some.inj h
      exact ⟨by rw [seqIndex_neg (by omega) h1, e], by omega, h1, by omega⟩
    · rw [if_neg h1] at h; cases h
theorem atI_get {α : Type} {xs : List α} {i : Int} {v : α} (h : atI xs i = some v) : ∃ j, seqIndex? i xs.length = some j ∧ xs[j]? = some v ∧ j < xs.length ∧ -(xs.length : Int) ≤ i ∧ i < xs.length := by
  unfold atI at h
  cases e : ixN xs.length i with
  | none => rw [e] at h; cases h
  | some j =>
    rw [e] at h
    obtain ⟨h1, h2, h3, h4⟩ := ixN_seq e
    exact ⟨j, h1, h, h2, h3, h4⟩
/-! ### what may be subscripted -/
/-- what stands as an index of a plain subscript -/
def PlainIx (b : Expr) : Prop := ∀ o i, subscripted b false o i = operate [o, i] (getItem o i)
/-- a subscript by values -/
def IxR (X : Cx) (r : R2) : Prop :=
  ∀ (value slice : Expr) (pins : List (Addr × Obj)) (s : Shared) (σ : St) (H : Hp) (x y : V) (v u : Value) (Q : VK), Inv X pins σ H s → RelV x v → RelV y u → r x y H Q →
    subscripted slice false v u = operate [v, u] (getItem v u) → wpAny (model X.prog X.w) X.A (subscriptTail value slice v u) (EP X pins σ Q) X.xe s
/-- a call of a builtin's method by values: the receiver, the arguments -/
def MtR (X : Cx) (id : String) (r : V → List V → Hp → VK → Prop) : Prop :=
  ∀ (pins : List (Addr × Obj)) (s : Shared) (σ : St) (H : Hp) (x : V) (xs : List V) (v : Value) (us : List Value) (Q : VK), Inv X pins σ H s → RelV x v → Vals xs us → r x xs H Q →
    wpAny (model X.prog X.w) X.A (call (.builtin id) (v :: us)) (EP X pins σ Q) X.xe s
section
variable {X : Cx} {a b : Expr} {ta tb : TE} {pos : Pos}
theorem IxR.or {r r' : R2} (h : IxR X r) (h' : IxR X r') : IxR X (fun x y H Q => r x y H Q ∨ r' x y H Q) := by
  intro value slice pins s σ H x y v u Q I rx ry q hs
  rcases q with q | q
  · exact h value slice pins s σ H x y v u Q I rx ry q hs
  · exact h' value slice pins s σ H x y v u Q I rx ry q hs
theorem MtR.or {id : String} {r r' : V → List V → Hp → VK → Prop} (h : MtR X id r) (h' : MtR X id r') : MtR X id (fun x xs H Q => r x xs H Q ∨ r' x xs H Q) := by
  intro pins s σ H x xs v us Q I rx rs q
  rcases q with q | q
  · exact h pins s σ H x xs v us Q I rx rs q
  · exact h' pins s σ H x xs v us Q I rx rs q
/-- a[b] -/
theorem pe_ix {r : R2} (hr : IxR X r) (ha : PE X a ta) (hb : PE X b tb) (hs : PlainIx b) : PE X (.Subscript a b pos) (tOp r ta tb) := by
  intro pins s σ H Q I h
  exact Subscript_ (binT ha hb I h fun v u s2 x y H2 I2 rx ry q => hr a b pins s2 σ H2 x y v u Q I2 rx ry q (hs _ _))

def rIxL (K : PySem.W.Frag) : R2 := fun x y H Q => ∃ p xs i v, x = .ref p ∧ y = .int i ∧ SqL K H p xs ∧ atI xs i = some v ∧ Q v H
def rIxT (K : PySem.W.Frag) : R2 := fun x y H Q => ∃ p xs i v, x = .ref p ∧ y = .int i ∧ SqT K H p xs ∧ atI xs i = some v ∧ Q v H
theorem ix_list : IxR X (rIxL X.K) := by
  intro value slice pins s σ H x y v u Q I rx ry h hs
  obtain ⟨p, xs, i, z, rfl, rfl, hq, he, q⟩ := h
  cases rx
  obtain ⟨t, rfl⟩ := ry
  obtain ⟨its, r, pl, hz⟩ := I.list hq
  obtain ⟨j, h1, h2, h3, h4, h5⟩ := atI_get he
  obtain ⟨w, ew, rw'⟩ := r.get h2
  have hl := r.length
  have hn := line63
  have fin : EP X pins σ Q w s := ⟨z, H, I, rw', q⟩
  by_cases h0 : 0 ≤ i
  · have hj : i.toNat = j := by
      rw [seqIndex_of h0 h5] at h1
      exact Option.some.inj h1
    exact item_listR pl.isList h0 (by omega) (by rw [hj]; simpa using ew) fin hs
  · have hj : (i + (its.toArray.size : Int)).toNat = j := by
      rw [seqIndex_neg (by omega) h4] at h1
      rw [List.size_toArray, ← hl]
      exact Option.some.inj h1
    exact subscriptTail_builtinR (x := w) pl.isList.typeIs slot_list_getitem.lookup
      (wpAny_getItem_list_neg (Q := fun r s' => r = w ∧ EP X pins σ Q r s') pl.isList (by omega) (by rw [List.size_toArray] <;> omega) (by omega) (by rw [hj]; simpa using ew) ⟨rfl, fin⟩) hs
theorem ix_tup : IxR X (rIxT X.K) := by
  intro value slice pins s σ H x y v u Q I rx ry h hs
  obtain ⟨p, xs, i, z, rfl, rfl, hq, he, q⟩ := h
  cases rx
  obtain ⟨t, rfl⟩ := ry
  obtain ⟨its, r, pl, hz⟩ := I.tuple hq
  obtain ⟨j, h1, h2, h3, h4, h5⟩ := atI_get he
  obtain ⟨w, ew, rw'⟩ := r.get h2
  have hl := r.length
  have hn := line63
  have fin : EP X pins σ Q w s := ⟨z, H, I, rw', q⟩
  exact subscriptTail_builtinR (x := w) pl.typeIs slot_tuple_getitem.lookup
    (getItem_tuple (j := j) (Q := fun r s' => r = w ∧ EP X pins σ Q r s') pl (by omega) (by omega) (by rw [List.size_toArray, ← hl]; exact h1) (by simpa using ew) ⟨rfl, fin⟩) hs
/-! ### xs[i] = v, any sign -/
/-- the list's object behind a store -/
theorem mapSeq_set (its : List Value) (n j : Nat) (u : Value) : Obj.mapSeq (·.setIfInBounds j u) { cls := .type "list", data := .seq its.toArray n } = { cls := .type "list", data := .seq (its.set j u).toArray n } := by
  simp [Obj.mapSeq]
theorem Inv.lst {pins : List (Addr × Obj)} {σ : St} {H : Hp} {s : Shared} {p : Addr} {xs : List V} (I : Inv X pins σ H s) (h : H p = some (.lst xs)) :
    ∃ (its : List Value) (n : Nat), Vals xs its ∧ s.heap.get? p = some { cls := .type "list", data := .seq its.toArray n } ∧ xs.length ≤ sizeLine := by
  obtain ⟨z, its, n, r, e⟩ := I.hok p _ h
  exact ⟨its, n, r, e, z⟩
/-- the list at p is written by an update of its object -/
theorem Inv.lstUpd {pins : List (Addr × Obj)} {σ : St} {H : Hp} {s : Shared} {p : Addr} {xs ys : List V} {its its' : List Value} {n n' : Nat} {f : Obj → Obj} (I : Inv X pins σ H s) (h : H p = some (.lst xs))
    (ho : s.heap.get? p = some { cls := .type "list", data := .seq its.toArray n }) (hf : f { cls := .type "list", data := .seq its.toArray n } = { cls := .type "list", data := .seq its'.toArray n' }) (r : Vals ys its') (hz : ys.length ≤ sizeLine) (t : Nat) :
    Inv X pins σ (upd H p (.lst ys)) { s with heap := s.heap.update p f, toks := t } := by
  have e : (s.heap.update p f).get? p = some { cls := .type "list", data := .seq its'.toArray n' } := by
    rw [Heap.get?_update_self f ho (by rw [hf] <;> rfl), hf]
  refine I.write (x := p) (e := p) (by rw [h]; trivial) (.inl rfl) (fun b u hb q => (Heap.get?_update_other _ _ (Ne.symm hb)).trans q) ⟨_, e⟩ ?_
  exact ⟨hz, its', n', r, e⟩
def rSetL : V → V → V → Hp → (Hp → Prop) → Prop := fun o i v H Q => ∃ p xs k j, o = .ref p ∧ i = .int k ∧ H p = some (.lst xs) ∧ ixN xs.length k = some j ∧ Q (upd H p (.lst (xs.set j v)))
theorem set_list : PSet X rSetL := by
  intro pins s σ H o i v ov iv u Q I ro ri rv h
  obtain ⟨p, xs, k, j, rfl, rfl, hp, hj, q⟩ := h
  cases ro
  obtain ⟨t, rfl⟩ := ri
  obtain ⟨its, n, r, ho, hz⟩ := I.lst hp
  obtain ⟨h1, h2, h3, h4⟩ := ixN_seq hj
  have hl := r.length
  have hn := line63
  have I' : Inv X pins σ (upd H p (.lst (xs.set j v))) { s with heap := s.heap.update p (Obj.mapSeq (·.setIfInBounds j u)) } :=
    I.lstUpd hp ho (mapSeq_set its n j u) (r.set rv j) (by rw [List.length_set]; exact hz) s.toks
  by_cases h0 : 0 ≤ k
  · have hk : k.toNat = j := by
      rw [seqIndex_of h0 h4] at h1
      exact Option.some.inj h1
    exact PySem.W.ki_setAt ho h0 (by omega) (by rw [List.size_toArray, ← hl]; exact h4) (by rw [hk]; exact ⟨_, I', q⟩)
  · have hk : (k + (its.toArray.size : Int)).toNat = j := by
      rw [seqIndex_neg (by omega) h3] at h1
      rw [List.size_toArray, ← hl]
      exact Option.some.inj h1
    exact PySem.W.ki_setBack ho (by omega) (by rw [List.size_toArray, ← hl]; exact h3) (by omega) (by rw [hk]; exact ⟨_, I', q⟩)

/-! ### slices -/
theorem slice_bounds (lo hi : Option Int) (n : Nat) : (sliceBounds lo hi none n).1 = ((HT.sIx n 0 lo : Nat) : Int) ∧ (sliceBounds lo hi none n).2.1 = ((HT.sIx n n hi : Nat) : Int) ∧ (sliceBounds lo hi none n).2.2 = 1 := by
  refine ⟨?_, ?_, rfl⟩
  · cases lo with
    | none => simp [sliceBounds, HT.sIx]
    | some i =>
      simp only [sliceBounds, HT.sIx, Option.getD_none, show (1 : Int) > 0 by decide, if_true]
      by_cases h : i < 0
      · simp only [h, if_true] <;> omega
      · simp only [h, if_false] <;> omega
  · cases hi with
    | none => simp [sliceBounds, HT.sIx]
    | some i =>
      simp only [sliceBounds, HT.sIx, Option.getD_none, show (1 : Int) > 0 by decide, if_true]
      by_cases h : i < 0
      · simp only [h, if_true] <;> omega
      · simp only [h, if_false] <;> omega
theorem slicePick_cut (its : List Value) (lo hi : Option Int) : slicePick its.toArray lo hi none = ((its.drop (HT.sIx its.length 0 lo)).take (HT.sIx its.length its.length hi - HT.sIx its.length 0 lo)).toArray := by
  obtain ⟨h1, h2, h3⟩ := slice_bounds lo hi its.toArray.size
  unfold slicePick
  rw [h1, h2, h3]
  simp only [sliceRange_one, pick_run, List.size_toArray] <;> rfl
/-- xs[lo:hi] of a list: a new list -/
def rSlL (K : PySem.W.Frag) : V → Option Int → Option Int → Hp → VK → Prop := fun x lo hi H Q => ∃ a xs, x = .ref a ∧ SqL K H a xs ∧ ∀ p, H p = none → Q (.ref p) (upd H p (.lst (cutV xs lo hi)))
theorem sl_list : SlR X (rSlL X.K) := by
  intro pins s σ H x v vl vu lo hi sl Q I rx hs pl pu h
  obtain ⟨a, xs, rfl, hx, q⟩ := h
  cases rx
  obtain ⟨its, r, ht, hz⟩ := I.list hx
  have hlen := r.length
  refine ⟨"list", _, slot_list_getitem.lookup, ht.isList.typeIs, ?_⟩
  refine wpAny_getItem_list_slice ht.isList hs pl pu .none (by simp) ?_ (by rw [List.size_toArray] <;> omega)
  rw [slicePick_cut, ← hlen]
  refine ⟨.ref s.heap.objs.size, _, I.laid (t' := s.toks) (o := .lst (cutV xs lo hi)) (fun b ob q => Heap.get?_push_of_some _ q) (Nat.le_refl _) ?_, rfl, q _ (I.hok.fresh (Nat.le_refl _))⟩
  exact ⟨Nat.le_trans (cutV_length xs lo hi) hz, _, 0, (r.drop (HT.sIx xs.length 0 lo)).take (HT.sIx xs.length xs.length hi - HT.sIx xs.length 0 lo), Heap.get?_push_size _ rfl⟩

theorem CallR.or {f : Value} {r r' : List V → Hp → VK → Prop} (h : CallR X f r) (h' : CallR X f r') : CallR X f (fun xs H Q => r xs H Q ∨ r' xs H Q) := by
  intro pins s σ H xs us Q I rs q
  rcases q with q | q
  · exact h pins s σ H xs us Q I rs q
  · exact h' pins s σ H xs us Q I rs q
theorem call_list_of : CallR X (.type "list") (fun xs H Q => ∃ p ys, xs = [.ref p] ∧ (SqL X.K H p ys ∨ SqT X.K H p ys) ∧ ∀ l, H l = none → Q (.ref l) (upd H l (.lst ys))) := by
  intro pins s σ H xs us Q I r h
  obtain ⟨p, ys, rfl, hq, q⟩ := h
  obtain ⟨u, rfl, rx⟩ := vals1 r
  cases rx
  have fin : ∀ (its : List Value), Vals ys its → ys.length ≤ sizeLine → ∀ (h' : Heap) (c' : Nat), (∀ b o', s.heap.get? b = some o' → h'.get? b = some o') →
      h'.get? s.heap.objs.size = some { cls := .type "list", dict := none, data := .seq its.toArray c', slots := #[] } → EP X pins σ Q (.ref s.heap.objs.size) { s with heap := h' } := fun its r' hz h' c' kp e =>
    ⟨.ref s.heap.objs.size, _, I.laid (t' := s.toks) kp (Nat.le_refl _) (show ObjOk X.prog X.w _ h' _ (.lst ys) from ⟨hz, its, c', r', e⟩), rfl, q _ (I.hok.fresh (Nat.le_refl _))⟩
  rcases hq with hq | hq
  · obtain ⟨its, r', pl, hz⟩ := I.list hq
    have hlen := r'.length
    obtain ⟨o, ho, hc, n, hd⟩ := pl.isList
    exact call_list_seq p (.inl rfl) ho hc hd (fun h' c' kp e => fin its r' hz h' c' kp e) (by simp only [List.size_toArray] <;> omega)
  · obtain ⟨its, r', pl, hz⟩ := I.tuple hq
    have hlen := r'.length
    obtain ⟨o, ho, hc, n, hd⟩ := pl
    exact call_list_seq p (.inr rfl) ho hc hd (fun h' c' kp e => fin its r' hz h' c' kp e) (by simp only [List.size_toArray] <;> omega)
theorem call_tuple_of : CallR X (.type "tuple") (fun xs H Q => ∃ p ys, xs = [.ref p] ∧ ((SqL X.K H p ys ∧ ∀ l, H l = none → Q (.ref l) (upd H l (.tup ys))) ∨ (SqT X.K H p ys ∧ Q (.ref p) H))) := by
  intro pins s σ H xs us Q I r h
  obtain ⟨p, ys, rfl, h⟩ := h
  obtain ⟨u, rfl, rx⟩ := vals1 r
  cases rx
  rcases h with ⟨hq, q⟩ | ⟨hq, q⟩
  · obtain ⟨its, r', pl, hz⟩ := I.list hq
    have hlen := r'.length
    refine call_tuple_list pl.isList (fun h' kp => ?_) (by simp only [List.size_toArray] <;> omega)
    have I1 : Inv X pins σ H { s with heap := h' } := I.kept (t' := s.toks) kp
    have I2 : Inv X pins σ (upd H h'.objs.size (.tup ys)) { s with heap := h'.push { cls := .type "tuple", data := .seq its.toArray } } :=
      I1.laid (t' := s.toks) (fun b o e => Heap.get?_push_of_some _ e) (Nat.le_refl _) (show ObjOk X.prog X.w _ _ _ (.tup ys) from ⟨hz, its, r', IsTup.new _ _⟩)
    exact ⟨.ref h'.objs.size, _, I2, rfl, q _ (I1.hok.fresh (Nat.le_refl _))⟩
  · obtain ⟨its, r', pl, hz⟩ := I.tuple hq
    exact call_tuple_same pl ⟨.ref p, H, I, rfl, q⟩

/-! ### the call of a builtin's method: o.m(..) -/
/-- the value is of that builtin type -/
def tyV (K : PySem.W.Frag) (T : String) (x : V) (H : Hp) : Prop := match x with
  | .str _ => T = "str"
  | .int _ => T = "int"
  | .ref p => (T = "list" ∧ ∃ xs, SqL K H p xs) ∨ (T = "tuple" ∧ ∃ o, K.lookup p = some o ∧ o.cls = .type "tuple" ∧ o.dict = none) ∨
      (T = "dict" ∧ ((∃ kvs, H p = some (.dK kvs)) ∨ ∃ kvs, H p = some (.dT kvs))) ∨ (T = "set" ∧ ∃ S n, H p = some (.set S n))
  | _ => False
theorem tyV_is {pins : List (Addr × Obj)} {σ : St} {H : Hp} {s : Shared} {T : String} {x : V} {v : Value} (I : Inv X pins σ H s) (r : RelV x v) (ty : tyV X.K T x H) :
    s.TypeIs v T ∧ ∀ a, v = .ref a → ∃ ob, s.heap.get? a = some ob ∧ ob.dict = none := by
  cases x with
  | str z =>
    obtain ⟨t, rfl⟩ := r
    cases (show T = "str" from ty)
    exact ⟨typeIs_str s z t, fun _ e => nomatch e⟩
  | int i =>
    obtain ⟨t, rfl⟩ := r
    cases (show T = "int" from ty)
    exact ⟨typeIs_int s i t, fun _ e => nomatch e⟩
  | ref p =>
    cases r
    rcases ty with ⟨rfl, xs, hq⟩ | ⟨rfl, o, hk, hc, hd⟩ | ⟨rfl, hk⟩ | ⟨rfl, S, n, hk⟩
    · obtain ⟨its, _, pl, _⟩ := I.list hq
      refine ⟨pl.isList.typeIs, fun a e => ?_⟩
      cases e
      obtain ⟨o, n, e, c, hd, _⟩ := pl
      exact ⟨o, e, hd⟩
    · refine ⟨⟨o, I.kIn p o hk, hc⟩, fun a e => ?_⟩
      cases e
      exact ⟨o, I.kIn _ o hk, hd⟩
    · have z : ∃ o, s.heap.get? p = some o ∧ o.ExactDict := by
        rcases hk with ⟨kvs, hk⟩ | ⟨kvs, hk⟩
        · obtain ⟨_, _, _, _, o, _, _, e, ex, _⟩ := I.hok p _ hk
          exact ⟨o, e, ex⟩
        · obtain ⟨_, _, _, _, o, _, _, e, ex, _⟩ := I.hok p _ hk
          exact ⟨o, e, ex⟩
      obtain ⟨o, e, ex⟩ := z
      refine ⟨⟨o, e, ex.1⟩, fun a e2 => ?_⟩
      cases e2
      exact ⟨o, e, ex.2.1⟩
    · obtain ⟨o, _, _, _, e, ex, _⟩ := I.hok p _ hk
      refine ⟨⟨o, e, ex.1⟩, fun a e2 => ?_⟩
      cases e2
      exact ⟨o, e, ex.2.1⟩
  | _ => exact False.elim ty
def tBM0 (K : PySem.W.Frag) (T : String) (r : V → List V → Hp → VK → Prop) (to : TE) : TE := fun σ H Q => to σ H fun x H1 => tyV K T x H1 ∧ r x [] H1 Q
def tBM (K : PySem.W.Frag) (T : String) (r : V → List V → Hp → VK → Prop) (to : TE) (t : TA) : TE := fun σ H Q => to σ H fun x H1 => tyV K T x H1 ∧ t σ H1 fun xs H2 => r x xs H2 Q
variable {o e : Expr} {es : List Expr} {to : TE} {t : TA} {name : Str} {apos cpos : Pos} {T id : String} {r : V → List V → Hp → VK → Prop}
theorem pe_bm0 (pa : PlainAttrs T) (slot : Slot T name id) (hty : typeOf (.builtin id) = pure (.type "method_descriptor")) (hm : MtR X id r) (ho : PE X o to)
    (hbase : attributeBase o name X.env (eval o X.env) = eval o X.env := by rfl) (hline : (apos.endLine == cpos.line) = true := by rfl) : PE X (.Call (.Attribute o name apos) [] [] cpos) (tBM0 X.K T r to) := by
  intro pins s σ H Q I h
  refine wpAny_Call_method0_late hbase hline (thn (ho pins s σ H _ I h) fun v s1 ⟨x, H1, I1, r1, ty, q1⟩ => ?_)
  obtain ⟨h1, h2⟩ := tyV_is I1 r1 ty
  exact ⟨T, id, pa, slot, hty, h1, h2, Calls.callWith_builtin rfl (PySem.evalArgs_none (hm pins s1 σ H1 x [] v [] Q I1 r1 .nil q1))⟩
theorem pe_bm (pa : PlainAttrs T) (slot : Slot T name id) (hty : typeOf (.builtin id) = pure (.type "method_descriptor")) (hm : MtR X id r) (ho : PE X o to) (ha : PA X (e :: es) t)
    (hbase : attributeBase o name X.env (eval o X.env) = eval o X.env := by rfl)
    (hfew : ((backTo cpos (starEach (e :: es) X.env)).all (fun x => !x.1) && (backToKw cpos (keywordEach [] X.env)).all (fun x => x.1.isSome)
      && decide ((e :: es).length + ([] : List Keyword).length + (if ([] : List Keyword).isEmpty then 0 else 1) < 30)) = true := by rfl)
    (hline : (apos.endLine == cpos.line) = true := by rfl) (hs : starEach (e :: es) X.env = (false, eval e X.env) :: starEach es X.env := by rfl) (hplain : (backTo cpos (starEach es X.env)).any (·.1) = false := by rfl) :
    PE X (.Call (.Attribute o name apos) (e :: es) [] cpos) (tBM X.K T r to t) := by
  intro pins s σ H Q I h
  refine wpAny_Call_method_late hbase hfew hline rfl (thn (ho pins s σ H _ I h) fun v s1 ⟨x, H1, I1, r1, ty, q1⟩ => ?_)
  obtain ⟨h1, h2⟩ := tyV_is I1 r1 ty
  refine ⟨T, id, pa, slot, hty, h1, h2, ?_⟩
  have hA := ha cpos pins s1 σ H1 _ I1 q1
  rw [hs] at hA ⊢
  refine Calls.callWith_builtin (by show (false || (backTo cpos (starEach es X.env)).any (·.1)) = false; rw [hplain] <;> rfl) (Calls.evalArgs_plain ?_)
  exact thn hA fun us s2 ⟨vs, H2, I2, r2, q2⟩ => hm pins s2 σ H2 x vs v us Q I2 r1 r2 q2
/- xs.append(e), list.index on a module's tuple .. are MtR facts of 06m -/
end
end L2

namespace L2
open PySem PySem.Spec PyProof.Rows

def MtM (X : Cx) (id : String) (r : V → List V → Hp → VK → Prop) : Prop :=
  ∀ (pins : List (Addr × Obj)) (s : Shared) (σ : St) (H : Hp) (x : V) (xs : List V) (v : Value) (us : List Value) (Q : VK), Inv X pins σ H s → RelV x v → Vals xs us → r x xs H Q →
    wpAny (model X.prog X.w) X.A (call (.builtin id) (v :: us)) (EP X pins σ Q) X.xe s

/-! ### lists of values -/
theorem Vals.one : ∀ {x : V} {us : List Value}, Vals [x] us → ∃ u, us = [u] ∧ RelV x u
  | _, _, .cons r .nil => ⟨_, rfl, r⟩
theorem Vals.two : ∀ {x y : V} {us : List Value}, Vals [x, y] us → ∃ u v, us = [u, v] ∧ RelV x u ∧ RelV y v
  | _, _, _, .cons r (.cons q .nil) => ⟨_, _, rfl, r, q⟩
theorem Vals.zero : ∀ {us : List Value}, Vals [] us → us = []
  | _, .nil => rfl
theorem Vals.reverse {xs : List V} {us : List Value} (h : Vals xs us) : Vals xs.reverse us.reverse := by
  induction h with
  | nil => exact .nil
  | cons r t ih => rw [List.reverse_cons, List.reverse_cons]; exact Vals.append ih (.cons r .nil)
theorem Vals.rep {xs : List V} {us : List Value} (h : Vals xs us) : ∀ k : Nat, Vals (List.replicate k xs).flatten (List.replicate k us).flatten
  | 0 => .nil
  | k + 1 => by
    rw [List.replicate_succ, List.replicate_succ, List.flatten_cons, List.flatten_cons]
    exact Vals.append h (Vals.rep h k)
theorem foldl_rep (its : List Value) : ∀ (k : Nat) (acc : List Value),
    List.foldl (fun x1 x2 => x1 ++ x2) acc.toArray (List.replicate k its.toArray) = (acc ++ (List.replicate k its).flatten).toArray
  | 0, acc => by simp
  | k + 1, acc => by
    have e : acc.toArray ++ its.toArray = (acc ++ its).toArray := by simp
    have e2 : (acc ++ its) ++ (List.replicate k its).flatten = acc ++ (List.replicate (k + 1) its).flatten := by
      rw [List.replicate_succ, List.flatten_cons, List.append_assoc]
    rw [← e2, ← foldl_rep its k (acc ++ its), ← e, List.replicate_succ, List.foldl_cons]

section
variable {X : Cx} {pins : List (Addr × Obj)} {σ : St} {H : Hp} {s : Shared} {l b : Addr} {xs ys zs : List V}

/-! ### the two steps: a tracked list is rewritten, a new list is laid -/
theorem Inv.lset {its its' : List Value} {n : Nat} {f : Array Value → Array Value} {t' : Nat} (I : Inv X pins σ H s) (hH : H l = some (.lst xs))
    (e : s.heap.get? l = some { cls := .type "list", data := .seq its.toArray n }) (hf : f its.toArray = its'.toArray) (hv : Vals ys its') (hz : ys.length ≤ sizeLine) :
    Inv X pins σ (upd H l (.lst ys)) { s with heap := s.heap.update l (Obj.mapSeq f), toks := t' } := by
  have q := PySem.IsL.update e f
  rw [hf] at q
  refine I.write (x := l) (e := l) (by rw [hH]; exact trivial) (.inl rfl) (fun b' u hb hu => (Heap.get?_update_other s.heap (Obj.mapSeq f) (Ne.symm hb)).trans hu) ⟨_, q⟩ ?_
  exact ⟨hz, its', _, hv, q⟩
theorem Inv.lnew {its : List Value} {t' : Nat} (I : Inv X pins σ H s) (hv : Vals ys its) (hz : ys.length ≤ sizeLine) :
    Inv X pins σ (upd H s.heap.objs.size (.lst ys)) { s with heap := s.heap.push { cls := .type "list", data := .seq its.toArray }, toks := t' } :=
  I.laid (fun _ _ q => Heap.get?_push_of_some _ q) (Nat.le_refl _) ⟨hz, its, 0, hv, Heap.get?_push_size _ rfl⟩
theorem Inv.fresh (I : Inv X pins σ H s) : H s.heap.objs.size = none := I.hok.fresh (Nat.le_refl _)
theorem Inv.lstM (I : Inv X pins σ H s) (hH : H l = some (.lst xs)) : xs.length ≤ sizeLine ∧ ∃ (its : List Value) (n : Nat), Vals xs its ∧ xs.length = its.length ∧ s.heap.get? l = some { cls := .type "list", data := .seq its.toArray n } := by
  obtain ⟨z, its, n, r, e⟩ := I.hok l _ hH
  exact ⟨z, its, n, r, r.length, e⟩

theorem notLongL {n : Nat} (h : n ≤ sizeLine) : Builtin.List.listTooLong n = false := by
  unfold Builtin.List.listTooLong
  exact decide_eq_false (by omega)
end

section
variable {X : Cx}

/-! ### methods -/
def rAppend : V → List V → Hp → VK → Prop := fun x vs H Q => ∃ l xs y, x = .ref l ∧ vs = [y] ∧ H l = some (.lst xs) ∧ xs.length < sizeLine ∧ Q .non (upd H l (.lst (xs ++ [y])))
theorem mt_append : MtM X "list.append" rAppend := by
  intro pins s σ H x vs v us Q I rx rv h
  obtain ⟨l, xs, y, rfl, rfl, hH, hz, q⟩ := h
  cases rx
  obtain ⟨u, rfl, ru⟩ := rv.one
  obtain ⟨z, its, n, r, hl, e⟩ := I.lstM hH
  refine call_meets F.slot_list_append ⟨_, e, rfl⟩ F.entry_list_append (F.args_list_append_2 _ _) (PySem.list_append l its.toArray n u (by rw [List.size_toArray]; omega)) ⟨e, ?_⟩
  refine ⟨.non, _, I.lset (its' := its ++ [u]) hH e (by simp) (r.append (.cons ru .nil)) ?_, rfl, q⟩
  rw [List.length_append, List.length_singleton]
  omega

def rExtend : V → List V → Hp → VK → Prop := fun x vs H Q => ∃ l b xs zs, x = .ref l ∧ vs = [.ref b] ∧ H l = some (.lst xs) ∧ H b = some (.lst zs) ∧ xs.length + zs.length ≤ sizeLine ∧ Q .non (upd H l (.lst (xs ++ zs)))
theorem mt_extend : MtM X "list.extend" rExtend := by
  intro pins s σ H x vs v us Q I rx rv h
  obtain ⟨l, b, xs, zs, rfl, rfl, hH, hB, hz, q⟩ := h
  cases rx
  obtain ⟨u, rfl, ru⟩ := rv.one
  cases ru
  obtain ⟨z, its, n, r, hl, e⟩ := I.lstM hH
  obtain ⟨z2, its2, n2, r2, hl2, e2⟩ := I.lstM hB
  have hsz : its.toArray.size + its2.toArray.size ≤ sizeLine := by rw [List.size_toArray, List.size_toArray]; omega
  have hlong : ¬ (!its.toArray.isEmpty && Builtin.List.listTooLong (its.toArray.size + its2.toArray.size)) = true := by
    rw [notLongL hsz, Bool.and_false]
    exact Bool.false_ne_true
  refine call_meets F.slot_list_extend ⟨_, e, rfl⟩ F.entry_list_extend (F.args_list_extend_2 _ _)
    (AutoSeq1.list_extend_list_list_0 l its.toArray n b its2.toArray n2 hlong (by rw [List.size_toArray]; omega) (by omega)) ⟨e, e2, ?_⟩
  refine ⟨.non, _, I.lset (its' := its ++ its2) hH e (by simp) (r.append r2) ?_, rfl, q⟩
  rw [List.length_append]
  omega

def rReverse : V → List V → Hp → VK → Prop := fun x vs H Q => ∃ l xs, x = .ref l ∧ vs = [] ∧ H l = some (.lst xs) ∧ Q .non (upd H l (.lst xs.reverse))
theorem mt_reverse : MtM X "list.reverse" rReverse := by
  intro pins s σ H x vs v us Q I rx rv h
  obtain ⟨l, xs, rfl, rfl, hH, q⟩ := h
  cases rx
  have hus := rv.zero
  subst hus
  obtain ⟨z, its, n, r, hl, e⟩ := I.lstM hH
  refine call_meets F.slot_list_reverse ⟨_, e, rfl⟩ F.entry_list_reverse (F.args_list_reverse_1 _) (AutoSeq1.list_reverse_list_0 l its.toArray n (by rw [List.size_toArray]; omega)) ⟨e, ?_⟩
  refine ⟨.non, _, I.lset (its' := its.reverse) hH e (by simp) r.reverse ?_, rfl, q⟩
  rw [List.length_reverse]
  omega

def rClear : V → List V → Hp → VK → Prop := fun x vs H Q => ∃ l xs, x = .ref l ∧ vs = [] ∧ H l = some (.lst xs) ∧ Q .non (upd H l (.lst []))
theorem mt_clear : MtM X "list.clear" rClear := by
  intro pins s σ H x vs v us Q I rx rv h
  obtain ⟨l, xs, rfl, rfl, hH, q⟩ := h
  cases rx
  have hus := rv.zero
  subst hus
  obtain ⟨z, its, n, r, hl, e⟩ := I.lstM hH
  refine call_meets F.slot_list_clear ⟨_, e, rfl⟩ F.entry_list_clear (F.args_list_clear_1 _) (AutoSeq1.list_clear_list_0 l its.toArray n (by rw [List.size_toArray]; omega)) ⟨e, ?_⟩
  exact ⟨.non, _, I.lset (its' := []) (ys := []) hH e rfl .nil (Nat.zero_le _), rfl, q⟩

/-! ### list + list, list += list, list * int -/
def rCat : R2 := fun x y H Q => ∃ l b xs zs, x = .ref l ∧ y = .ref b ∧ H l = some (.lst xs) ∧ H b = some (.lst zs) ∧ xs.length + zs.length ≤ sizeLine ∧ ∀ p, H p = none → Q (.ref p) (upd H p (.lst (xs ++ zs)))
theorem op_cat : OpR X (binaryOp .Add) rCat := by
  intro pins s σ H x y v u Q I rx ry h
  obtain ⟨l, b, xs, zs, rfl, rfl, hH, hB, hz, q⟩ := h
  cases rx
  cases ry
  obtain ⟨z, its, n, r, hl, e⟩ := I.lstM hH
  obtain ⟨z2, its2, n2, r2, hl2, e2⟩ := I.lstM hB
  refine PySem.P.add_list e e2 ?_ (by rw [List.size_toArray, List.size_toArray]; omega)
  have ea : its.toArray ++ its2.toArray = (its ++ its2).toArray := by simp
  rw [ea]
  exact ⟨.ref _, _, I.lnew (t' := s.toks) (r.append r2) (by rw [List.length_append]; omega), rfl, q _ I.fresh⟩
/-- a list times an int (a negative one is nothing) -/
def rRep : R2 := fun x y H Q => ∃ l k xs, x = .ref l ∧ y = .int k ∧ H l = some (.lst xs) ∧ -(2 ^ 63) ≤ k ∧ k < 2 ^ 63 ∧ xs.length * k.toNat ≤ sizeLine ∧
  ∀ p, H p = none → Q (.ref p) (upd H p (.lst (List.replicate k.toNat xs).flatten))
theorem len_rep {α : Type} (xs : List α) (k : Nat) : (List.replicate k xs).flatten.length = k * xs.length := by
  induction k with
  | zero => simp
  | succ k ih => rw [List.replicate_succ, List.flatten_cons, List.length_append, ih, Nat.succ_mul, Nat.add_comm]
theorem op_rep : OpR X (binaryOp .Mult) rRep := by
  intro pins s σ H x y v u Q I rx ry h
  obtain ⟨l, k, xs, rfl, rfl, hH, h1, h2, hz, q⟩ := h
  cases rx
  obtain ⟨t, rfl⟩ := ry
  obtain ⟨z, its, n, r, hl, e⟩ := I.lstM hH
  have hlen : its.toArray.size * k.toNat ≤ sizeLine := by rw [List.size_toArray, ← hl]; exact hz
  have hcap : ¬ its.toArray.size * k.toNat > (2 ^ 63 - 1) / 8 := by
    have : (sizeLine : Nat) ≤ (2 ^ 63 - 1) / 8 := by decide
    omega
  have hfit : ¬ (!Builtin.List.listFitsIndex k) = true := by
    rw [fitsIndex_both h1 h2]
    exact Bool.false_ne_true
  have hlong : ¬ Builtin.List.listTooLong (its.toArray.size * k.toNat) = true := by
    rw [notLongL hlen]
    exact Bool.false_ne_true
  have hnew : List.foldl (fun x1 x2 => x1 ++ x2) #[] (List.replicate (if its.toArray.isEmpty = true then 0 else k.toNat) its.toArray) = (List.replicate k.toNat its).flatten.toArray := by
    have f0 : ∀ m : Nat, List.foldl (fun x1 x2 => x1 ++ x2) #[] (List.replicate m its.toArray) = (List.replicate m its).flatten.toArray := fun m => by
      have := foldl_rep its m []
      rw [List.nil_append] at this
      exact this
    rw [f0]
    cases its with
    | nil => simp
    | cons a r' => rw [if_neg (by simp)]
  refine wpAny_binaryOp_repeat_ref (T := "list") (U := "int") (by decide) ⟨_, e, rfl⟩ (fun s' => typeIs_int s' k t) noFill_list_mul F.fills_int_mul F.slot_int_rmul repeat_list F.slot_int_index.lookup
    (call_meets F.slot_int_rmul (typeIs_int s k t) F.entry_int_rmul (F.args_int_rmul_2 _ _) (int___rmul___int_list k t l its.toArray n)
      ⟨e, rfl, ⟨_, e, rfl⟩, call_meets F.slot_list_mul ⟨_, e, rfl⟩ F.entry_list_mul (F.args_list_mul_2 _ _) (AutoListH.list___mul___list_int_3 l its.toArray n k t hfit hcap hlong) ⟨e, ?_⟩⟩)
  rw [hnew]
  exact ⟨.ref _, _, I.lnew (t' := s.toks) (r.rep k.toNat) (by rw [len_rep, Nat.mul_comm]; exact hz), rfl, q _ I.fresh⟩

end

/-! ### xs[a:b] = ys -/
section
variable {prog : Program} {w : World} {A : Around} {E : Value → Shared → Prop} {s : Shared}
end

section
variable {X : Cx}
end
end L2

namespace Att
open PySem PySem.W PySem.Calls PyProof.Rows

/-! ### the script -/
theorem ints_of_wellAll {P : Params} {h : Heap} : ∀ (ns : List Int) (vs : List Value), WellAll P h vs (ns.map WData.int) → IntsAre vs ns := by
  intro ns
  induction ns with
  | nil =>
    intro vs w
    rw [List.map_nil] at w
    cases w
    exact .nil
  | cons n ns ih =>
    intro vs w
    rw [List.map_cons] at w
    cases w with
    | cons a b =>
      cases a
      exact .cons _ _ (ih _ b)

theorem script_of {l : OpenLaw} {n : Nat} (hn : l.most = some n) {P : Params} {h : Heap} {args : List WData} {vals : List Value}
    (hpre : l.row.toRowW.claim.pre args = true) (hwl : WellAll P h vals args) :
    ∃ a vs ns, vals = [Value.ref a] ∧ args = [WData.list (ns.map WData.int)] ∧ h.get? a = some { cls := .type "list", data := .seq vs.toArray } ∧ IntsAre vs ns ∧ ns.length ≤ n := by
  have hsh : WShape.hasAll [] args [.list .int] = true := (pre_splitW hpre).1
  have hc : l.pre.holds [] { args := args } = true := (pre_splitW hpre).2
  obtain ⟨d, r, rfl, h1, h2⟩ := hasAllW_cons hsh
  obtain rfl := hasAllW_nil h2
  obtain ⟨xs, rfl, h3⟩ := hasW_list h1
  obtain ⟨ns, rfl⟩ := items_int h3
  have hlen : ns.length ≤ n := by
    unfold OpenLaw.pre at hc
    have h4 : (WTm.not (.lt (.lit (.int (n : Int))) (.len (.arg 0)))).holds [] { args := [.list (ns.map .int)] } = true := by
      have h4 := (holds_andW hc).1
      rw [hn] at h4
      exact h4
    have h5 := condW_of h4 (w_not (w_lt w_lit (w_len_list (w_arg rfl))))
    rw [List.length_map] at h5
    refine Nat.le_of_not_lt fun q => ?_
    have q' : (n : Int) < ((ns.length : Nat) : Int) := by omega
    first
      | (rw [decide_eq_true q'] at h5; exact absurd h5 (by decide))
      | (simp at h5; omega)
  cases hwl with
  | cons w1 w2 =>
    cases w2
    cases w1 with
    | list ho hall => exact ⟨_, _, ns, rfl, rfl, ho, ints_of_wellAll ns _ hall, hlen⟩

theorem post_true (l : OpenLaw) (args : List WData) : l.row.toRowW.claim.post args (.bool true) args = true :=
  postW_of (r := l.row.toRowW) (X := (true == true))
    (show WShape.has [] (.bool true) .bool = true by first | rfl | decide | simp [WShape.has, WShape.arms, WShape.armsAll])
    (show (WTm.eq .res (.lit (.bool true))).value [] { args := args, res := some (.bool true), after := args } = some (.bool (true == true)) from w_eq_bool (w_res rfl) w_lit) rfl

/-- the same from a codeAny of the CALL (for a layer whose function contracts speak of calls) -/
theorem attach_call {l : OpenLaw} {n : Nat} {q : Program} {loose : List Str} {XP : (Str → Option Value) → Heap → Prop} {YP : World → Heap → Prop} {d : DefRec}
    (hn : l.most = some n) (hdf : d.params.defaults = [])
    (call : ∀ (w : World) (s₀ s₁ : Shared) (mg mb : Str → Option Value) (fa : Addr) (o : Obj) (pm cd doc : Value) (a : Addr) (vs : List Value) (ns : List Int),
      Ground q loose [] XP w s₀ mg mb s₁.heap → YP w s₁.heap →
      s₁.heap.get? fa = some o → o.data = .func (docDef d.name d.params d.body d.scope pm cd doc) → s₁.heap.CodeRec cd d.name → mg d.name = some (.ref fa) →
      s₁.heap.get? a = some { cls := .type "list", data := .seq vs.toArray } → IntsAre vs ns → ns.length ≤ n → s₁.gens = #[] →
      codeAny (model l.prog w) callerA (.call (.ref fa) ⟨[.ref a], []⟩) (fun r s' => r = .ok (.ret (.bool true)) ∧ OldK s₁.heap s'.heap ∧ s'.os = s₁.os ∧ AllBare s'.gens) s₁) :
    WalkO q loose XP YP l.row.toRowW d [] (fun f vs => PySem.call f vs) := by
  intro w s₀ s₁ mg mb G Y fa o pm cd doc dV kV ho hd hcd hD hmg hg args vals as hpre hlay hrd hwl hlo
  obtain rfl : dV = .none := Dflts.none hD hdf
  obtain rfl : kV = .none := Dflts.noKw hD
  obtain ⟨a, vs, ns, rfl, rfl, hobj, hints, hlen⟩ := script_of hn hpre hwl
  refine enter_call (codeAny_mono (call w s₀ s₁ mg mb fa o pm cd doc a vs ns G Y ho (fd_plain hd) hcd hmg hobj hints hlen hg) fun r s' hq => ?_)
  obtain ⟨rfl, h2, h3, h4⟩ := hq
  exact ⟨.inl ⟨.bool true, .bool true, [], rfl, fun _ => rfl, .bool true, post_true l _, fun _ => ⟨List.Pairwise.nil, fun _ hm => (nomatch hm)⟩⟩, h2, h3, h4⟩

/-! ### rules over ANY heap (no ledger) from facts about the written part K: the library's own take a ledger (News) for what they write -/
section
variable {prog : Program} {w : World} {A : Around} {E : Value → Shared → Prop} {s : Shared} {K : Frag}

def ledger (h : Heap) (L d : Addr) : List (Addr × Obj) := (List.range h.objs.size).filterMap fun a => if a = L ∨ a = d then none else (h.get? a).map fun o => (a, o)
end
end Att

namespace L2
open PySem PySem.Spec PyProof.Rows

theorem vals_ints : ∀ {vs : List Value} {ns : List Int}, IntsAre vs ns → Vals (ns.map V.int) vs
  | _, _, .nil => .nil
  | _, _, .cons n t h => .cons ⟨t, rfl⟩ (vals_ints h)

/-- nothing is tracked but the script, known to the object (or it is an object of the module) -/
def Only (H : Hp) : Prop := ∀ b, H b = none ∨ ∃ o xs, H b = some (.frz o (.lst xs))

/-- THE HEAD: the law's promise, at the heap behind the top. F, the promise of the law's def, may use that base is part of the heap (so K.In base, base.Ns mainGlobals mg stand in Mod) -/
theorem law_call {P : Program} {w : World} {K : PySem.W.Frag} {mg mb : Str → Option Value} {CX : CXT} {k : Nat} {fa a : Addr} {fd : FuncData} {x : Str} {sp : Sp} {s₁ : Shared} {vs : List Value} {ns : List Int}
    (KX : K.In s₁.heap) (hns : s₁.heap.Ns mainGlobals mg) (hb : s₁.heap.Ns builtinsNs mb) (hbb : ∀ x : Str, x ≠ "__name__" → mb x = bootBuiltins x) (hlim : s₁.heap.NoLimit) (hg : s₁.gens = #[])
    (ha : s₁.heap.get? a = some { cls := .type "list", data := .seq vs.toArray }) (hi : IntsAre vs ns) (hl : ns.length ≤ sizeLine) (hr : Room k callerA)
    (F : ∀ base : Heap, K.In base → base.Ns mainGlobals mg → FnOk P w K mg base CX k fa fd [x] sp) (hbind : ∀ (s : Shared) (u : Value), BindsTo s fd ⟨[u], []⟩ [(x, u)])
    (hsp : ∀ H : Hp, Only H → SqL K H a (ns.map V.int) → sp [.ref a] H (fun v _ => v = .bl true) fun _ _ _ => False)
    (hCX : ∀ H e s', CX [] H s₁ (fun _ _ _ => False) e s' → False) :
    codeAny (model P w) callerA (.call (.ref fa) ⟨[.ref a], []⟩) (fun r s' => r = .ok (.ret (.bool true)) ∧ OldK s₁.heap s'.heap ∧ s'.os = s₁.os ∧ AllBare s'.gens) s₁ := by
  have rv := vals_ints hi
  have lenV := hi.length
  -- from an abstract heap in which nothing but the script may be tracked
  have core : ∀ H : Hp, Only H → SqL K H a (ns.map V.int) → HOk P w H s₁.heap → (∀ b, H b ≠ none → b = a) → (H a ≠ none → K.lookup a = none) →
      codeAny (model P w) callerA (.call (.ref fa) ⟨[.ref a], []⟩) (fun r s' => r = .ok (.ret (.bool true)) ∧ OldK s₁.heap s'.heap ∧ s'.os = s₁.os ∧ AllBare s'.gens) s₁ := by
    intro H hO hS hok hA hK
    have base_of : ∀ {b : Addr} {o : Obj}, s₁.heap.get? b = some o → H b = none → (hidT s₁.heap H).get? b = some o := fun e n => hidT_get e n
    have noA : ∀ {b : Addr} {o : Obj} {es : Array DictEntry} {ep : Nat}, s₁.heap.get? b = some o → o.data = .dict es ep → H b = none := fun {b o es ep} e d => by
      cases q : H b with
      | none => rfl
      | some u =>
        have e' : b = a := hA b (by rw [q]; simp)
        subst e'
        rw [ha] at e; cases e
        have d' : Data.seq vs.toArray _ = Data.dict es ep := d
        cases d'
    have nsK : ∀ {b : Addr} {m : Str → Option Value}, s₁.heap.Ns b m → (hidT s₁.heap H).Ns b m := fun {b m} ⟨o, es, ep, e, d, r⟩ => ⟨o, es, ep, base_of e (noA e d), d, r⟩
    have hKb : K.In (hidT s₁.heap H) := fun b o e => base_of (KX b o e) (by
      cases q : H b with
      | none => rfl
      | some u =>
        have e' : b = a := hA b (by rw [q]; simp)
        subst e'
        rw [hK (by rw [q]; simp)] at e; cases e)
    have hM : Mod K mg (hidT s₁.heap H) := ⟨hKb, nsK hns, ⟨mb, nsK hb, hbb⟩, let ⟨mc, h1, h2⟩ := hlim; ⟨mc, nsK h1, h2⟩⟩
    have e0 : Env0 P w K mg (hidT s₁.heap H) callerA [] s₁ H := ⟨rfl, hM, fun b o e => of_hidT e, Nat.le_of_eq (hidT_size _ _), trivial, fun b hb => absurd (show b ∈ ([] : List Addr) from hb) (by simp), hok, .of_eq hg⟩
    refine codeAny_mono ((F _ hKb (nsK hns)).run callerA [] s₁ H ⟨[.ref a], []⟩ [.ref a] [.ref a] _ _ hr e0 (hbind s₁ (.ref a)) (.cons rfl .nil) (hsp H hO hS)) fun r s' h => ?_
    cases r with
    | error e => exact (hCX H e s' h).elim
    | ok fl =>
      cases fl with
      | next => exact False.elim h
      | brk => exact False.elim h
      | cont => exact False.elim h
      | ret u =>
        obtain ⟨v, H', os, bare, un, hok', r', q⟩ := h
        have q' : v = .bl true := q
        subst q'
        obtain rfl : u = Value.bool true := r'
        refine ⟨rfl, OldK.of_keep fun b o e => ?_, os, bare⟩
        cases q : H b with
        | none => exact un.keep b o e q (by intro z; exact absurd (show b ∈ ([] : List Addr) from z) (by simp)) (by simp)
        | some u =>
          rcases hO b with z | ⟨ob, xs, z⟩
          · rw [q] at z; cases z
          · have z2 := un.frzs b ob _ z
            obtain ⟨e1, _⟩ := hok b _ z
            obtain ⟨e2, _⟩ := hok' b _ z2
            rw [e] at e1; cases e1
            exact e2
  cases hk : K.lookup a with
  | some o =>
    -- the script is one of the module's own objects
    have e := KX a o hk
    rw [ha] at e
    cases e
    refine core (fun _ => none) (fun _ => .inl rfl) (.inr ⟨_, vs.toArray, _, hk, rfl, rfl, rfl, by rw [List.size_toArray, lenV]; exact hl, by simpa using rv⟩) (fun b u z => by have z' : (none : Option HO) = some u := z; cases z') (fun b z => absurd rfl z) fun z => absurd rfl z
  | none =>
    refine core (fun b => if b = a then some (.frz { cls := .type "list", data := .seq vs.toArray } (.lst (ns.map V.int))) else none) (fun b => ?_) (.inl (.inr ⟨{ cls := .type "list", data := .seq vs.toArray }, if_pos rfl⟩)) (fun b u z => ?_) (fun b z => ?_) fun _ => hk
    · by_cases hb : b = a
      · exact .inr ⟨_, _, if_pos hb⟩
      · exact .inl (if_neg hb)
    · by_cases hb : b = a
      · have z' := (if_pos hb).symm.trans z
        cases z'
        subst hb
        exact ⟨ha, by rw [List.length_map]; exact hl, vs, _, rv, ha⟩
      · have z' := (if_neg hb).symm.trans z
        cases z'
    · by_cases hb : b = a
      · exact hb
      · exact absurd (if_neg hb) z
end L2

namespace L2
open PySem PySem.Spec PyProof.Rows

/-- the goal that k_head leaves (case hc), from the law's promise. F gives the function object fd (K's own) once, then the promise over every base -/
theorem walk_of {l : PySem.W.OpenLaw} {n k : Nat} {q : Program} {loose : List Str} {XP : (Str → Option Value) → Heap → Prop} {YP : World → Heap → Prop} {d : DefRec} {K : Params → PySem.W.Frag} {CX : World → CXT} {sp : World → Sp} {x : Str}
    (hn : l.most = some n) (hn2 : n ≤ sizeLine) (hdf : d.params.defaults = []) (hr : Room k callerA)
    (hY : ∀ (w : World) (h : Heap), YP w h → (K w.params).In h)
    (F : ∀ (w : World) (mg : Str → Option Value) (fa : Addr) (h : Heap), (K w.params).In h → h.Ns mainGlobals mg → mg d.name = some (.ref fa) →
      ∃ fd : FuncData, (∀ (s : Shared) (u : Value), BindsTo s fd ⟨[u], []⟩ [(x, u)]) ∧
        ∀ base : Heap, (K w.params).In base → base.Ns mainGlobals mg → FnOk l.prog w (K w.params) mg base (CX w) k fa fd [x] (sp w))
    (hsp : ∀ (w : World) (H : Hp) (a : Addr) (ns : List Int), ns.length ≤ n → Only H → SqL (K w.params) H a (ns.map V.int) → sp w [.ref a] H (fun v _ => v = .bl true) fun _ _ _ => False)
    (hCX : ∀ (w : World) (H : Hp) (s : Shared) (e : Value) (s' : Shared), CX w [] H s (fun _ _ _ => False) e s' → False) :
    PySem.W.WalkO q loose XP YP l.row.toRowW d [] (fun f vs => PySem.call f vs) := by
  refine Att.attach_call hn hdf fun w s₀ s₁ mg mb fa o pm cd doc a vs ns G Y ho hd hcd hmg hobj hints hlen hg => ?_
  have KX := hY w _ Y
  obtain ⟨fd, hb, hF⟩ := F w mg fa _ KX G.T.g hmg
  exact law_call KX G.T.g G.T.b G.T.builtins G.T.nolimit hg hobj hints (Nat.le_trans hlen hn2) hr hF hb (fun H hO hS => hsp w H a ns hlen hO hS) fun H e s' => hCX w H s₁ e s'
end L2

/- THE LAST THEOREM (shape; LID, My.* are yours):
   My.Adr: a structure of the addresses that your layer names (classes, functions); My.Txt K t: a structure (Prop) of the equations over K;
   My.txt_mk : {K} {implicit addresses ..} (e1 : nsIn K mainGlobals "law" = some (some (.ref f))) (e2 : K.lookup f = some ⟨oc, od, .func (fnOf "law" "law" params body scope dV kV doc pm an cdv ct), sl⟩) (e3 : codeIn K cdv "law" = true) .. : ∃ t, My.Txt K t

set_option maxRecDepth 100000 in
set_option maxHeartbeats 0 in
theorem PySem.Challenge.cw_LID_holds : PySem.Challenge.rw_LID.Holds := by
  w_on; o_law; k_head; (case hw => w_witness2)
  k_fill
  refine L2.walk_of (l := PySem.Challenge.rw_LID) (n := 63) (k := 40) (x := "script") (CX := fun w => ..) (sp := fun _ => My.sp_law) rfl (by decide) rfl ⟨rfl, by decide, by decide⟩ (fun w h Y => PySem.W.kIn_of Y) ?F ?S ?C
  case F =>
    intro w mg fa h KX G hmg
    have T : ∃ t, My.Txt (L2.KOf KX) t := by
      dsimp only [L2.KOf]                          -- K must stand as «<heap const> w.params» for k_is
      refine' My.txt_mk ?e1 ?e2 ?e3 ..
      (case e1 => PySem.W.k_is)                    -- in the order: a name -> its address -> its object -> its parts
      (case e2 => PySem.W.k_is)
      ..
    obtain ⟨t, T⟩ := T
    have e0 := hmg.symm.trans (PySem.W.mg_of KX G T.law)
    cases e0                                       -- fa is the law's own address
    exact ⟨_, fun s u => .of_eq rfl, fun base kb nb => My.law_fn T kb nb⟩     -- if «.of_eq rfl» comes too early: refine' ⟨_, ?b, fun base kb nb => My.law_fn T kb nb⟩; exact fun s u => .of_eq rfl
  case S => exact fun w H a ns hl hO hS => ..
  case C => exact ..
(the tactic k_is has no namespace: write k_is) -/

/-! SHORT WORDS over the layer: a def of the text, its body, what a loop and a test want. -/
namespace L2
open PySem PySem.Spec PyProof.Rows

def defArgs (s : Stmt) : Arguments := match s with
  | .FunctionDef _ a _ _ _ _ _ _ _ _ => a
  | _ => { posonlyargs := [], args := [], vararg := none, kwonlyargs := [], kw_defaults := [], kwarg := none, defaults := [] }
def defBody (s : Stmt) : List Stmt := match s with
  | .FunctionDef _ _ b _ _ _ _ _ _ _ => b
  | _ => []
def defScope (s : Stmt) : Scope := match s with
  | .FunctionDef _ _ _ _ _ _ sc _ _ _ => sc
  | _ => { kind := .function, names := [], isGenerator := false, isCoroutine := false }

/-! ### no exception leaves a def -/
abbrev CX0 : CXT := fun _ _ _ _ _ _ => False
abbrev E0 : XK := fun _ _ _ => False
theorem pass0 {X : Cx} : Passes CX0 X E0 := fun _ _ _ _ _ _ _ h => h.elim

/-! ### a def (or method) of the text as it stands behind the top -/
structure Fun (K : PySem.W.Frag) (x qual : Str) (st : Stmt) (f : Addr) (fd : FuncData) : Prop where
  ex : ∃ (oc : Value) (od : Option Addr) (kV doc pm : Value) (an : Option Addr) (cdv ct : Value) (osl : Array (Option Value)),
    fd = PySem.W.fnOf x qual (defArgs st) (defBody st) (defScope st) .none kV doc pm an cdv ct ∧ K.lookup f = some ⟨oc, od, .func fd, osl⟩ ∧ PySem.W.codeIn K cdv qual = true
  kp : PySem.W.keepIn K (.ref f) = true
section
variable {P : Program} {w : World} {K : PySem.W.Frag} {mg : Str → Option Value} {base : Heap}
/-- THE RULE for a def: its body as a term of rules, and the reading of that term -/
theorem Fun.ok {x qual : Str} {st : Stmt} {f : Addr} {fd : FuncData} {N ps : List Str} {k : Nat} {sp : Sp} (F : Fun K x qual st f fd) (S : FnScope N ps (defScope st)) (len : ∀ vs H Q E, sp vs H Q E → vs.length = ps.length)
    (hbody : ∀ (cdv : Value) (A : Around) (outer : List Env) (s : Shared) (H : Hp) (vs : List V) (Q : VK) (E : XK), Room k (A.deeper (envOfC qual (defScope st) s.heap.objs.size f cdv)) → sp vs H Q E →
      ∃ t, PSs (cxOf CX0 P w K mg base N qual (defScope st) f cdv A outer s H E).nox (defBody st) t ∧ t { nx := fun _ H' => Q .non H', rt := Q } (start N vs) H) : FnOk P w K mg base CX0 (k + 1) f fd ps sp := by
  obtain ⟨oc, od, kV, doc, pm, an, cdv, ct, osl, rfl, lk, hcd⟩ := F.ex
  refine fn_of lk hcd S len fun A outer s H vs Q E hr hsp => ?_
  obtain ⟨t, h, q⟩ := hbody cdv A outer s H vs Q E hr hsp
  exact ⟨t, h.nox, q⟩
/-- how its arguments bind (no defaults): h is «fun _ _ _ _ _ _ us hl => match us, hl with | [_, _], _ => rfl», one _ a parameter -/
theorem Fun.binds {x qual : Str} {st : Stmt} {f : Addr} {fd : FuncData} {ps : List Str} (F : Fun K x qual st f fd)
    (h : ∀ (kV doc pm : Value) (an : Option Addr) (cdv ct : Value) (us : List Value), us.length = ps.length → bindArgs (PySem.W.fnOf x qual (defArgs st) (defBody st) (defScope st) .none kV doc pm an cdv ct) ⟨us, []⟩ = pure (ps.zip us)) : Binds K fd ps [] := by
  obtain ⟨oc, od, kV, doc, pm, an, cdv, ct, osl, rfl, lk, hcd⟩ := F.ex
  exact .all (h kV doc pm an cdv ct)
theorem fun_mk {x qual : Str} {st : Stmt} {f : Addr} {oc : Value} {od an : Option Addr} {osl : Array (Option Value)} {kV doc pm cdv ct : Value} (l : K.lookup f = some ⟨oc, od, .func (PySem.W.fnOf x qual (defArgs st) (defBody st) (defScope st) .none kV doc pm an cdv ct), osl⟩)
    (c : PySem.W.codeIn K cdv qual = true) (k : PySem.W.keepIn K (.ref f) = true) : Fun K x qual st f (PySem.W.fnOf x qual (defArgs st) (defBody st) (defScope st) .none kV doc pm an cdv ct) := ⟨⟨oc, od, kV, doc, pm, an, cdv, ct, osl, rfl, l, c⟩, k⟩
end
/-! ### expressions in short: the name that stands in the i-th slot -/
section
variable {X : Cx}
end

/-! ### heaps -/
/-- all that was tracked is as it was -/
def Same (H H' : Hp) : Prop := ∀ b o, H b = some o → H' b = some o
theorem Same.refl (H : Hp) : Same H H := fun _ _ h => h
theorem Same.trans {H H1 H2 : Hp} (a : Same H H1) (b : Same H1 H2) : Same H H2 := fun c o h => b c o (a c o h)
theorem Same.free {H H' : Hp} (e : Same H H') {l : Addr} (h : H' l = Option.none) : H l = Option.none := by
  cases q : H l with
  | none => rfl
  | some o =>
    rw [e l o q] at h
    cases h
theorem Same.seq {K : PySem.W.Frag} {H H' : Hp} {a : Addr} {xs : List V} (e : Same H H') (h : SqL K H a xs) : SqL K H' a xs := by
  rcases h with (h | ⟨o, h⟩) | h
  · exact .inl (.inl (e _ _ h))
  · exact .inl (.inr ⟨o, e _ _ h⟩)
  · exact .inr h

end L2
namespace L2
open PySem PySem.Spec PyProof.Rows

/-! ### lists of pairs as tables -/
section
variable {κ : Type} [DecidableEq κ]
def valV (kvs : List (κ × V)) (k : κ) : Option V := (kvs.find? fun kv => decide (kv.1 = k)).map (·.2)
/-- in its place, or at the end -/
def putK (kvs : List (κ × V)) (k : κ) (v : V) : List (κ × V) :=
  if (kvs.any fun kv => decide (kv.1 = k)) = true then kvs.map (fun kv => if kv.1 = k then (kv.1, v) else kv) else kvs ++ [(k, v)]
def dropK (kvs : List (κ × V)) (k : κ) : List (κ × V) := kvs.filter fun kv => decide (kv.1 ≠ k)

theorem valV_pos {p : κ × V} {r : List (κ × V)} {k : κ} (e : p.1 = k) : valV (p :: r) k = some p.2 := by simp [valV, List.find?_cons, e]
theorem valV_neg {p : κ × V} {r : List (κ × V)} {k : κ} (e : ¬ p.1 = k) : valV (p :: r) k = valV r k := by simp [valV, List.find?_cons, e]
theorem valV_any (k : κ) : ∀ kvs : List (κ × V), (kvs.any fun kv => decide (kv.1 = k)) = (valV kvs k).isSome
  | [] => rfl
  | p :: r => by
    rw [List.any_cons]
    by_cases e : p.1 = k
    · simp only [valV_pos e, decide_eq_true e, Bool.true_or, Option.isSome_some]
    · rw [valV_neg e, decide_eq_false e, Bool.false_or]; exact valV_any k r
theorem length_putK (kvs : List (κ × V)) (k : κ) (v : V) : (putK kvs k v).length ≤ kvs.length + 1 := by
  unfold putK
  split
  · rw [List.length_map]; omega
  · rw [List.length_append, List.length_cons, List.length_nil]; omega
theorem RelO.isSome_eq {o : Option V} {u : Option Value} (r : RelO o u) : o.isSome = u.isSome := by
  cases o with
  | none => cases u with
    | none => rfl
    | some _ => exact (show False from r).elim
  | some _ => cases u with
    | none => exact (show False from r).elim
    | some _ => rfl
theorem RelO.getD {o : Option V} {u : Option Value} {d : V} {d' : Value} (r : RelO o u) (rd : RelV d d') : RelV (o.getD d) (u.getD d') := by
  cases o with
  | none => cases u with
    | none => exact rd
    | some _ => exact (show False from r).elim
  | some _ => cases u with
    | none => exact (show False from r).elim
    | some _ => exact r

/-- raw tables of the same keys -/
theorem KV.val {kvs : List (κ × V)} {vs : List (κ × Value)} (r : KV kvs vs) (k : κ) : RelO (valV kvs k) (valueAt vs k) := by
  unfold KV at r
  induction r with
  | nil => exact True.intro
  | @cons p q ps qs h t ih =>
    obtain ⟨h1, h2⟩ := h
    by_cases e : p.1 = k
    · have e' : q.1 = k := h1.symm.trans e
      have b : valueAt (q :: qs) k = some q.2 := by simp [valueAt, List.find?_cons, e']
      rw [valV_pos e, b]; exact h2
    · have e' : ¬ q.1 = k := fun z => e (h1.trans z)
      have b : valueAt (q :: qs) k = valueAt qs k := by simp [valueAt, List.find?_cons, e']
      rw [valV_neg e, b]; exact ih
theorem KV.any {kvs : List (κ × V)} {vs : List (κ × Value)} (r : KV kvs vs) (k : κ) : (kvs.any fun kv => decide (kv.1 = k)) = vs.any fun kv => decide (kv.1 = k) := by
  unfold KV at r
  induction r with
  | nil => rfl
  | cons h t ih => rw [List.any_cons, List.any_cons, ih, h.1]
theorem KV.repl {kvs : List (κ × V)} {vs : List (κ × Value)} (r : KV kvs vs) (k : κ) {y : V} {u : Value} (ry : RelV y u) :
    KV (kvs.map fun kv => if kv.1 = k then (kv.1, y) else kv) (vs.map fun kv => if kv.1 = k then (kv.1, u) else kv) := by
  unfold KV at r ⊢
  induction r with
  | nil => exact .nil
  | @cons p q ps qs h t ih =>
    rw [List.map_cons, List.map_cons]
    refine .cons ?_ ih
    obtain ⟨h1, h2⟩ := h
    by_cases e : p.1 = k
    · rw [if_pos e, if_pos (h1.symm.trans e)]; exact ⟨h1, ry⟩
    · rw [if_neg e, if_neg (fun z => e (h1.trans z))]; exact ⟨h1, h2⟩
theorem KV.put {kvs : List (κ × V)} {vs : List (κ × Value)} (r : KV kvs vs) (k : κ) {y : V} {u : Value} (ry : RelV y u) : KV (putK kvs k y) (stored vs k u) := by
  unfold putK stored
  rw [r.any k]
  by_cases e : (vs.any fun kv => decide (kv.1 = k)) = true
  · rw [if_pos e, if_pos e]; exact r.repl k ry
  · rw [if_neg e, if_neg e]; exact Paired.snoc r ⟨rfl, ry⟩
theorem KV.drop {kvs : List (κ × V)} {vs : List (κ × Value)} (r : KV kvs vs) (k : κ) : KV (dropK kvs k) (without vs k) := by
  unfold KV at r ⊢
  unfold dropK without
  induction r with
  | nil => exact .nil
  | @cons p q ps qs h t ih =>
    obtain ⟨h1, h2⟩ := h
    rw [List.filter_cons, List.filter_cons]
    by_cases e : p.1 = k
    · have a : ¬ decide (p.1 ≠ k) = true := by simp [e]
      have b : ¬ decide (q.1 ≠ k) = true := by simp [h1.symm.trans e]
      rw [if_neg a, if_neg b]; exact ih
    · have e' : ¬ q.1 = k := fun z => e (h1.trans z)
      have a : decide (p.1 ≠ k) = true := by simp [e]
      have b : decide (q.1 ≠ k) = true := by simp [e']
      rw [if_pos a, if_pos b]; exact .cons ⟨h1, h2⟩ ih
theorem KV.keys {kvs : List (κ × V)} {vs : List (κ × Value)} (r : KV kvs vs) : kvs.map (·.1) = vs.map (·.1) := by
  unfold KV at r
  induction r with
  | nil => rfl
  | cons h t ih => rw [List.map_cons, List.map_cons, ih, h.1]
theorem KV.length {kvs : List (κ × V)} {vs : List (κ × Value)} (r : KV kvs vs) : kvs.length = vs.length := Paired.length r
end


/-! ### a tracked dict, its keys ints and texts or tuples of these -/
theorem kV_is {P : Program} {w : World} {k : Key} {u : Value} (r : RelV (kV k) u) : (mixKind P w).is k u = true := by
  cases k with
  | inl i => obtain ⟨t, e⟩ := (show ∃ t, u = Value.int i t from r); subst e; exact mixKind_int P w i t
  | inr x => obtain ⟨t, e⟩ := (show ∃ t, u = Value.str x t from r); subst e; exact mixKind_str P w x t
theorem items_are {P : Program} {w : World} : ∀ {ks : List Key} {us : List Value}, Vals (ks.map kV) us → ItemsAre (mixKind P w) ks us
  | [], _, r => by rw [List.map_nil] at r; cases r; exact .nil
  | k :: ks, _, r => by
    rw [List.map_cons] at r
    cases r with
    | cons h t => exact .cons (kV_is h) (items_are t)

/-- raw entries of a dict with tuple keys -/
abbrev KT (H : Hp) : List (List Key × V) → List (List Key × Addr × Value) → Prop := Paired fun p q => p.1 = q.1 ∧ H q.2.1 = some (.tup (p.1.map kV)) ∧ RelV p.2 q.2.2
theorem KT.val {H : Hp} {kvs : List (List Key × V)} {xs : List (List Key × Addr × Value)} (r : KT H kvs xs) (k : List Key) : RelO (valV kvs k) ((atKey xs k).map (·.2)) := by
  induction r with
  | nil => exact True.intro
  | @cons p q ps qs h t ih =>
    obtain ⟨h1, _, h2⟩ := h
    by_cases e : p.1 = k
    · have e' : q.1 = k := h1.symm.trans e
      have b : atKey (q :: qs) k = some q.2 := by simp [atKey, List.find?_cons, e']
      rw [valV_pos e, b]; exact h2
    · have e' : ¬ q.1 = k := fun z => e (h1.trans z)
      have b : atKey (q :: qs) k = atKey qs k := by simp [atKey, List.find?_cons, e']
      rw [valV_neg e, b]; exact ih
theorem KT.repl {H : Hp} {kvs : List (List Key × V)} {xs : List (List Key × Addr × Value)} (r : KT H kvs xs) (k : List Key) {y : V} {u : Value} (ry : RelV y u) :
    KT H (kvs.map fun kv => if kv.1 = k then (kv.1, y) else kv) (xs.map (putAt k u)) := by
  induction r with
  | nil => exact .nil
  | @cons p q ps qs h t ih =>
    rw [List.map_cons, List.map_cons]
    refine .cons ?_ ih
    obtain ⟨h1, h2, h3⟩ := h
    unfold putAt
    by_cases e : p.1 = k
    · rw [if_pos e, if_pos (h1.symm.trans e)]; exact ⟨h1, h2, ry⟩
    · rw [if_neg e, if_neg (fun z => e (h1.trans z))]; exact ⟨h1, h2, h3⟩
theorem KT.put {H : Hp} {kvs : List (List Key × V)} {xs : List (List Key × Addr × Value)} (r : KT H kvs xs) (k : List Key) {b : Addr} {y : V} {u : Value} (hb : H b = some (.tup (k.map kV))) (ry : RelV y u) :
    KT H (putK kvs k y) (storedH xs k b u) := by
  have e : (kvs.any fun kv => decide (kv.1 = k)) = (atKey xs k).isSome := by
    rw [valV_any, (r.val k).isSome_eq, Option.isSome_map]
  unfold putK storedH
  rw [e]
  by_cases q : (atKey xs k).isSome = true
  · rw [if_pos q, if_pos q]; exact r.repl k ry
  · rw [if_neg q, if_neg q]; exact Paired.snoc r ⟨rfl, hb, ry⟩
theorem KT.keeps {H H' : Hp} {kvs : List (List Key × V)} {xs : List (List Key × Addr × Value)} (r : KT H kvs xs) (ht : ∀ b ys, H b = some (.tup ys) → H' b = some (.tup ys)) : KT H' kvs xs :=
  Paired.mapP r fun _ _ z => ⟨z.1, ht _ _ z.2.1, z.2.2⟩

section
variable {P : Program} {w : World} {H : Hp} {h : Heap} {a : Addr}
theorem rd_of {u : HO} (ok : HOk P w H h) (e : Rd H a u) : ObjOk P w H h a u := e.ok ok
theorem dk_rd {kvs : List (Key × V)} (ok : HOk P w H h) (e : Rd H a (.dK kvs)) : kvs.length ≤ sizeLine ∧ (a == sysModules) = false ∧ ∃ vs, KV kvs vs ∧ h.DictOf (mixKind P w) a vs :=
  show ObjOk P w H h a (.dK kvs) from rd_of ok e
theorem dk_of {kvs : List (Key × V)} (ok : HOk P w H h) (e : H a = some (.dK kvs)) : kvs.length ≤ sizeLine ∧ (a == sysModules) = false ∧ ∃ vs, KV kvs vs ∧ h.DictOf (mixKind P w) a vs := dk_rd ok (.inl e)
/-- a tracked tuple of ints and texts is a key -/
theorem key_of {ks : List Key} (ok : HOk P w H h) (e : H a = some (.tup (ks.map kV))) : (tupleKind (mixKind P w)).is h ks a := by
  obtain ⟨_, its, r, o, h1, h2, n, h3⟩ := (show ObjOk P w H h a (.tup (ks.map kV)) from ok a _ e)
  exact ⟨o, its.toArray, n, h1, h2, h3, by simpa using items_are r⟩
theorem dt_rd {kvs : List (List Key × V)} (ok : HOk P w H h) (e : Rd H a (.dT kvs)) : kvs.length ≤ sizeLine ∧ (a == sysModules) = false ∧
    ∃ xs, KT H kvs xs ∧ h.DictOfH (tupleKind (mixKind P w)) a xs := by
  obtain ⟨z, y, xs, r, o, es, ep, h1, h2, h3, h4, h5⟩ := (show ObjOk P w H h a (.dT kvs) from rd_of ok e)
  refine ⟨z, y, xs, r, o, es, ep, h1, h2, h3, h4, fun x hx => ?_, h5⟩
  have all : ∀ {l : List (List Key × V)} {m : List (List Key × Addr × Value)}, KT H l m → ∀ x ∈ m, (tupleKind (mixKind P w)).is h x.1 x.2.1 := by
    intro l m q
    induction q with
    | nil => intro x hx; exact nomatch hx
    | @cons p q ps qs hq t ih =>
      intro x hx
      rcases List.mem_cons.mp hx with e | hx
      · subst e
        exact key_of ok (by rw [← hq.1]; exact hq.2.1)
      · exact ih x hx
  exact all r x hx
theorem dt_of {kvs : List (List Key × V)} (ok : HOk P w H h) (e : H a = some (.dT kvs)) : kvs.length ≤ sizeLine ∧ (a == sysModules) = false ∧
    ∃ xs, KT H kvs xs ∧ h.DictOfH (tupleKind (mixKind P w)) a xs := dt_rd ok (.inl e)
end

/-- what the dict at a holds at the key y -/
def DGet (H : Hp) (a : Addr) (y : V) (r : Option V) : Prop :=
  (∃ kvs k, Rd H a (.dK kvs) ∧ y = kV k ∧ r = valV kvs k) ∨ ∃ kvs k b, Rd H a (.dT kvs) ∧ y = .ref b ∧ H b = some (.tup (k.map kV)) ∧ r = valV kvs k
/-- the heap behind a[y] = v -/
def DPut (H : Hp) (a : Addr) (y v : V) (H' : Hp) : Prop :=
  (∃ kvs k, H a = some (.dK kvs) ∧ y = kV k ∧ kvs.length < sizeLine ∧ H' = upd H a (.dK (putK kvs k v))) ∨
  ∃ kvs k b, H a = some (.dT kvs) ∧ y = .ref b ∧ H b = some (.tup (k.map kV)) ∧ kvs.length < sizeLine ∧ H' = upd H a (.dT (putK kvs k v))
theorem DGet.k {H : Hp} {a : Addr} {kvs : List (Key × V)} {k : Key} (e : H a = some (.dK kvs)) : DGet H a (kV k) (valV kvs k) := .inl ⟨kvs, k, .inl e, rfl, rfl⟩
theorem DGet.t {H : Hp} {a b : Addr} {kvs : List (List Key × V)} {k : List Key} (e : H a = some (.dT kvs)) (eb : H b = some (.tup (k.map kV))) : DGet H a (.ref b) (valV kvs k) := .inr ⟨kvs, k, b, .inl e, rfl, eb, rfl⟩
theorem DPut.k {H : Hp} {a : Addr} {kvs : List (Key × V)} {k : Key} {v : V} (e : H a = some (.dK kvs)) (hl : kvs.length < sizeLine) : DPut H a (kV k) v (upd H a (.dK (putK kvs k v))) := .inl ⟨kvs, k, e, rfl, hl, rfl⟩
theorem DPut.t {H : Hp} {a b : Addr} {kvs : List (List Key × V)} {k : List Key} {v : V} (e : H a = some (.dT kvs)) (eb : H b = some (.tup (k.map kV))) (hl : kvs.length < sizeLine) :
    DPut H a (.ref b) v (upd H a (.dT (putK kvs k v))) := .inr ⟨kvs, k, b, e, rfl, eb, hl, rfl⟩


section
variable {X : Cx} {pins : List (Addr × Obj)} {σ : St} {H : Hp} {s : Shared} {a : Addr} {y v : V} {u r : Value} {o : Option V} {A : Around} {E : Value → Shared → Prop}

theorem Inv.big (I : Inv X pins σ H s) : sysModules < s.heap.objs.size := by
  have h : mainGlobals < s.heap.objs.size := (I.mod.glob.keeps I.bk).lt
  exact Nat.lt_trans (by decide) h

/-- d[y], there -/
theorem d_getItem {Q : Value → Shared → Prop} (hu : A.units + 1 < cLine) (I : Inv X pins σ H s) (g : DGet H a y (some v)) (ry : RelV y u) (h : ∀ w' s', Inv X pins σ H s' → RelV v w' → Q w' s') :
    wpAny (model X.prog X.w) A (getItem (.ref a) u) Q E s := by
  rcases g with ⟨kvs, k, e, ey, l⟩ | ⟨kvs, k, b, e, ey, eb, l⟩
  · subst ey
    obtain ⟨z, hd, vs, rel, dd⟩ := dk_rd I.hok e
    obtain ⟨w', hw, rw'⟩ := RelO.some_of (v := v) (o := valueAt vs k) (by rw [l]; exact rel.val k)
    exact wpAny_getItem_of (kV_is ry) dd.mapOf hw (h w' _ (I.tok _) rw')
  · subst ey
    cases (show u = Value.ref b from ry)
    obtain ⟨z, hd, xs, rel, dd⟩ := dt_rd I.hok e
    obtain ⟨w', hw, rw'⟩ := RelO.some_of (v := v) (o := (atKey xs k).map (·.2)) (by rw [l]; exact rel.val k)
    obtain ⟨p, hp, hp2⟩ := Option.map_eq_some_iff.mp hw
    refine wpAny_getItem_heap (tupleKind_room_in1 hu) (key_of I.hok eb) dd hp ?_
    rw [hp2]
    exact h w' _ (I.tok _) rw'
/-- a dict's object is replaced -/
theorem d_write {h' : Heap} {t' : Nat} {ob : HO} (I : Inv X pins σ H s) (mu : Mut (H a)) (hs : Heap.SameBut a s.heap h') (he : ∃ q, h'.get? a = some q) (new : ObjOk X.prog X.w (upd H a ob) h' a ob) :
    Inv X pins σ (upd H a ob) { s with heap := h', toks := t' } :=
  I.write (x := a) (e := a) mu (.inl rfl) (fun b q hb z => (hs.2 b hb).trans z) he new
theorem dk_new {P : Program} {w : World} {H' : Hp} {h' : Heap} {kvs : List (Key × V)} {vs : List (Key × Value)} (z : kvs.length ≤ sizeLine) (hd : (a == sysModules) = false) (rel : KV kvs vs) (dd : h'.DictOf (mixKind P w) a vs) :
    ObjOk P w H' h' a (.dK kvs) := ⟨z, hd, vs, rel, dd⟩
/-- d[y] = v -/
theorem d_setItem {H' : Hp} {Q : Unit → Shared → Prop} (hu : A.units + 1 < cLine) (I : Inv X pins σ H s) (g : DPut H a y v H') (ry : RelV y u) (rv : RelV v r) (h : ∀ s', Inv X pins σ H' s' → Q () s') :
    wpAny (model X.prog X.w) A (setItem (.ref a) u r) Q E s := by
  rcases g with ⟨kvs, k, e, ey, l, eH⟩ | ⟨kvs, k, b, e, ey, eb, l, eH⟩
  · subst ey eH
    obtain ⟨z, hd, vs, rel, dd⟩ := dk_of I.hok e
    have hz : vs.length ≤ sizeLine := by rw [← rel.length]; exact z
    have hl : (putK kvs k v).length ≤ sizeLine := by have := length_putK kvs k v; omega
    refine wpAny_setItem_pairs (hsz := hz) (kV_is ry) dd fun h' dd' hs => h _ ?_
    have he : ∃ q, h'.get? a = some q := let ⟨q, _, _, hq, _⟩ := dd'; ⟨q, hq⟩
    exact d_write I (by rw [e]; exact True.intro) hs he (dk_new hl hd (rel.put k rv) dd')
  · subst ey eH
    cases (show u = Value.ref b from ry)
    obtain ⟨z, hd, xs, rel, dd⟩ := dt_of I.hok e
    have hz : xs.length ≤ sizeLine := by rw [← Paired.length rel]; exact z
    have hl : (putK kvs k v).length ≤ sizeLine := by have := length_putK kvs k v; omega
    refine wpAny_setItem_heap (hsz := hz) (tupleKind_room_in1 hu) (key_of I.hok eb) dd fun h' dd' hs => h _ ?_
    obtain ⟨q, es, ep, hq, h2, h3, h4, _, h5⟩ := dd'
    refine d_write I (by rw [e]; exact True.intro) hs ⟨q, hq⟩ ⟨hl, hd, _, (rel.put k eb rv).keeps fun c ys ec => ?_, q, es, ep, hq, h2, h3, h4, h5⟩
    rw [upd_ne (ne_of ec e (fun z => nomatch z))]
    exact ec
end

section
variable {X : Cx} {pins : List (Addr × Obj)} {σ : St} {H : Hp} {s : Shared} {a : Addr} {kvs : List (Key × V)} {k : Key} {u : Value} {A : Around} {E : Value → Shared → Prop}
end


section
variable {X : Cx} {o i e value : Expr} {pos pos' tpos : Pos} {td ty tv : TE}
end


/-! ### displays -/
theorem dk_empty {P : Program} {w : World} {H : Hp} (h : Heap) (hb : sysModules < h.objs.size) : ObjOk P w H (h.push { cls := .type "dict", data := .dict #[] }) h.objs.size (.dK []) :=
  ⟨Nat.zero_le _, beq_eq_false_iff_ne.mpr (Ne.symm (Nat.ne_of_lt hb)), [], .nil, Heap.DictOf.new h⟩
theorem dt_empty {P : Program} {w : World} {H : Hp} (h : Heap) (hb : sysModules < h.objs.size) : ObjOk P w H (h.push { cls := .type "dict", data := .dict #[] }) h.objs.size (.dT []) :=
  ⟨Nat.zero_le _, beq_eq_false_iff_ne.mpr (Ne.symm (Nat.ne_of_lt hb)), [], .nil, _, #[], 0, Heap.get?_push_size _ rfl, ⟨rfl, rfl, rfl⟩, rfl, rfl, List.nodup_nil⟩
/-- {}, to be a dict of the kind that is wanted -/
def tDNewK : TE := fun _ H Q => ∀ p, H p = none → Q (.ref p) (upd H p (.dK []))
def tDNewT : TE := fun _ H Q => ∀ p, H p = none → Q (.ref p) (upd H p (.dT []))
section
variable {X : Cx} {pos : Pos}
theorem pe_dnewK : PE X (.Dict [] [] pos) tDNewK := fun pins s σ H Q I h =>
  wpAny_Dict_empty ⟨.ref s.heap.objs.size, _, I.laid (a := s.heap.objs.size) (o := .dK []) (t' := s.toks) (fun _ _ q => Heap.get?_push_of_some _ q) (Nat.le_refl _) (dk_empty s.heap I.big), rfl, h _ (I.hok.fresh (Nat.le_refl _))⟩
theorem pe_dnewT : PE X (.Dict [] [] pos) tDNewT := fun pins s σ H Q I h =>
  wpAny_Dict_empty ⟨.ref s.heap.objs.size, _, I.laid (a := s.heap.objs.size) (o := .dT []) (t' := s.toks) (fun _ _ q => Heap.get?_push_of_some _ q) (Nat.le_refl _) (dt_empty s.heap I.big), rfl, h _ (I.hok.fresh (Nat.le_refl _))⟩
end

/-! ### methods -/
/-- a method call o.m(e) of a built-in, with one argument: what must be seen of the text -/
structure M1 (X : Cx) (o : Expr) (m : Str) (apos : Pos) (e : Expr) (cpos : Pos) : Prop where
  base : attributeBase o m X.env (eval o X.env) = eval o X.env
  few : ((backTo cpos (starEach [e] X.env)).all (fun x => !x.1) && (backToKw cpos (keywordEach [] X.env)).all (fun x => x.1.isSome)
    && decide (([e] : List Expr).length + ([] : List Keyword).length + (if ([] : List Keyword).isEmpty then 0 else 1) < 30)) = true
  line : (apos.endLine == cpos.line) = true
  trees : backTo cpos (starEach [e] X.env) = [(false, eval e X.env)]
structure M2 (X : Cx) (o : Expr) (m : Str) (apos : Pos) (e f : Expr) (cpos : Pos) : Prop where
  base : attributeBase o m X.env (eval o X.env) = eval o X.env
  few : ((backTo cpos (starEach [e, f] X.env)).all (fun x => !x.1) && (backToKw cpos (keywordEach [] X.env)).all (fun x => x.1.isSome)
    && decide (([e, f] : List Expr).length + ([] : List Keyword).length + (if ([] : List Keyword).isEmpty then 0 else 1) < 30)) = true
  line : (apos.endLine == cpos.line) = true
  trees : backTo cpos (starEach [e, f] X.env) = [(false, eval e X.env), (false, eval f X.env)]

/-- a is a dict, whatever its keys -/
def IsD (H : Hp) (a : Addr) : Prop := (∃ kvs, Rd H a (.dK kvs)) ∨ ∃ kvs, Rd H a (.dT kvs)
theorem isD_at {X : Cx} {pins : List (Addr × Obj)} {σ : St} {H : Hp} {s : Shared} {a : Addr} (I : Inv X pins σ H s) (d : IsD H a) :
    s.TypeIs (.ref a) "dict" ∧ (∀ b, Value.ref a = .ref b → ∃ ob, s.heap.get? b = some ob ∧ ob.dict = none) ∧ (a == sysModules) = false := by
  rcases d with ⟨kvs, e⟩ | ⟨kvs, e⟩
  · obtain ⟨_, hd, vs, _, dd⟩ := dk_rd I.hok e
    refine ⟨dd.typeIs, fun b q => ?_, hd⟩
    cases q
    obtain ⟨ob, _, _, h1, h2, _⟩ := dd
    exact ⟨ob, h1, h2.2.1⟩
  · obtain ⟨_, hd, xs, _, dd⟩ := dt_rd I.hok e
    refine ⟨dd.typeIs, fun b q => ?_, hd⟩
    cases q
    obtain ⟨ob, _, _, h1, h2, _⟩ := dd
    exact ⟨ob, h1, h2.2.1⟩

section
variable {X : Cx} {pins : List (Addr × Obj)} {σ : St} {H : Hp} {s : Shared} {a : Addr} {y d : V} {u r : Value} {o : Option V} {A : Around} {E : Value → Shared → Prop}
end

section
variable {X : Cx} {o e f : Expr} {apos cpos : Pos} {td ty tx : TE}
end

/-! ### dict(d): a copy -/
section
variable {X : Cx} {pins : List (Addr × Obj)} {σ : St} {H : Hp} {s : Shared} {a : Addr} {kvs : List (Key × V)} {A : Around} {E : Value → Shared → Prop}
end


section
variable {X : Cx} {pins : List (Addr × Obj)} {σ : St} {H : Hp} {s : Shared} {a : Addr} {y : V} {u : Value} {A : Around} {E : Value → Shared → Prop}
end
end L2
namespace L2
open PySem PySem.Spec PyProof.Rows
/-! ### a dict's pairs: keys that differ -/
section
variable {κ : Type} [DecidableEq κ]
end
end L2
namespace L2
open PySem PySem.Spec PyProof.Rows

/-! ### list comprehensions: the clauses -/
def compNext (elt : Expr) (gens : List Comprehension) (scope : Scope) (pos : Pos) (d : Nat) (acc : Value) (env : Env) (k : Sem Fin) : Sem Fin :=
  match gens[d + 1]? with
  | some g' => eval g'.iter env >>= fun x => standAt g'.iter.pos >>= fun _ => foldedSetIterable g'.iter env x >>= fun x => holding [x] (pyIter x) >>= fun it' =>
      runOwn (.compStart (.ListComp elt gens scope pos) (d + 1) it' acc env) env >>= fun _ => k
  | none => (eval elt env >>= fun x => call (.builtin "list.append") [acc, x] >>= fun _ => pure ()) >>= fun _ => k

def compTest (ifs : List Expr) (env : Env) : Sem Bool :=
  forIn ifs true fun c r => if r = true then do let ok ← isTrue c env (eval c env); pure (ForInStep.yield ok) else pure (ForInStep.yield r)

theorem compTurn_gen (elt target iter : Expr) (ifs : List Expr) (gens : List Comprehension) (scope : Scope) (pos : Pos) (d : Nat) (it acc : Value) (env : Env)
    (hd : gens[d]? = some ⟨target, iter, ifs, 0⟩) (ha : ∀ g', gens[d + 1]? = some g' → g'.is_async = 0) :
    compTurn (.ListComp elt gens scope pos) d it acc env = (standAt iter.pos >>= fun _ => pyNext it >>= fun r => match r with
      | none => pure (.done .next)
      | some v => letOwnedTupleGo target it v >>= fun _ => assign target env v >>= fun _ => compTest ifs env >>= fun ok =>
        (if ok = true then compNext elt gens scope pos d acc env (again (.compLoop (.ListComp elt gens scope pos) d it acc env)) else again (.compLoop (.ListComp elt gens scope pos) d it acc env))) := by
  unfold compTurn
  simp only [hd]
  unfold compNext compTest
  cases hn : gens[d + 1]? with
  | none => rfl
  | some g' =>
    obtain ⟨t', i', f', a'⟩ := g'
    have e : a' = 0 := ha _ hn
    subst e
    rfl

/-- what the clauses of a block do: from a state to states -/
abbrev TC := St → Hp → (St → Hp → Prop) → Prop
def loopW (J : It) (g : TG) (tb : TC) (N : St → Hp → Prop) (σ : St) (H : Hp) : Prop :=
  ∃ W : Nat → Nat → St → Hp → Prop, (∃ m, W 0 m σ H) ∧ ∀ i m σ H, W i m σ H →
    (J.stop i H ∧ N σ H) ∨ (J.go i H ∧ ∃ N' : St → Hp → Prop, (∀ σ' H', N' σ' H' → ∃ m', m' < m ∧ W (i + 1) m' σ' H') ∧ ∀ x H', J.yld i H x H' → g x σ H' fun σ2 H2 => tb σ2 H2 N')
def PB (X : Cx) (F : Sem Fin → Sem Fin) (t : TC) : Prop :=
  ∀ (pins : List (Addr × Obj)) (s : Shared) (σ : St) (H : Hp) (N : St → Hp → Prop) (k : Sem Fin) (Q : Fin → Shared → Prop) (E : Value → Shared → Prop), Inv X pins σ H s → t σ H N →
    (∀ s' σ' H', Inv X pins σ' H' s' → N σ' H' → wpAny (model X.prog X.w) X.A k Q E s') → wpAny (model X.prog X.w) X.A (F k) Q E s
section
variable {X : Cx}
theorem nox {α : Type} {m : Sem α} {Q : α → Shared → Prop} {E : Value → Shared → Prop} {s : Shared} (hx : ∀ e s, X.xe e s → False) (h : wpAny (model X.prog X.w) X.A m Q X.xe s) : wpAny (model X.prog X.w) X.A m Q E s :=
  wpAny_mono h (fun _ _ q => q) fun e s' q => (hx e s' q).elim

def tTests (ts : List TT) (tb : TC) : TC := match ts with
  | [] => tb
  | t :: r => fun σ H N => t σ H fun b H1 => if b = true then tTests r tb σ H1 N else N σ H1
theorem test_false {env : Env} {M : Model} {A : Around} {Q : Bool → Shared → Prop} {E : Value → Shared → Prop} {s : Shared} (h : Q false s) : ∀ ifs : List Expr,
    wpAny M A (forIn ifs false fun c r => if r = true then do let ok ← isTrue c env (eval c env); pure (ForInStep.yield ok) else pure (ForInStep.yield r)) Q E s
  | [] => wpAny_pure h
  | c :: r => by
    rw [List.forIn_cons]
    simp only [Bool.false_eq_true, if_false]
    exact wpAny_bind (wpAny_pure (test_false h r))
theorem test_run (hx : ∀ e s, X.xe e s → False) {tb : TC} {N : St → Hp → Prop} : ∀ {ifs : List Expr} {ts : List TT}, Paired (fun c t => PT X c t) ifs ts →
    ∀ (pins : List (Addr × Obj)) (s : Shared) (σ : St) (H : Hp) (E : Value → Shared → Prop), Inv X pins σ H s → tTests ts tb σ H N →
    wpAny (model X.prog X.w) X.A (compTest ifs X.env) (fun ok s' => ∃ H', Inv X pins σ H' s' ∧ if ok = true then tb σ H' N else N σ H') E s
  | _, _, .nil => fun pins s σ H E I h => wpAny_pure ⟨H, I, by rw [if_pos rfl]; exact h⟩
  | c :: ifs, _, .cons (b := t) hc hr => by
    intro pins s σ H E I h
    have ih := test_run hx hr (tb := tb) (N := N) pins
    unfold compTest at ih ⊢
    rw [List.forIn_cons]
    simp only [if_true]
    refine wpAny_bind (wpAny_bind (nox hx (thn (hc pins s σ H _ I h) fun b s1 ⟨H1, I1, q1⟩ => wpAny_pure ?_)))
    cases b with
    | false =>
      rw [if_neg Bool.false_ne_true] at q1
      exact test_false ⟨H1, I1, by rw [if_neg Bool.false_ne_true]; exact q1⟩ ifs
    | true =>
      rw [if_pos rfl] at q1
      exact ih s1 σ H1 E I1 q1
theorem pb_tests (hx : ∀ e s, X.xe e s → False) {F : Sem Fin → Sem Fin} {tb : TC} (hb : PB X F tb) {ifs : List Expr} {ts : List TT} (hp : Paired (fun c t => PT X c t) ifs ts) :
    PB X (fun k => compTest ifs X.env >>= fun ok => if ok = true then F k else k) (tTests ts tb) := by
  intro pins s σ H N k Q E I h hk
  refine wpAny_bind (thn (test_run hx hp pins s σ H E I h) fun ok s1 ⟨H1, I1, q1⟩ => ?_)
  cases ok with
  | false =>
    rw [if_neg Bool.false_ne_true] at q1 ⊢
    exact hk s1 σ H1 I1 q1
  | true =>
    rw [if_pos rfl] at q1 ⊢
    exact hb pins s1 σ H1 N k Q E I1 q1 hk

/-- the last clause's turn: the element is appended -/
def tEmit (p : Addr) (te : TE) : TC := fun σ H N => te σ H fun x H1 => ∃ xs, H1 p = some (.lst xs) ∧ xs.length < sizeLine ∧ N σ (upd H1 p (.lst (xs ++ [x])))
theorem pb_emit (hx : ∀ e s, X.xe e s → False) {elt : Expr} {gens : List Comprehension} {scope : Scope} {pos : Pos} {d : Nat} {p : Addr} {te : TE} (he : PE X elt te) (hd : gens[d + 1]? = none) :
    PB X (compNext elt gens scope pos d (.ref p) X.env) (tEmit p te) := by
  intro pins s σ H N k Q E I h hk
  unfold compNext
  rw [hd]
  refine wpAny_bind (wpAny_bind (nox hx (thn (he pins s σ H _ I h) fun u s1 ⟨x, H1, I1, r1, xs, e1, l1, q1⟩ => ?_)))
  refine wpAny_bind (nox hx (thn (mt_append (X := X) pins s1 σ H1 (.ref p) [x] (.ref p) [u] (fun _ H2 => N σ H2) I1 rfl (.cons r1 .nil) ⟨p, xs, x, rfl, rfl, e1, l1, q1⟩) fun v s2 ⟨_, H2, I2, _, q2⟩ => ?_))
  exact wpAny_pure (hk s2 σ H2 I2 q2)

/-- the loop of a clause -/
theorem comp_loop (hx : ∀ e s, X.xe e s → False) (hc : X.calm = true) {elt target iter : Expr} {ifs : List Expr} {gens : List Comprehension} {scope : Scope} {pos : Pos} {d : Nat} {acc : Value}
    (hd : gens[d]? = some ⟨target, iter, ifs, 0⟩) (ha : ∀ g', gens[d + 1]? = some g' → g'.is_async = 0) {g : TG} (hg : PG X target g) {tb : TC}
    (hb : PB X (fun k => compTest ifs X.env >>= fun ok => if ok = true then compNext elt gens scope pos d acc X.env k else k) tb)
    {pins : List (Addr × Obj)} {s : Shared} {σ : St} {H : Hp} {N : St → Hp → Prop} {it : Addr} {fp : List Addr} {tn : Nat → Heap → Prop} {J : It} (I : Inv X pins σ H s) (T : Turn X.prog X.w X.K target J fp it tn)
    (t0 : tn 0 s.heap) (f2 : ∀ b ∈ fp, FpOk X pins H b) (h : loopW J g tb N σ H) :
    codeAny (model X.prog X.w) X.A (.compLoop (.ListComp elt gens scope pos) d (.ref it) acc X.env) (fun r s' => match r with | .ok _ => ∃ σ' H', Inv X pins σ' H' s' ∧ N σ' H' | .error _ => False) s := by
  obtain ⟨W, ⟨m0, w0⟩, turn⟩ := h
  have stat : ∀ {H' : Hp}, (∀ b ∈ fp, H' b = none) → ∀ b ∈ fp, FpOk X pins H' b := fun hn b hb => ⟨hn b hb, (f2 b hb).2⟩
  refine codeAny_loop rfl (fun n s' => ∃ i σ' H', Inv X pins σ' H' s' ∧ tn i s'.heap ∧ (∀ b ∈ fp, H' b = none) ∧ W i n σ' H') ?_ m0 ⟨0, σ, H, I, t0, fun b hb => (f2 b hb).1, w0⟩
  rintro n s3 ⟨i, σ3, H3, I3, st3, fr3, w3⟩
  show wpAny _ _ ((compTurn (.ListComp elt gens scope pos) d (.ref it) acc X.env).onRaise (fun x => do noteFrame x X.env; theTreesLotGoes x)) _ _ s3
  refine wpAny_noted ?_
  rw [compTurn_gen elt target iter ifs gens scope pos d (.ref it) acc X.env hd ha]
  refine wpAny_bind (wpAny_standAt (wpAny_bind ?_))
  show wpAny (model X.prog X.w) X.A _ _ _ s3
  rcases turn i n σ3 H3 w3 with ⟨stop, qn⟩ | ⟨go, N', hN, step⟩
  · refine thn (T.done X rfl rfl rfl hc i pins s3 σ3 H3 _ I3 (stat fr3) st3 stop) fun r s4 ⟨hr, I4⟩ => ?_
    subst hr
    exact wpAny_pure ⟨σ3, H3, I4, qn⟩
  · refine thn (T.item X rfl rfl rfl hc i pins s3 σ3 H3 _ I3 (stat fr3) st3 go) fun r s4 ⟨u, hr, h4⟩ => ?_
    subst hr
    refine wpAny_bind (thn h4 fun _ s5 ⟨x, H5, I5, r5, y5, st5, fr5⟩ => ?_)
    have I5' := I5.pinned (stat fr5) (T.obj _ _ st5)
    refine wpAny_bind (nox hx (thn (hg _ s5 σ3 H5 x u _ I5' r5 (step x H5 y5)) fun _ s6 ⟨σ6, H6, I6, q6⟩ => ?_))
    refine hb _ s6 σ6 H6 N' (again (.compLoop (.ListComp elt gens scope pos) d (.ref it) acc X.env)) _ _ I6 q6 fun s7 σ7 H7 I7 n7 => ?_
    obtain ⟨m', hm, w7⟩ := hN σ7 H7 n7
    refine wpAny_pure ⟨rfl, m', hm, i + 1, σ7, H7, I7.unpinned, T.keep _ _ _ st5 fun b hb o e => (I7.pin (b, o) (List.mem_append_right _ (List.mem_append_right _ (mem_pinsAt hb e)))).1, fun b hb => ?_, w7⟩
    obtain ⟨o, e, dd⟩ := T.obj _ _ st5 b hb
    exact (I7.pin (b, o) (List.mem_append_right _ (List.mem_append_right _ (mem_pinsAt hb e)))).2.1

theorem comp_start {elt target iter : Expr} {ifs : List Expr} {gens : List Comprehension} {scope : Scope} {pos : Pos} {d : Nat} {it acc : Value} {env : Env} {prog : Program} {w : World} {A : Around} {R : Result → Shared → Prop} {s : Shared}
    (hd : gens[d]? = some ⟨target, iter, ifs, 0⟩)
    (h0 : codeAny (model prog w) A (.compLoop (.ListComp elt gens scope pos) d it acc env) R s)
    (h : wpAny (model prog w) A (pyIter it) (fun it' s' => codeAny (model prog w) A (.compLoop (.ListComp elt gens scope pos) d it' acc env) R s')
      (notedBy (model prog w) A env fun x s' => R (.error x) s') s) :
    codeAny (model prog w) A (.compStart (.ListComp elt gens scope pos) d it acc env) R s := by
  refine codeAny_of_tree ?_
  show wpAny _ _ ((compStart (.ListComp elt gens scope pos) d it acc env).onRaise (fun x => do noteFrame x env; standAt theWindowsPlace)) _ _ s
  refine wpAny_notedAt ?_
  unfold compStart
  have hc : (clausesOf (.ListComp elt gens scope pos))[d]? = some ⟨target, iter, ifs, 0⟩ := hd
  rw [hc]
  show wpAny _ _ (ask >>= _) _ _ s
  refine wpAny_bind (wpAny_askSetting (wpAny_ite ?_))
  split
  · first
      | exact wpAny_bind (wpAny_pure (wpAny_pure (And.intro rfl h0)))
      | exact wpAny_pure (And.intro rfl h0)
  · first
      | exact wpAny_bind (wpAny_rule (wpAny_bind (wpAny_standAt (wpAny_bind (wpAny_mono h (fun it' s' h' => wpAny_pure (And.intro rfl h')) fun _ _ x => x)))))
      | (refine wpAny_bind (wpAny_rule ?_); show wpAny _ _ (standAt iter.pos >>= _) _ _ s; exact wpAny_bind (wpAny_standAt (wpAny_bind (wpAny_mono h (fun it' s' h' => wpAny_pure (And.intro rfl h')) fun _ _ x => x))))

/-- a further clause -/
theorem pb_clause (hx : ∀ e s, X.xe e s → False) (hc : X.calm = true) {elt target iter : Expr} {ifs : List Expr} {gens : List Comprehension} {scope : Scope} {pos : Pos} {d : Nat} {acc : Value}
    (hd : gens[d + 1]? = some ⟨target, iter, ifs, 0⟩) (ha : ∀ g', gens[d + 1 + 1]? = some g' → g'.is_async = 0) {wi : TI} (hi : PI X target iter wi) {g : TG} (hg : PG X target g) {tb : TC}
    (hb : PB X (fun k => compTest ifs X.env >>= fun ok => if ok = true then compNext elt gens scope pos (d + 1) acc X.env k else k) tb)
    (hs : ∀ x, foldedSetIterable iter X.env x = pure x) :
    PB X (compNext elt gens scope pos d acc X.env) (fun σ H N => wi σ H fun J H1 => loopW J g tb N σ H1) := by
  intro pins s σ H N k Q E I h hk
  unfold compNext
  rw [hd]
  refine wpAny_bind (nox hx (thn (hi pins s σ H _ I h) fun v s1 h1 => ?_))
  refine wpAny_bind (wpAny_standAt (wpAny_bind (wpAny_of_eq (hs v) ?_)))
  refine wpAny_bind (wpAny_holding (nox hx (thn h1 fun itv s2 h2 => ?_)))
  obtain ⟨it, fp, tn, J, H2, e, I2, T, st2, f2, hw⟩ := h2
  subst e
  have loop := comp_loop (acc := acc) hx hc hd ha hg hb I2 T st2 f2 hw
  refine wpAny_bind (wpAny_runOwn (codeAny_mono (comp_start (R := fun r s' => match r with | .ok _ => ∃ σ' H', Inv X pins σ' H' s' ∧ N σ' H' | .error _ => False) hd loop (T.self _ 0 _ _ _ st2 loop)) fun r s3 hr => ?_))
  cases r with
  | error e => exact hr.elim
  | ok f =>
    obtain ⟨σ3, H3, I3, n3⟩ := hr
    exact hk s3 σ3 H3 I3 n3

/-! ### the block's own names and cells -/
def clFrom (cells : List (Str × Addr)) : List (Str × NameKind) → List (Str × Addr) → List (Str × Addr)
  | [], acc => acc
  | (n, k) :: r, acc => if k == .free then (match cells.lookup n with | some c => clFrom cells r ((n, c) :: acc) | none => clFrom cells r acc) else clFrom cells r acc
theorem closure_run {env : Env} : ∀ (names : List (Str × NameKind)) (acc : List (Str × Addr)), (∀ x ∈ names, x.2 = .free → (env.cells.lookup x.1).isSome = true) →
    (forIn names acc fun (x : Str × NameKind) (r : List (Str × Addr)) => (match x with | (name, kind) => if (kind == NameKind.free) = true then do let c ← cellOf env name; pure (ForInStep.yield ((name, c) :: r)) else pure (ForInStep.yield r) : Sem (ForInStep (List (Str × Addr))))) = (pure (clFrom env.cells names acc) : Sem (List (Str × Addr)))
  | [], acc, _ => rfl
  | (n, k) :: r, acc, h => by
    rw [List.forIn_cons]
    have ih := fun acc' => closure_run r acc' fun x hx => h x (List.mem_cons_of_mem _ hx)
    unfold clFrom
    by_cases hk : (k == NameKind.free) = true
    · obtain ⟨c, hc⟩ := Option.isSome_iff_exists.mp (h (n, k) List.mem_cons_self (beq_iff_eq.mp hk))
      have hc' : env.cells.lookup n = some c := hc
      have e1 : cellOf env n = pure c := by unfold cellOf; rw [hc']
      simp only [hk, if_true, e1, hc', pure_bind]
      exact ih _
    · simp only [hk, if_false, pure_bind]
      exact ih _
theorem closure_eq {scope : Scope} {env : Env} (h : ∀ x ∈ scope.names, x.2 = .free → (env.cells.lookup x.1).isSome = true) : closureFor scope env = pure (clFrom env.cells scope.names []) := by
  unfold closureFor
  have e := closure_run (env := env) scope.names [] h
  simp only [bind_pure]
  exact e
theorem clFrom_mem {cells : List (Str × Addr)} {y : Str} {c : Addr} : ∀ {names : List (Str × NameKind)} {acc : List (Str × Addr)}, (y, c) ∈ clFrom cells names acc → (y, c) ∈ acc ∨ (cells.lookup y = some c ∧ (y, NameKind.free) ∈ names)
  | [], acc, h => .inl h
  | (n, k) :: r, acc, h => by
    unfold clFrom at h
    by_cases hk : (k == NameKind.free) = true
    · rw [if_pos hk] at h
      have hk' : k = .free := beq_iff_eq.mp hk
      subst hk'
      cases hl : cells.lookup n with
      | none =>
        rw [hl] at h
        rcases clFrom_mem h with z | ⟨z1, z2⟩
        · exact .inl z
        · exact .inr ⟨z1, List.mem_cons_of_mem _ z2⟩
      | some c' =>
        rw [hl] at h
        rcases clFrom_mem h with z | ⟨z1, z2⟩
        · rcases List.mem_cons.mp z with e | z
          · cases e
            exact .inr ⟨hl, List.mem_cons_self⟩
          · exact .inl z
        · exact .inr ⟨z1, List.mem_cons_of_mem _ z2⟩
    · rw [if_neg hk] at h
      rcases clFrom_mem h with z | ⟨z1, z2⟩
      · exact .inl z
      · exact .inr ⟨z1, List.mem_cons_of_mem _ z2⟩
theorem clFrom_has {cells : List (Str × Addr)} {y : Str} {c : Addr} (hc : cells.lookup y = some c) : ∀ {names : List (Str × NameKind)} {acc : List (Str × Addr)}, ((y, c) ∈ acc ∨ (y, NameKind.free) ∈ names) → (y, c) ∈ clFrom cells names acc
  | [], acc, h => by
    rcases h with h | h
    · exact h
    · simp at h
  | (n, k) :: r, acc, h => by
    unfold clFrom
    by_cases hk : (k == NameKind.free) = true
    · rw [if_pos hk]
      have hk' : k = .free := beq_iff_eq.mp hk
      subst hk'
      cases hl : cells.lookup n with
      | none =>
        refine clFrom_has hc ?_
        rcases h with h | h
        · exact .inl h
        · rcases List.mem_cons.mp h with e | h
          · cases e; rw [hl] at hc; cases hc
          · exact .inr h
      | some c' =>
        refine clFrom_has hc ?_
        rcases h with h | h
        · exact .inl (List.mem_cons_of_mem _ h)
        · rcases List.mem_cons.mp h with e | h
          · cases e; rw [hl] at hc; cases hc; exact .inl List.mem_cons_self
          · exact .inr h
    · rw [if_neg hk]
      refine clFrom_has hc ?_
      rcases h with h | h
      · exact .inl h
      · rcases List.mem_cons.mp h with e | h
        · cases e; exact absurd rfl hk
        · exact .inr h
theorem cellsFrom_app : ∀ (names : List (Str × NameKind)) (n : Nat) (acc acc' : List (Str × Addr)), cellsFrom n names (acc ++ acc') = cellsFrom n names acc ++ acc'
  | [], _, _, _ => rfl
  | (x, k) :: r, n, acc, acc' => by
    unfold cellsFrom
    by_cases hk : (k == NameKind.cell) = true
    · rw [if_pos hk, if_pos hk]
      exact cellsFrom_app r (n + 1) ((x, n) :: acc) acc'
    · rw [if_neg hk, if_neg hk]
      exact cellsFrom_app r n acc acc'
theorem cellsFrom_mem : ∀ {names : List (Str × NameKind)} {n : Nat} {acc : List (Str × Addr)} {y : Str} {c : Addr}, (y, c) ∈ cellsFrom n names acc → (y, c) ∈ acc ∨ (n ≤ c ∧ (y, NameKind.cell) ∈ names)
  | [], _, _, _, _, h => .inl h
  | (x, k) :: r, n, acc, y, c, h => by
    unfold cellsFrom at h
    by_cases hk : (k == NameKind.cell) = true
    · rw [if_pos hk] at h
      have hk' : k = .cell := beq_iff_eq.mp hk
      subst hk'
      rcases cellsFrom_mem h with z | ⟨z1, z2⟩
      · rcases List.mem_cons.mp z with e | z
        · cases e; exact .inr ⟨Nat.le_refl _, List.mem_cons_self⟩
        · exact .inl z
      · exact .inr ⟨Nat.le_of_succ_le z1, List.mem_cons_of_mem _ z2⟩
    · rw [if_neg hk] at h
      rcases cellsFrom_mem h with z | ⟨z1, z2⟩
      · exact .inl z
      · exact .inr ⟨z1, List.mem_cons_of_mem _ z2⟩

/-! ### the block's context -/
structure BlkScope (sc osc : Scope) (oN N' : List Str) (fr : List (Option Nat)) : Prop where
  kind : sc.kind = .function
  nd : (sc.names.map (·.1)).Nodup
  ndN : N'.Nodup
  free : ∀ x ∈ sc.names, x.2 = .free → osc.names.lookup x.1 = some .cell ∨ osc.names.lookup x.1 = some .free
  len : fr.length = N'.length
  fr : ∀ (i j : Nat) (x : Str), N'[i]? = some x → fr[i]? = some (some j) → oN[j]? = some x ∧ (x, NameKind.free) ∈ sc.names
def inh (fr : List (Option Nat)) (σ : St) : St := fr.map fun o => o.bind fun j => (σ[j]?).join
def blockEnv (X : Cx) (sc : Scope) (L : Addr) : Env :=
  { scope := relabel sc X.env, locals := L, globals := X.env.globals, cells := cellsFrom (L + 1) sc.names (clFrom X.env.cells sc.names []), qual := X.env.qual, func := none, code := X.env.code, frame := X.env.frame, builtins := X.env.builtins }
def blockCx (X : Cx) (sc : Scope) (N' : List Str) (s : Shared) (H : Hp) (fp : List Addr) : Cx :=
  { X with N := N', s₀ := s, H₀ := H, env := blockEnv X sc s.heap.objs.size, outer := X.stack, stack := X.stack, ex := fp, fn := fun x => sc.names.lookup x == some .cell, pn := [], xe := fun _ _ => False }

theorem lookup_of_mem : ∀ {l : List (Str × NameKind)} {x : Str} {k : NameKind}, (l.map (·.1)).Nodup → (x, k) ∈ l → l.lookup x = some k
  | (y, k') :: r, x, k, nd, h => by
    have nd' : (y :: r.map (·.1)).Nodup := nd
    obtain ⟨n1, n2⟩ := List.nodup_cons.mp nd'
    rw [List.lookup_cons]
    rcases List.mem_cons.mp h with e | hm
    · cases e; simp
    · have hne : (x == y) = false := by
        refine beq_eq_false_iff_ne.mpr fun e => ?_
        subst e
        exact n1 (List.mem_map.mpr ⟨(x, k), hm, rfl⟩)
      rw [hne]
      exact lookup_of_mem n2 hm
theorem relabel_look {env : Env} : ∀ {names : List (Str × NameKind)} {x : Str},
    (names.map fun (n, k) => if (k == NameKind.free && env.scope.kind == .function && env.kindOf n == some .cell) then (n, NameKind.cell) else (n, k)).lookup x =
      (names.lookup x).map fun k => if (k == NameKind.free && env.scope.kind == .function && env.kindOf x == some .cell) then NameKind.cell else k
  | [], _ => rfl
  | (n, k) :: r, x => by
    have ih := relabel_look (env := env) (names := r) (x := x)
    show List.lookup x ((if (k == NameKind.free && env.scope.kind == .function && env.kindOf n == some .cell) = true then (n, NameKind.cell) else (n, k)) :: _) = _
    rw [List.lookup_cons (a := x) (b := k)]
    by_cases hx : x = n
    · subst hx
      simp only [beq_self_eq_true]
      show _ = some (if (k == NameKind.free && env.scope.kind == .function && env.kindOf x == some .cell) = true then NameKind.cell else k)
      by_cases hc : (k == NameKind.free && env.scope.kind == .function && env.kindOf x == some .cell) = true
      · rw [if_pos hc, if_pos hc, List.lookup_cons]; simp only [beq_self_eq_true]
      · rw [if_neg hc, if_neg hc, List.lookup_cons]; simp only [beq_self_eq_true]
    · have hb : (x == n) = false := beq_eq_false_iff_ne.mpr hx
      rw [hb]
      by_cases hc : (k == NameKind.free && env.scope.kind == .function && env.kindOf n == some .cell) = true
      · rw [if_pos hc, List.lookup_cons, hb]; exact ih
      · rw [if_neg hc, List.lookup_cons, hb]; exact ih
section
variable {pins : List (Addr × Obj)} {σ : St} {H : Hp} {s : Shared} {sc : Scope} {N' : List Str} {fr : List (Option Nat)} {fp : List Addr}
theorem blk_cells (I : Inv X pins σ H s) (B : BlkScope sc X.env.scope X.N N' fr) : ∀ x ∈ sc.names, x.2 = .free → (X.env.cells.lookup x.1).isSome = true := fun x hx e => by
  obtain ⟨c, hc⟩ := I.ok.has x.1 (B.free x hx e)
  rw [hc]; rfl
theorem block_inv (I : Inv X pins σ H s) (f2 : ∀ b ∈ fp, FpOk X pins H b) (hfo : ∀ b ∈ fp, b < s.heap.objs.size) (B : BlkScope sc X.env.scope X.N N' fr) :
    Inv (blockCx X sc N' s H fp) [] (inh fr σ) H { s with heap := pushCells (s.heap.push { cls := .type "dict", data := .dict #[] }) sc.names } := by
  have hkp : ∀ b o, s.heap.get? b = some o → (pushCells (s.heap.push { cls := .type "dict", data := .dict #[] }) sc.names).get? b = some o := fun b o e => pushCells_keeps _ _ b o (Heap.get?_push_of_some _ e)
  have ok := cellsFrom_ok sc.names (s.heap.push { cls := .type "dict", data := .dict #[] }) (s.heap.objs.size + 1) [] ⟨fun _ _ hm => (nomatch hm), List.Pairwise.nil⟩ (by rw [Heap.size_push]; exact Nat.le_refl _)
  rw [Heap.size_push] at ok
  have capp : cellsFrom (s.heap.objs.size + 1) sc.names (clFrom X.env.cells sc.names []) = cellsFrom (s.heap.objs.size + 1) sc.names [] ++ clFrom X.env.cells sc.names [] := cellsFrom_app sc.names _ [] _
  -- a cell of the block: one of its own, or one of the function's
  have cof : ∀ x c, (blockEnv X sc s.heap.objs.size).cells.lookup x = some c → ((x, c) ∈ cellsFrom (s.heap.objs.size + 1) sc.names [] ∧ s.heap.objs.size < c) ∨ (X.env.cells.lookup x = some c ∧ (x, NameKind.free) ∈ sc.names) := fun x c e => by
    have m := PySem.mem_of_lookup e
    have m' : (x, c) ∈ cellsFrom (s.heap.objs.size + 1) sc.names (clFrom X.env.cells sc.names []) := m
    rw [capp] at m'
    rcases List.mem_append.mp m' with z | z
    · exact .inl ⟨z, (ok.empty x c z).2⟩
    · rcases clFrom_mem z with q | q
      · simp at q
      · exact .inr q
  have cOld : ∀ x c, X.env.cells.lookup x = some c → c < s.heap.objs.size := fun x c e => by
    obtain ⟨v, q⟩ := I.cell x c e
    exact q.lt
  have kindF : ∀ x, (x, NameKind.free) ∈ sc.names → (blockEnv X sc s.heap.objs.size).kindOf x = some .cell ∨ (blockEnv X sc s.heap.objs.size).kindOf x = some .free := fun x hx => by
    have e1 : sc.names.lookup x = some .free := lookup_of_mem B.nd hx
    have e2 : (blockEnv X sc s.heap.objs.size).kindOf x = _ := relabel_look (env := X.env) (names := sc.names) (x := x)
    rw [e1] at e2
    rw [e2]
    by_cases hc : (NameKind.free == NameKind.free && X.env.scope.kind == .function && X.env.kindOf x == some .cell) = true
    · exact .inl (by simp only [Option.map_some, if_pos hc])
    · exact .inr (by simp only [Option.map_some, if_neg hc])
  have cellF : ∀ x c, (x, NameKind.free) ∈ sc.names → X.env.cells.lookup x = some c → (blockEnv X sc s.heap.objs.size).cells.lookup x = some c := fun x c hx hc => by
    have m := clFrom_has (acc := []) hc (.inr hx)
    have m2 : (x, c) ∈ (blockEnv X sc s.heap.objs.size).cells := by
      show (x, c) ∈ cellsFrom (s.heap.objs.size + 1) sc.names (clFrom X.env.cells sc.names [])
      rw [capp]
      exact List.mem_append_right _ m
    cases hl : (blockEnv X sc s.heap.objs.size).cells.lookup x with
    | none =>
      exfalso
      have : ∀ {l : List (Str × Addr)}, (x, c) ∈ l → l.lookup x = none → False := by
        intro l
        induction l with
        | nil => intro h; simp at h
        | cons a r ih =>
          intro h e
          obtain ⟨y, d⟩ := a
          rw [List.lookup_cons] at e
          rcases List.mem_cons.mp h with z | z
          · cases z; simp at e
          · by_cases hxy : (x == y) = true
            · rw [hxy] at e; cases e
            · simp only [Bool.not_eq_true] at hxy
              rw [hxy] at e
              exact ih z e
      exact this m2 hl
    | some c' =>
      rcases cof x c' hl with ⟨z, _⟩ | ⟨z, _⟩
      · rcases cellsFrom_mem z with q | ⟨_, q⟩
        · simp at q
        · have a1 := lookup_of_mem B.nd hx
          have a2 := lookup_of_mem B.nd q
          rw [a1] at a2; cases a2
      · rw [hc] at z; rw [z]
  have kindC : ∀ x, (blockEnv X sc s.heap.objs.size).kindOf x = some .cell → (x, NameKind.cell) ∈ sc.names ∨ (x, NameKind.free) ∈ sc.names := fun x e => by
    have e2 : (blockEnv X sc s.heap.objs.size).kindOf x = _ := relabel_look (env := X.env) (names := sc.names) (x := x)
    rw [e2] at e
    cases hl : sc.names.lookup x with
    | none => rw [hl] at e; cases e
    | some k =>
      rw [hl] at e
      have m := PySem.mem_of_lookup hl
      cases k with
      | cell => exact .inl m
      | free => exact .inr m
      | «local» => simp at e
      | globalImplicit => simp at e
      | globalExplicit => simp at e
  have kindFr : ∀ x, (blockEnv X sc s.heap.objs.size).kindOf x = some .free → (x, NameKind.free) ∈ sc.names := fun x e => by
    have e2 : (blockEnv X sc s.heap.objs.size).kindOf x = _ := relabel_look (env := X.env) (names := sc.names) (x := x)
    rw [e2] at e
    cases hl : sc.names.lookup x with
    | none => rw [hl] at e; cases e
    | some k =>
      rw [hl] at e
      have m := PySem.mem_of_lookup hl
      cases k with
      | free => exact m
      | cell => simp at e
      | «local» => simp at e
      | globalImplicit => simp at e
      | globalExplicit => simp at e
  refine ⟨⟨I.ok.mod, B.kind, I.ok.glob, I.ok.blt, Nat.le_refl _, fun y z c h1 h2 => ?_, fun y hy => ?_, fun y c hf h => ?_, I.ok.hd, I.ok.frames, .inl rfl, fun b hb => ⟨?_, fun x c e => ?_⟩, fun b o e => I.bs b o e, ?_, fun b o e hb => ?_, fun b hb => ?_, I.stack, I.stkFree⟩,
    rfl, I.bare, Un.kept hkp, ⟨_, (Heap.Ns.new s.heap (.type "dict")).keeps (pushCells_keeps _ _), fun i x v h1 h2 h3 => ?_⟩, fun y c h => ?_, I.hok.fresh (Nat.le_refl _), fun y c h => ?_, fun p hp => absurd (show p ∈ ([] : List (Addr × Obj)) from hp) (by simp), I.hok.kept hkp, ?_⟩
  · rcases cof y c h1 with ⟨a1, a2⟩ | ⟨a1, a2⟩
    · rcases cof z c h2 with ⟨b1, b2⟩ | ⟨b1, b2⟩
      · exact name_of_addr ok.apart a1 b1
      · exact absurd (cOld z c b1) (Nat.not_lt.mpr (Nat.le_of_lt a2))
    · rcases cof z c h2 with ⟨b1, b2⟩ | ⟨b1, b2⟩
      · exact absurd (cOld y c a1) (Nat.not_lt.mpr (Nat.le_of_lt b2))
      · exact I.ok.inj y z c a1 b1
  · have hy' : (y, NameKind.cell) ∈ sc.names ∨ (y, NameKind.free) ∈ sc.names := by
      rcases hy with hy | hy
      · exact kindC y hy
      · exact .inr (kindFr y hy)
    rcases hy' with q | q
    · exact Option.isSome_iff_exists.mp (PySem.W.cellsFrom_some sc.names _ _ (.inl (lookup_of_mem B.nd q)))
    · obtain ⟨c, hc⟩ := Option.isSome_iff_exists.mp (blk_cells I B _ q rfl)
      exact ⟨c, cellF y c q hc⟩
  · have hf' : (sc.names.lookup y == some .cell) = true := hf
    have hf2 : sc.names.lookup y = some .cell := by simpa using hf'
    rcases cof y c h with ⟨_, a2⟩ | ⟨_, a2⟩
    · exact Nat.le_of_lt a2
    · rw [lookup_of_mem B.nd a2] at hf2; cases hf2
  · exact Nat.ne_of_lt (hfo b hb)
  · rcases cof x c e with ⟨_, a2⟩ | ⟨a1, _⟩
    · exact Nat.ne_of_gt (Nat.lt_trans (hfo b hb) a2)
    · exact (f2 b hb).2.2.2.2.1 x c a1
  · exact Nat.le_trans I.ok.bsz I.sz
  · obtain ⟨f0, f1, f3, f4, f5, f6⟩ := f2 b hb
    rcases f4 with z | z
    · exact I.ok.noex b o e z
    · exact absurd (Nat.lt_of_lt_of_le (Nat.lt_of_lt_of_le (Heap.lt_size e) I.ok.bsz) z) (Nat.lt_irrefl _)
  · obtain ⟨f0, f1, f3, f4, f5, f6⟩ := f2 b hb
    exact fun z => (List.mem_cons.mp (I.stkSub b z)).elim f1 f3
  · have hi : ∃ j, fr[i]? = some (some j) ∧ σ[j]? = some (some v) := by
      unfold inh at h2
      rw [List.getElem?_map] at h2
      cases e : fr[i]? with
      | none => rw [e] at h2; cases h2
      | some o =>
        rw [e] at h2
        cases o with
        | none => cases h2
        | some j =>
          refine ⟨j, rfl, ?_⟩
          have h2' : some ((σ[j]?).join) = some (some v) := h2
          cases e' : σ[j]? with
          | none => rw [e'] at h2'; cases h2'
          | some w => rw [e'] at h2'; cases h2'; rfl
    obtain ⟨j, e1, e2⟩ := hi
    obtain ⟨n1, n2⟩ := B.fr i j x h1 e1
    obtain ⟨m, hn, hl⟩ := I.loc
    have hv : Vis X.env.scope x := .inr (B.free (x, .free) n2 rfl)
    obtain ⟨u, ru, lk⟩ := hl j x v n1 e2 hv
    refine ⟨u, ru, .inr ⟨kindF x n2, ?_⟩⟩
    rcases lk with ⟨k1, _⟩ | ⟨_, c, hc, hcell⟩
    · have k1' : X.env.scope.names.lookup x = some .local := k1
      rcases B.free (x, .free) n2 rfl with z | z
      · rw [k1'] at z; cases z
      · rw [k1'] at z; cases z
    · exact ⟨c, cellF x c n2 hc, hcell.keeps hkp⟩
  · rcases cof y c h with ⟨a1, a2⟩ | ⟨a1, a2⟩
    · exact ⟨_, (ok.empty y c a1).1⟩
    · obtain ⟨v, q⟩ := I.cell y c a1
      exact ⟨v, q.keeps hkp⟩
  · rcases cof y c h with ⟨a1, a2⟩ | ⟨a1, a2⟩
    · exact I.hok.fresh (Nat.le_of_lt a2)
    · exact I.freeC y c a1
  · show (inh fr σ).length = N'.length
    unfold inh
    rw [List.length_map]
    exact B.len
theorem block_end {σ' : St} {H' : Hp} {s' : Shared} {h' : Heap} (I : Inv X pins σ H s) (f2 : ∀ b ∈ fp, FpOk X pins H b) (J : Inv (blockCx X sc N' s H fp) [] σ' H' s') (hs : Heap.SameBut s.heap.objs.size s'.heap h') :
    Inv X pins σ H' { s' with heap := h' } := by
  have u : Un (frs X.stack) fp H H' s.heap s'.heap := J.base
  have ne : ∀ b o, s.heap.get? b = some o → b ≠ s.heap.objs.size := fun b o e => Nat.ne_of_lt (Heap.lt_size e)
  refine I.call' (s' := { s' with heap := h' }) (ch := fp) J.os ⟨fun b o e n hb hx => ?_, fun b o e n hb hx => ?_, u.free, fun b o e hx => ?_, u.tups, u.frzs, u.tbls⟩ (fun b v e => ?_) J.bare fun b hb => ?_
  · exact (hs.2 b (ne b o e)).trans (u.keep b o e n hb hx)
  · obtain ⟨sl, q⟩ := u.slot b o e n hb hx
    exact ⟨sl, (hs.2 b (ne b o e)).trans q⟩
  · obtain ⟨o', q⟩ := u.there b o e hx
    exact ⟨o', (hs.2 b (ne b o e)).trans q⟩
  · refine (J.hok b v e).stay (fun c w hc q => (hs.2 c ?_).trans q) (fun _ q => q) fun _ _ q => q
    have fr : H' s.heap.objs.size = none := J.free
    rcases hc with z | z
    · rw [z]; intro z2; rw [z2, fr] at e; cases e
    · intro z2; rw [z2, fr] at z; cases z
  · obtain ⟨f0, f1, f3, f4, f5, f6⟩ := f2 b hb
    exact ⟨f4, f1, f5, f6⟩

theorem new_block_env {Q : Env → Shared → Prop} {E : Value → Shared → Prop} {M : Model} {A : Around}
    (h : Q { scope := sc, locals := s.heap.objs.size, globals := X.env.globals, cells := cellsFrom (s.heap.objs.size + 1) sc.names (clFrom X.env.cells sc.names []), qual := X.env.qual, func := none, code := X.env.code, frame := X.env.frame, builtins := X.env.builtins }
      { s with heap := pushCells (s.heap.push { cls := .type "dict", data := .dict #[] }) sc.names }) :
    wpAny M A (newFunctionEnv sc X.env.globals (clFrom X.env.cells sc.names []) [] X.env.qual none .none (some X.env)) Q E s := by
  simp only [newFunctionEnv, Option.isSome_some, if_true]
  refine wpAny_bind (wpAny_alloc ?_)
  refine wpAny_bind (wpAny_layCells _ (fun name kind cells => by cases hkc : kind == NameKind.cell <;> simp [hkc]) _ _ _ _ ?_)
  rw [show ({ s with heap := s.heap.push { cls := .type "dict", data := .dict #[] } } : Shared).heap.objs.size = s.heap.objs.size + 1 from Heap.size_push ..]
  exact wpAny_bind (wpAny_pure (wpAny_pure h))

theorem comp_run (hc : X.calm = true) {elt target iter : Expr} {ifs : List Expr} {rest : List Comprehension} {pos : Pos} {E : Value → Shared → Prop}
    (hx : ∀ e s, X.xe e s → False) (B : BlkScope sc X.env.scope X.N N' fr) (ha : ∀ g', rest[0]? = some g' → g'.is_async = 0) {wi : TI} (hi : PI X target iter wi) {g : TG} {tb : Addr → TC}
    (hg : ∀ s H fp, PG (blockCx X sc N' s H fp) target g)
    (hb : ∀ s H fp p, PB (blockCx X sc N' s H fp) (fun k => compTest ifs (blockCx X sc N' s H fp).env >>= fun ok => if ok = true then compNext elt (⟨target, iter, ifs, 0⟩ :: rest) sc pos 0 (.ref p) (blockCx X sc N' s H fp).env k else k) (tb p))
    {Nn : Addr → St → Hp → Prop} {RR : Value → Addr → Result → Shared → Prop} (I : Inv X pins σ H s)
    (h : wi σ H fun J H1 => ∀ p, H1 p = none → loopW J g (tb p) (Nn p) (inh fr σ) (upd H1 p (.lst [])))
    (hR : ∀ p fp s3 H3 s' σ' H' f, Inv X pins σ H3 s3 → (∀ b ∈ fp, FpOk X pins H3 b) → Inv (blockCx X sc N' s3 H3 fp) [] σ' H' s' → Nn p σ' H' → RR (.ref p) s3.heap.objs.size (.ok f) s') :
    wpAny (model X.prog X.w) X.A (eval iter X.env) (fun x s₁ => wpAny (model X.prog X.w) X.A (pyIter x) (fun it s₂ => wpAny (model X.prog X.w) X.A (newList []) (fun acc s₃ =>
      wpAny (model X.prog X.w) X.A (newFunctionEnv sc X.env.globals (clFrom X.env.cells sc.names []) [] X.env.qual none .none (some X.env)) (fun cenv s₄ =>
        codeAny (model X.prog X.w) X.A (.compStart (.ListComp elt (⟨target, iter, ifs, 0⟩ :: rest) sc pos) 0 it acc { cenv with scope := relabel sc X.env }) (RR acc cenv.locals) s₄) E s₃) E s₂) E s₁) E s := by
  refine nox hx (thn (hi pins s σ H _ I h) fun v s1 h1 => nox hx (thn h1 fun itv s2 h2 => ?_))
  obtain ⟨it, fp, tn, J, H2, e, I2, T, st2, f2, hw⟩ := h2
  subst e
  have hf : H2 s2.heap.objs.size = none := I2.hok.fresh (Nat.le_refl _)
  refine wpAny_newList ?_
  have I3 : Inv X pins σ (upd H2 s2.heap.objs.size (.lst [])) { s2 with heap := s2.heap.push { cls := .type "list", dict := none, data := .seq ([] : List Value).toArray } } :=
    I2.laid (t' := s2.toks) (fun b u e => Heap.get?_push_of_some _ e) (Nat.le_refl _) ⟨Nat.zero_le _, [], 0, .nil, Heap.get?_push_size _ rfl⟩
  have fneq : ∀ b ∈ fp, b ≠ s2.heap.objs.size := fun b hb z => by
    obtain ⟨o, e, _⟩ := T.obj _ _ st2 b hb
    exact absurd (Heap.lt_size e) (by rw [z]; exact Nat.lt_irrefl _)
  have f3 : ∀ b ∈ fp, FpOk X pins (upd H2 s2.heap.objs.size (.lst [])) b := fun b hb => ⟨by rw [upd_ne (fneq b hb)]; exact (f2 b hb).1, (f2 b hb).2⟩
  have hfo : ∀ b ∈ fp, b < (s2.heap.push { cls := .type "list", dict := none, data := .seq ([] : List Value).toArray }).objs.size := fun b hb => by
    obtain ⟨o, e, _⟩ := T.obj _ _ st2 b hb
    rw [Heap.size_push]
    exact Nat.lt_succ_of_lt (Heap.lt_size e)
  have st3 : tn 0 (s2.heap.push { cls := .type "list", dict := none, data := .seq ([] : List Value).toArray }) := T.keep _ _ _ st2 fun b _ o e => Heap.get?_push_of_some _ e
  refine new_block_env ?_
  have J4 := block_inv (N' := N') I3 f3 hfo B
  have st4 := T.keep _ (h' := pushCells (({ s2 with heap := s2.heap.push { cls := .type "list", dict := none, data := .seq ([] : List Value).toArray } } : Shared).heap.push { cls := .type "dict", data := .dict #[] }) sc.names) _ st3 fun b _ o e => pushCells_keeps _ _ b o (Heap.get?_push_of_some _ e)
  have f4 : ∀ b ∈ fp, FpOk (blockCx X sc N' { s2 with heap := s2.heap.push { cls := .type "list", dict := none, data := .seq ([] : List Value).toArray } } (upd H2 s2.heap.objs.size (.lst [])) fp) [] (upd H2 s2.heap.objs.size (.lst [])) b := fun b hb =>
    ⟨(f3 b hb).1, (J4.ok.exf b hb).1, J4.ok.exfs b hb, .inl hb, (J4.ok.exf b hb).2, fun p hp => absurd (show p ∈ ([] : List (Addr × Obj)) from hp) (by simp)⟩
  have loop := comp_loop (X := blockCx X sc N' { s2 with heap := s2.heap.push { cls := .type "list", dict := none, data := .seq ([] : List Value).toArray } } (upd H2 s2.heap.objs.size (.lst [])) fp) (fun _ _ z => z) hc
    (elt := elt) (pos := pos) (scope := sc) (gens := ⟨target, iter, ifs, 0⟩ :: rest) (d := 0) (acc := .ref s2.heap.objs.size) rfl (fun g' e => ha g' (by simpa using e)) (hg _ _ _) (hb _ _ _ _) J4 T st4 f4 (hw _ hf)
  refine codeAny_mono (comp_start (R := fun r s' => match r with | .ok _ => ∃ σ' H', Inv (blockCx X sc N' { s2 with heap := s2.heap.push { cls := .type "list", dict := none, data := .seq ([] : List Value).toArray } } (upd H2 s2.heap.objs.size (.lst [])) fp) [] σ' H' s' ∧ Nn s2.heap.objs.size σ' H' | .error _ => False)
    (gens := ⟨target, iter, ifs, 0⟩ :: rest) (d := 0) rfl loop (T.self _ 0 _ _ _ st4 loop)) fun r s5 hr => ?_
  cases r with
  | error e => exact hr.elim
  | ok f =>
    obtain ⟨σ5, H5, I5, n5⟩ := hr
    exact hR _ fp _ _ s5 σ5 H5 f I3 f3 I5 n5

/-- a list comprehension within an expression -/
def tComp (wi : TI) (g : TG) (tb : Addr → TC) (fr : List (Option Nat)) : TE := fun σ H Q => wi σ H fun J H1 => ∀ p, H1 p = none → loopW J g (tb p) (fun _ H2 => Q (.ref p) H2) (inh fr σ) (upd H1 p (.lst []))
theorem blk_names (B : BlkScope sc X.env.scope X.N N' fr) : ∀ x ∈ sc.names, x.2 = .local → sc.names.lookup x.1 = some .local := fun x hx e => by
  obtain ⟨n, k⟩ := x
  have e' : k = .local := e
  subst e'
  exact lookup_of_mem B.nd hx
theorem pe_listComp (hc : X.calm = true) {elt target iter : Expr} {ifs : List Expr} {rest : List Comprehension} {pos : Pos}
    (hx : ∀ e s, X.xe e s → False) (B : BlkScope sc X.env.scope X.N N' fr) (ha : ∀ g', rest[0]? = some g' → g'.is_async = 0) {wi : TI} (hi : PI X target iter wi) {g : TG} {tb : Addr → TC}
    (hg : ∀ s H fp, PG (blockCx X sc N' s H fp) target g)
    (hb : ∀ s H fp p, PB (blockCx X sc N' s H fp) (fun k => compTest ifs (blockCx X sc N' s H fp).env >>= fun ok => if ok = true then compNext elt (⟨target, iter, ifs, 0⟩ :: rest) sc pos 0 (.ref p) (blockCx X sc N' s H fp).env k else k) (tb p))
    (hs : ∀ x, foldedSetIterable iter X.env x = pure x) :
    PE X (.ListComp elt (⟨target, iter, ifs, 0⟩ :: rest) sc pos) (tComp wi g tb fr) := by
  intro pins s σ H Q I h
  rw [eval_ListComp]
  refine wpAny_comprehension_free (use := none) rfl hs (closure_eq (blk_cells I B)) B.kind (blk_names B) (comp_run (Nn := fun p _ H2 => Q (.ref p) H2) (RR := fun acc C => compPost (model X.prog X.w) X.A X.xe none (EP X pins σ Q) acc C) hc hx B ha hi hg hb I h ?_)
  intro p fp s3 H3 s' σ' H' f I3 f3 J q
  obtain ⟨m, hn, _⟩ := J.loc
  exact ⟨m, hn, fun h' hs' => ⟨.ref p, H', block_end I3 f3 J hs', rfl, q⟩⟩

/-- name = [ .. for .. ]: the name is stored ahead of the letting go -/
theorem ps_setComp (hc : X.calm = true) {elt target iter : Expr} {ifs : List Expr} {rest : List Comprehension} {pos pos' spos : Pos} {x : Str} {i : Nat}
    (hx : ∀ e s, X.xe e s → False) (B : BlkScope sc X.env.scope X.N N' fr) (ha : ∀ g', rest[0]? = some g' → g'.is_async = 0) {wi : TI} (hi : PI X target iter wi) {g : TG} {tb : Addr → TC}
    (hg : ∀ s H fp, PG (blockCx X sc N' s H fp) target g)
    (hb : ∀ s H fp p, PB (blockCx X sc N' s H fp) (fun k => compTest ifs (blockCx X sc N' s H fp).env >>= fun ok => if ok = true then compNext elt (⟨target, iter, ifs, 0⟩ :: rest) sc pos 0 (.ref p) (blockCx X sc N' s H fp).env k else k) (tb p))
    (hs : ∀ x, foldedSetIterable iter X.env x = pure x) (hgx : PG X (.Name x pos') (gName i))
    (hsw : swapsWith (.ListComp elt (⟨target, iter, ifs, 0⟩ :: rest) sc pos) (some (.Name x pos')) spos.line X.env = pure true) :
    PS X (.Assign [.Name x pos'] (.ListComp elt (⟨target, iter, ifs, 0⟩ :: rest) sc pos) spos) (tAsg (tComp wi g tb fr) (gName i)) := by
  intro pins s σ H D I h
  rw [exec_Assign_Name_used _ _ _ _ hsw]
  refine wpAny_bind (wpAny_standAt (wpAny_bind ?_))
  show wpAny _ X.A (do let _ ← comprehension (.ListComp elt (⟨target, iter, ifs, 0⟩ :: rest) sc pos) sc X.env _ (newList []) false (eval iter X.env) (some (assign (.Name x pos') X.env))) _ _ s
  refine wpAny_bind (wpAny_mono (wpAny_comprehension_free (use := some (assign (.Name x pos') X.env)) (Q := fun _ s' => SP X pins D .next s') rfl hs (closure_eq (blk_cells I B)) B.kind (blk_names B)
    (comp_run (Nn := fun p _ H2 => D.nx (σ.set i (some (.ref p))) H2) (RR := fun acc C => compPost (model X.prog X.w) X.A X.xe (some (assign (.Name x pos') X.env)) (fun _ s' => SP X pins D .next s') acc C) hc hx B ha hi hg hb I h ?_)) (fun _ s' hq => wpAny_pure (wpAny_pure hq)) fun _ _ e => e)
  intro p fp s3 H3 s' σ' H' f I3 f3 J q
  obtain ⟨m, ⟨o, es, ep, ho, hd, hk, hm⟩, _⟩ := J.loc
  have I4 : Inv X pins σ H' s' := block_end (h' := s'.heap) I3 f3 J ⟨rfl, fun _ _ => rfl⟩
  have hL : (blockCx X sc N' s3 H3 fp).env.locals = s3.heap.objs.size := rfl
  rw [hL] at ho
  have fr0 : H' s3.heap.objs.size = none := J.free
  have neL : s3.heap.objs.size ≠ X.env.locals := Nat.ne_of_gt I3.lt
  have nfs : s3.heap.objs.size ∉ X.fs := I3.nofs (Nat.le_refl _)
  have I5 : Inv X (pins ++ [(s3.heap.objs.size, o)]) σ H' s' := I4.pins_of fun pr hp => by
    rcases List.mem_append.mp hp with z | z
    · exact I4.pin pr (List.mem_append_right _ z)
    · have e : pr = (s3.heap.objs.size, o) := by simpa using z
      subst e
      exact ⟨ho, fr0, neL, nfs, fun v z => by rw [hd] at z; cases z⟩
  show wpAny _ X.A (assign (.Name x pos') X.env (.ref p)) _ _ _
  refine thn (hgx _ s' σ H' (.ref p) (.ref p) D.nx I5 rfl q) fun _ s6 ⟨σ6, H6, I6, q6⟩ => ?_
  obtain ⟨ho6, fr6, _⟩ := I6.pin (s3.heap.objs.size, o) (List.mem_append_right _ (List.mem_append_right _ (by simp)))
  refine ⟨m, ⟨o, es, ep, ho6, hd, hk, hm⟩, fun h' hs' => ⟨σ6, H6, ?_, q6⟩⟩
  refine (I6.unpinned).turned (t' := s6.toks) (it := s3.heap.objs.size) (fun b o hb e => (hs'.2 b hb).trans e) fr6 neL (.inr I3.sz) (fun y c e z => ?_) fun pr hp z => ?_
  · obtain ⟨v, q⟩ := I3.cell y c e
    exact absurd q.lt (by rw [z]; exact Nat.lt_irrefl _)
  · exact absurd (Heap.lt_size (I3.pin pr hp).1) (by rw [z]; exact Nat.lt_irrefl _)
end
end
end L2
namespace L2
namespace Zp
open PySem PySem.Spec PyProof.Rows
/-- where a walk of a list (false) or a tuple (true) stands -/
def At (t : Bool) (h : Heap) (i l : Addr) (k : Nat) : Prop := match t with | true => h.IsTupleIter i l k | false => h.IsListIter i l k
def Sq (t : Bool) (h : Heap) (l : Addr) (xs : Array Value) : Prop := match t with | true => h.IsTuple l xs | false => h.IsList l xs
theorem At.up {t : Bool} {h h' : Heap} {i l : Addr} {k : Nat} (x : At t h i l k) (e : ∀ o, h.get? i = some o → h'.get? i = some o) : At t h' i l k := by
  cases t <;> (obtain ⟨o, ho, r⟩ := x; exact ⟨o, e o ho, r⟩)
theorem Sq.up {t : Bool} {h h' : Heap} {l : Addr} {xs : Array Value} (x : Sq t h l xs) (e : ∀ o, h.get? l = some o → h'.get? l = some o) : Sq t h' l xs := by
  cases t <;> (obtain ⟨o, ho, r⟩ := x; exact ⟨o, e o ho, r⟩)
theorem At.lt {t : Bool} {h : Heap} {i l : Addr} {k : Nat} (x : At t h i l k) : ∃ o, h.get? i = some o ∧ ∀ v, o.data ≠ .cell v := by
  cases t <;> (obtain ⟨o, ho, hc, hd⟩ := x; exact ⟨o, ho, fun v z => by rw [hd] at z; cases z⟩)
section
variable {prog : Program} {w : World} {A : Around} {E : Value → Shared → Prop} {s : Shared}
open Builtin.SmallTypes in
theorem tup_item {i l : Addr} {k : Nat} {xs : Array Value} {x : Value} {Q : Value → Shared → Prop} (hi : s.heap.IsTupleIter i l k) (hl : s.heap.IsTuple l xs) (hx : xs[k]? = some x)
    (q : ∀ h', h'.IsTupleIter i l (k + 1) → Heap.SameBut i s.heap h' → Q x { s with heap := h' }) : wpAny (model prog w) A (nextOf (.ref i)) Q E s := by
  obtain ⟨ob, hob, hcl, hda⟩ := id hi
  obtain ⟨oq, hoq, _, nq, hdq⟩ := hl
  unfold nextOf
  refine wpAny_bind (wpAny_callSpecial?_slot (name := Str.ofString "__next__") hi.typeIs F.slot_tuple_iterator_next (wpAny_call_entry F.slot_tuple_iterator_next hi.typeIs F.entry_tuple_iterator_next ?_ (F.args_tuple_iterator_next_1 _)))
  refine wpAny_bind (m := field (.ref i) 0) (wpAny_field hob hda (x := .ref l) rfl ?_)
  refine (if_neg (c := (Value.ref l == Value.none) = true) Bool.false_ne_true) ▸ ?_
  refine wpAny_bind (m := field (.ref i) 1) (wpAny_field hob hda (x := .int k 0) rfl ?_)
  refine wpAny_bind (m := seqItems? (.ref l)) (wpAny_seqItems hoq hdq ?_)
  simp only [Int.toNat_natCast, hx]
  refine wpAny_bind (wpAny_setField hob hda (by simp) (wpAny_pure ⟨x, rfl, wpAny_pure (q _ ⟨_, Heap.get?_update_self _ hob (Obj.isFreed_of_fields (Obj.data_mapFields hda _)), (Obj.cls_mapFields ..).trans hcl, ?_⟩ (Heap.SameBut.update ..))⟩))
  rw [Obj.data_mapFields hda]; simp [rawInt]
open Builtin.SmallTypes in
theorem tup_end {i l : Addr} {k : Nat} {xs : Array Value} {Q : Value → Shared → Prop} (hn : A.handled = none) (hi : s.heap.IsTupleIter i l k) (hl : s.heap.IsTuple l xs) (hx : xs[k]? = none)
    (q : ∀ h' e, Heap.ExtBut i s.heap h' → (∃ o, h'.get? e = some o ∧ o.cls = .type "StopIteration") → E (.ref e) { s with heap := h' }) : wpAny (model prog w) A (nextOf (.ref i)) Q E s := by
  obtain ⟨ob, hob, hcl, hda⟩ := id hi
  obtain ⟨oq, hoq, _, nq, hdq⟩ := hl
  unfold nextOf
  refine wpAny_bind (wpAny_callSpecial?_slot (name := Str.ofString "__next__") hi.typeIs F.slot_tuple_iterator_next (wpAny_call_entry F.slot_tuple_iterator_next hi.typeIs F.entry_tuple_iterator_next ?_ (F.args_tuple_iterator_next_1 _)))
  refine wpAny_bind (m := field (.ref i) 0) (wpAny_field hob hda (x := .ref l) rfl ?_)
  refine (if_neg (c := (Value.ref l == Value.none) = true) Bool.false_ne_true) ▸ ?_
  refine wpAny_bind (m := field (.ref i) 1) (wpAny_field hob hda (x := .int k 0) rfl ?_)
  refine wpAny_bind (m := seqItems? (.ref l)) (wpAny_seqItems hoq hdq ?_)
  simp only [Int.toNat_natCast, hx]
  refine wpAny_bind (wpAny_rule (wpAny_bind (wpAny_setField hob hda (by simp) ?_)))
  refine wpAny_bind (m := newExc (.type "StopIteration") []) ?_
  simp only [newExc, newTuple]
  refine wpAny_bind (wpAny_newObj_type ?_ (by size_fits))
  refine wpAny_bind (m := firstArgMember _ _) (wpAny_of_eq (a := Value.none) (by first | rfl | (simp only [firstArgMember]; rfl)) (wpAny_newObj_type ?_ (by size_fits)))
  simp only [raiseNew]
  refine wpAny_bind (wpAny_handled ?_)
  first | rw [show A.in1.handled = none from hn] | rw [hn]
  exact wpAny_bind (wpAny_pure (wpAny_throw (q _ _ (((Heap.SameBut.update ..).extBut.push _).push _) ⟨_, Heap.get?_push_size _ rfl, rfl⟩)))
open Builtin.SmallTypes in
theorem nx_item {t : Bool} {i l : Addr} {k : Nat} {xs : Array Value} {x : Value} {Q : Value → Shared → Prop} (hi : At t s.heap i l k) (hl : Sq t s.heap l xs) (hx : xs[k]? = some x)
    (q : ∀ h', At t h' i l (k + 1) → Heap.SameBut i s.heap h' → Q x { s with heap := h' }) : wpAny (model prog w) A (nextOf (.ref i)) Q E s := by
  cases t with
  | true => exact tup_item hi hl hx q
  | false => exact wpAny_nextOf_list_item hi hl hx q
open Builtin.SmallTypes in
theorem nx_end {t : Bool} {i l : Addr} {k : Nat} {xs : Array Value} {Q : Value → Shared → Prop} (hn : A.handled = none) (hi : At t s.heap i l k) (hl : Sq t s.heap l xs) (hx : xs[k]? = none)
    (q : ∀ h' e, Heap.ExtBut i s.heap h' → (∃ o, h'.get? e = some o ∧ o.cls = .type "StopIteration") → E (.ref e) { s with heap := h' }) : wpAny (model prog w) A (nextOf (.ref i)) Q E s := by
  cases t with
  | true => exact tup_end hn hi hl hx q
  | false => exact wpAny_nextOf_list_end hn hi hl hx q
open Builtin.SmallTypes in
theorem z_item {z T O i j a b : Addr} {t u : Bool} {k : Nat} {xs ys : Array Value} {x y p r : Value} {Q : Value → Shared → Prop} (D : ZipApart z T O i j a b)
    (hz : IsZip s.heap z T O .none) (hT : IsPair s.heap T (.ref i) (.ref j)) (hO : IsPair s.heap O p r)
    (hi : At t s.heap i a k) (hj : At u s.heap j b k) (ha : Sq t s.heap a xs) (hb : Sq u s.heap b ys) (hx : xs[k]? = some x) (hy : ys[k]? = some y)
    (q : ∀ h', IsZip h' z T O (rawInt s.heap.objs.size) → IsPair h' O x y → At t h' i a (k + 1) → At u h' j b (k + 1) → IsPair h' s.heap.objs.size x y →
      (∀ c o, c ≠ z → c ≠ O → c ≠ i → c ≠ j → s.heap.get? c = some o → h'.get? c = some o) → Q (.ref s.heap.objs.size) { s with heap := h' }) :
    wpAny (model prog w) A (Builtin.«zip.__next__» ⟨[.ref z], []⟩) (fun fin s' => ∃ v, fin = .done (.ret v) ∧ Q v s') E s := by
  refine wpAny_bind (m := field (.ref z) 2) (wpAny_field hz rfl (x := .bool false) rfl ?_)
  refine wpAny_bind (m := field (.ref z) 3) (wpAny_field hz rfl (x := .ref T) rfl ?_)
  refine wpAny_bind (wpAny_seqItems hT rfl ?_)
  refine wpAny_bind (m := ownedTupleIsFree (.ref z)) ?_
  unfold ownedTupleIsFree
  refine wpAny_bind (wpAny_field hz rfl (x := .none) rfl (wpAny_pure ?_))
  simp only [if_true]
  refine wpAny_bind (wpAny_rule (wpAny_bind (wpAny_field hz rfl (x := .ref O) rfl (wpAny_bind (wpAny_setField_rec hz (by simp) fun g1 z1 s1 => ?_)))))
  have Z1 : IsZip g1 z T O .ellipsis := z1
  clear z1
  refine wpAny_bind ?_
  simp only [List.zipIdx_cons, List.zipIdx_nil, List.forIn_cons, List.forIn_nil]
  refine wpAny_bind (wpAny_bind (wpAny_onRaise (wpAny_bind (m := nextOf (.ref i)) ?_)))
  refine nx_item (hi.up fun o e => s1.extBut _ o D.i1z e) (ha.up fun o e => s1.extBut _ o D.l1z e) hx fun g2 hi2 s2 => wpAny_pure ?_
  have O2 : IsPair g2 O p r := s2.extBut _ _ D.TOi1 (s1.extBut _ _ D.TOz hO)
  refine wpAny_bind (wpAny_seqItems O2 rfl (wpAny_bind (wpAny_updateSeq_pair O2 fun g3 o3 s3 => ?_)))
  have O3 : IsPair g3 O x r := o3
  clear o3
  refine wpAny_bind (wpAny_letGo (wpAny_pure (wpAny_bind (wpAny_bind (wpAny_onRaise (wpAny_bind (m := nextOf (.ref j)) ?_))))))
  refine nx_item (hj.up fun o e => s3.extBut _ o D.TOi2.symm (s2.extBut _ o D.i12.symm (s1.extBut _ o D.i2z e))) (hb.up fun o e => s3.extBut _ o D.l2TO (s2.extBut _ o D.l2i1 (s1.extBut _ o D.l2z e))) hy fun g4 hj4 s4 => wpAny_pure ?_
  have O4 : IsPair g4 O x r := s4.extBut _ _ D.TOi2 O3
  refine wpAny_bind (wpAny_seqItems O4 rfl (wpAny_bind (wpAny_updateSeq_pair O4 fun g5 o5 s5 => ?_)))
  have O5 : IsPair g5 O x y := o5
  clear o5
  refine wpAny_bind (wpAny_letGo (wpAny_pure (wpAny_pure (wpAny_bind (wpAny_seqItems O5 rfl (wpAny_bind (wpAny_newTuple ?_)))))))
  have sz : g5.objs.size = s.heap.objs.size := by rw [s5.1, s4.1, s3.1, s2.1, s1.1]
  have k5 : ∀ c o, c ≠ z → c ≠ O → c ≠ i → c ≠ j → s.heap.get? c = some o → g5.get? c = some o := fun c o c1 c2 c3 c4 e =>
    s5.extBut _ _ c2 (s4.extBut _ _ c4 (s3.extBut _ _ c2 (s2.extBut _ _ c3 (s1.extBut _ _ c1 e))))
  have Z5 : IsZip g5 z T O .ellipsis := s5.extBut _ _ D.TOz.symm (s4.extBut _ _ D.i2z.symm (s3.extBut _ _ D.TOz.symm (s2.extBut _ _ D.i1z.symm Z1)))
  have I5 : At t g5 i a (k + 1) := hi2.up fun o e => s5.extBut _ o D.TOi1.symm (s4.extBut _ o D.i12 (s3.extBut _ o D.TOi1.symm e))
  have J5 : At u g5 j b (k + 1) := hj4.up fun o e => s5.extBut _ o D.TOi2.symm e
  have zl : z < g5.objs.size := Heap.lt_size Z5
  refine wpAny_bind (m := ownedTupleHandOut (.ref z) (.ref g5.objs.size)) ?_
  unfold ownedTupleHandOut
  refine wpAny_bind (wpAny_setField_rec (Heap.get?_push_of_some _ Z5) (by simp) fun g7 z7 s7 => ?_)
  have Z7 : IsZip g7 z T O (rawInt g5.objs.size) := z7
  clear z7
  refine wpAny_setField_rec Z7 (by simp) fun g8 z8 s8 => ?_
  have Z8 : IsZip g8 z T O (rawInt g5.objs.size) := z8
  clear z8
  have up : ∀ c o, c ≠ z → g5.get? c = some o → g8.get? c = some o := fun c o c1 e => s8.extBut _ _ c1 (s7.extBut _ _ c1 (Heap.get?_push_of_some _ e))
  have P8 : IsPair g8 g5.objs.size x y := s8.extBut _ _ (Nat.ne_of_gt zl) (s7.extBut _ _ (Nat.ne_of_gt zl) (Heap.get?_push_size _ rfl))
  rw [sz] at Z8 P8
  refine wpAny_pure ⟨_, rfl, ?_⟩
  show Q (.ref g5.objs.size) _
  rw [sz]
  exact q g8 Z8 (up _ _ D.TOz O5) (I5.up fun o e => up _ o D.i1z e) (J5.up fun o e => up _ o D.i2z e) P8 fun c o c1 c2 c3 c4 e => up c o c1 (k5 c o c1 c2 c3 c4 e)
open Builtin.SmallTypes in
theorem z_end {z T O i j a b : Addr} {t u : Bool} {k : Nat} {xs ys : Array Value} {p r : Value} {Q : Fin → Shared → Prop} (hn : A.handled = none) (D : ZipApart z T O i j a b)
    (hz : IsZip s.heap z T O .none) (hT : IsPair s.heap T (.ref i) (.ref j)) (hO : IsPair s.heap O p r)
    (hi : At t s.heap i a k) (hj : At u s.heap j b k) (ha : Sq t s.heap a xs) (hb : Sq u s.heap b ys) (hend : xs[k]? = none ∨ ys[k]? = none)
    (q : ∀ h' e, (∀ c o, c ≠ z → c ≠ O → c ≠ i → c ≠ j → s.heap.get? c = some o → h'.get? c = some o) → (∃ o, h'.get? e = some o ∧ o.cls = .type "StopIteration") → E (.ref e) { s with heap := h' }) :
    wpAny (model prog w) A (Builtin.«zip.__next__» ⟨[.ref z], []⟩) Q E s := by
  refine wpAny_bind (m := field (.ref z) 2) (wpAny_field hz rfl (x := .bool false) rfl ?_)
  refine wpAny_bind (m := field (.ref z) 3) (wpAny_field hz rfl (x := .ref T) rfl ?_)
  refine wpAny_bind (wpAny_seqItems hT rfl ?_)
  refine wpAny_bind (m := ownedTupleIsFree (.ref z)) ?_
  unfold ownedTupleIsFree
  refine wpAny_bind (wpAny_field hz rfl (x := .none) rfl (wpAny_pure ?_))
  simp only [if_true]
  refine wpAny_bind (wpAny_rule (wpAny_bind (wpAny_field hz rfl (x := .ref O) rfl (wpAny_bind (wpAny_setField_rec hz (by simp) fun g1 z1 s1 => ?_)))))
  have Z1 : IsZip g1 z T O .ellipsis := z1
  clear z1
  refine wpAny_bind ?_
  simp only [List.zipIdx_cons, List.zipIdx_nil, List.forIn_cons, List.forIn_nil]
  refine wpAny_bind (wpAny_bind (wpAny_onRaise (wpAny_bind (m := nextOf (.ref i)) ?_)))
  have hi1 : At t g1 i a k := hi.up fun o e => s1.extBut _ o D.i1z e
  have ha1 : Sq t g1 a xs := ha.up fun o e => s1.extBut _ o D.l1z e
  cases hx : xs[k]? with
  | none =>
    refine nx_end hn hi1 ha1 hx fun g2 e s2 he => ?_
    obtain ⟨oe, hoe, hce⟩ := he
    have Z2 : IsZip g2 z T O .ellipsis := s2 _ _ D.i1z.symm Z1
    have ez : e ≠ z := fun x => by subst x; rw [Z2] at hoe; cases hoe; simp at hce
    exact wpAny_setField_rec Z2 (by simp) fun g3 _ s3 => q g3 e (fun c o c1 _ c3 _ x => s3.extBut _ _ c1 (s2 _ _ c3 (s1.extBut _ _ c1 x))) ⟨oe, s3.extBut _ _ ez hoe, hce⟩
  | some x =>
    have hy : ys[k]? = none := hend.elim (fun z => by rw [hx] at z; cases z) id
    refine nx_item hi1 ha1 hx fun g2 hi2 s2 => wpAny_pure ?_
    have O2 : IsPair g2 O p r := s2.extBut _ _ D.TOi1 (s1.extBut _ _ D.TOz hO)
    refine wpAny_bind (wpAny_seqItems O2 rfl (wpAny_bind (wpAny_updateSeq_pair O2 fun g3 o3 s3 => ?_)))
    refine wpAny_bind (wpAny_letGo (wpAny_pure (wpAny_bind (wpAny_bind (wpAny_onRaise (wpAny_bind (m := nextOf (.ref j)) ?_))))))
    refine nx_end hn (hj.up fun o e => s3.extBut _ o D.TOi2.symm (s2.extBut _ o D.i12.symm (s1.extBut _ o D.i2z e))) (hb.up fun o e => s3.extBut _ o D.l2TO (s2.extBut _ o D.l2i1 (s1.extBut _ o D.l2z e))) hy fun g4 e s4 he => ?_
    obtain ⟨oe, hoe, hce⟩ := he
    have Z4 : IsZip g4 z T O .ellipsis := s4 _ _ D.i2z.symm (s3.extBut _ _ D.TOz.symm (s2.extBut _ _ D.i1z.symm Z1))
    have ez : e ≠ z := fun x => by subst x; rw [Z4] at hoe; cases hoe; simp at hce
    exact wpAny_setField_rec Z4 (by simp) fun g5 _ s5 => q g5 e (fun c o c1 c2 c3 c4 x => s5.extBut _ _ c1 (s4 _ _ c4 (s3.extBut _ _ c2 (s2.extBut _ _ c3 (s1.extBut _ _ c1 x))))) ⟨oe, s5.extBut _ _ ez hoe, hce⟩
theorem nxt_item {z T O i j a b : Addr} {t u : Bool} {k : Nat} {xs ys : Array Value} {x y p r : Value} {Q : Option Value → Shared → Prop} (D : ZipApart z T O i j a b)
    (hz : IsZip s.heap z T O .none) (hT : IsPair s.heap T (.ref i) (.ref j)) (hO : IsPair s.heap O p r)
    (hi : At t s.heap i a k) (hj : At u s.heap j b k) (ha : Sq t s.heap a xs) (hb : Sq u s.heap b ys) (hx : xs[k]? = some x) (hy : ys[k]? = some y)
    (q : ∀ h', IsZip h' z T O (rawInt s.heap.objs.size) → IsPair h' O x y → At t h' i a (k + 1) → At u h' j b (k + 1) → IsPair h' s.heap.objs.size x y →
      (∀ c o, c ≠ z → c ≠ O → c ≠ i → c ≠ j → s.heap.get? c = some o → h'.get? c = some o) → Q (some (.ref s.heap.objs.size)) { s with heap := h' }) :
    wpAny (model prog w) A (pyNext (.ref z)) Q E s := by
  have ty : s.TypeIs (.ref z) "zip" := ⟨_, hz, rfl⟩
  unfold pyNext
  exact wpAny_bind (wpAny_attempt (wpAny_callSpecial?_slot (name := Str.ofString "__next__") ty F.slot_zip_next (wpAny_call_entry F.slot_zip_next ty F.entry_zip_next
    (z_item D hz hT hO hi hj ha hb hx hy fun h' a1 a2 a3 a4 a5 a6 => wpAny_pure (q h' a1 a2 a3 a4 a5 a6)) (F.args_zip_next_1 _))))
theorem nxt_end {z T O i j a b : Addr} {t u : Bool} {k : Nat} {xs ys : Array Value} {p r : Value} {Q : Option Value → Shared → Prop} (hn : A.handled = none) (D : ZipApart z T O i j a b)
    (hz : IsZip s.heap z T O .none) (hT : IsPair s.heap T (.ref i) (.ref j)) (hO : IsPair s.heap O p r)
    (hi : At t s.heap i a k) (hj : At u s.heap j b k) (ha : Sq t s.heap a xs) (hb : Sq u s.heap b ys) (hend : xs[k]? = none ∨ ys[k]? = none)
    (q : ∀ h', (∀ c o, c ≠ z → c ≠ O → c ≠ i → c ≠ j → s.heap.get? c = some o → h'.get? c = some o) → Q none { s with heap := h' }) : wpAny (model prog w) A (pyNext (.ref z)) Q E s := by
  have ty : s.TypeIs (.ref z) "zip" := ⟨_, hz, rfl⟩
  unfold pyNext
  refine wpAny_bind (wpAny_attempt (wpAny_callSpecial?_slot (name := Str.ofString "__next__") ty F.slot_zip_next (wpAny_call_entry F.slot_zip_next ty F.entry_zip_next
    (z_end hn D hz hT hO hi hj ha hb hend fun h' e hk he => ?_) (F.args_zip_next_1 _))))
  obtain ⟨o, ho, hc⟩ := he
  exact wpAny_bind (wpAny_isInstance (T := "StopIteration") (b := true) ⟨o, ho, hc⟩ isSubtype_stop (wpAny_pure (q _ hk)))
/-- the object that walks a list or a tuple -/
def itO (t : Bool) (l : Addr) : Obj := match t with | true => { cls := .type "tuple_iterator", data := .fields #[.ref l, .int 0 0] } | false => { cls := .type "list_iterator", data := .fields #[.ref l, .int 0 0] }
def zH1 (h : Heap) (t : Bool) (a : Addr) : Heap := h.push (itO t a)
def zH2 (h : Heap) (t u : Bool) (a b : Addr) : Heap := (zH1 h t a).push (itO u b)
def zH3 (h : Heap) (t u : Bool) (a b : Addr) : Heap := (zH2 h t u a b).push { cls := .type "tuple", data := .seq #[.ref h.objs.size, .ref (zH1 h t a).objs.size] }
def zH4 (h : Heap) (t u : Bool) (a b : Addr) : Heap := (zH3 h t u a b).push { cls := .type "tuple", data := .seq #[.none, .none] }
def zH5 (h : Heap) (t u : Bool) (a b : Addr) : Heap := (zH4 h t u a b).push { cls := .type "zip", data := .fields #[.none, .bool false, .bool false, .ref (zH2 h t u a b).objs.size, .ref (zH3 h t u a b).objs.size] }
theorem new_meets (t u : Bool) (a b : Addr) (xs ys : Array Value) :
    Meets (Builtin.«zip.__new__» ⟨[.type "zip", .ref a, .ref b], []⟩) (fun _ R s => Sq t s.heap a xs ∧ Sq u s.heap b ys ∧ R (.ok (.ret (.ref (zH4 s.heap t u a b).objs.size))) { s with heap := zH5 s.heap t u a b }) :=
  .of_wp fun prog w A R s h => by
    obtain ⟨hp, g, d, tk, os⟩ := s; obtain ⟨ha, hb, h⟩ := h
    have hs := sub_zip
    cases t <;> cases u
    · have e1 : Heap.IsList (Shared.heap ⟨hp, g, d, tk, os⟩) a xs := ha
      have e2 : Heap.IsList (Shared.heap ⟨hp.push { cls := .type "list_iterator", data := .fields #[.ref a, .int 0 0] }, g, d, tk, os⟩) b ys := Heap.IsList.push hb _
      wp_walk using wpAny_pyIter_list e1, wpAny_pyIter_list e2
      exact ⟨_, rfl, h⟩
    · have e1 : Heap.IsList (Shared.heap ⟨hp, g, d, tk, os⟩) a xs := ha
      have e2 : Heap.IsTuple (Shared.heap ⟨hp.push { cls := .type "list_iterator", data := .fields #[.ref a, .int 0 0] }, g, d, tk, os⟩) b ys := Heap.IsTuple.push hb _
      wp_walk using wpAny_pyIter_list e1, wpAny_pyIter_tuple e2
      exact ⟨_, rfl, h⟩
    · have e1 : Heap.IsTuple (Shared.heap ⟨hp, g, d, tk, os⟩) a xs := ha
      have e2 : Heap.IsList (Shared.heap ⟨hp.push { cls := .type "tuple_iterator", data := .fields #[.ref a, .int 0 0] }, g, d, tk, os⟩) b ys := Heap.IsList.push hb _
      wp_walk using wpAny_pyIter_tuple e1, wpAny_pyIter_list e2
      exact ⟨_, rfl, h⟩
    · have e1 : Heap.IsTuple (Shared.heap ⟨hp, g, d, tk, os⟩) a xs := ha
      have e2 : Heap.IsTuple (Shared.heap ⟨hp.push { cls := .type "tuple_iterator", data := .fields #[.ref a, .int 0 0] }, g, d, tk, os⟩) b ys := Heap.IsTuple.push hb _
      wp_walk using wpAny_pyIter_tuple e1, wpAny_pyIter_tuple e2
      exact ⟨_, rfl, h⟩
theorem at_new {t : Bool} {h : Heap} {i l : Addr} (e : h.get? i = some (itO t l)) : At t h i l 0 := by
  cases t <;> exact ⟨_, e, rfl, rfl⟩
theorem call_zip {t u : Bool} {a b : Addr} {xs ys : Array Value} {Q : Value → Shared → Prop} (ha : Sq t s.heap a xs) (hb : Sq u s.heap b ys)
    (q : ∀ h', IsZip h' (s.heap.objs.size + 4) (s.heap.objs.size + 2) (s.heap.objs.size + 3) .none → IsPair h' (s.heap.objs.size + 2) (.ref s.heap.objs.size) (.ref (s.heap.objs.size + 1)) →
      IsPair h' (s.heap.objs.size + 3) .none .none → At t h' s.heap.objs.size a 0 → At u h' (s.heap.objs.size + 1) b 0 → h'.objs.size = s.heap.objs.size + 5 →
      (∀ c o, s.heap.get? c = some o → h'.get? c = some o) → Q (.ref (s.heap.objs.size + 4)) { s with heap := h' }) :
    wpAny (model prog w) A (call (.type "zip") [.ref a, .ref b]) Q E s := by
  refine callType_new F.called_zip (by decide) (F.typeCall_zip_2 _ _) (F.newCall_zip_2 _ _) (fun obj => F.args_object_init_3 obj _ _) F.entry_zip_new (new_meets t u a b xs ys) ⟨ha, hb, ?_⟩
  have z1 : (zH1 s.heap t a).objs.size = s.heap.objs.size + 1 := Heap.size_push ..
  have z2 : (zH2 s.heap t u a b).objs.size = s.heap.objs.size + 2 := by unfold zH2; rw [Heap.size_push, z1]
  have z3 : (zH3 s.heap t u a b).objs.size = s.heap.objs.size + 3 := by unfold zH3; rw [Heap.size_push, z2]
  have z4 : (zH4 s.heap t u a b).objs.size = s.heap.objs.size + 4 := by unfold zH4; rw [Heap.size_push, z3]
  have z5 : (zH5 s.heap t u a b).objs.size = s.heap.objs.size + 5 := by unfold zH5; rw [Heap.size_push, z4]
  have k5 : ∀ {c o}, (zH4 s.heap t u a b).get? c = some o → (zH5 s.heap t u a b).get? c = some o := fun e => Heap.get?_push_of_some _ e
  have k4 : ∀ {c o}, (zH3 s.heap t u a b).get? c = some o → (zH4 s.heap t u a b).get? c = some o := fun e => Heap.get?_push_of_some _ e
  have k3 : ∀ {c o}, (zH2 s.heap t u a b).get? c = some o → (zH3 s.heap t u a b).get? c = some o := fun e => Heap.get?_push_of_some _ e
  have k2 : ∀ {c o}, (zH1 s.heap t a).get? c = some o → (zH2 s.heap t u a b).get? c = some o := fun e => Heap.get?_push_of_some _ e
  have k1 : ∀ {c o}, s.heap.get? c = some o → (zH1 s.heap t a).get? c = some o := fun e => Heap.get?_push_of_some _ e
  have f : ∀ t l, (itO t l).isFreed = false := fun t l => by cases t <;> rfl
  have g5 : (zH5 s.heap t u a b).get? (zH4 s.heap t u a b).objs.size = some _ := Heap.get?_push_size _ rfl
  have g4 : (zH5 s.heap t u a b).get? (zH3 s.heap t u a b).objs.size = some _ := k5 (Heap.get?_push_size _ rfl)
  have g3 : (zH5 s.heap t u a b).get? (zH2 s.heap t u a b).objs.size = some _ := k5 (k4 (Heap.get?_push_size _ rfl))
  have g2 : (zH5 s.heap t u a b).get? (zH1 s.heap t a).objs.size = some _ := k5 (k4 (k3 (Heap.get?_push_size _ (f u b))))
  have g1 : (zH5 s.heap t u a b).get? s.heap.objs.size = some _ := k5 (k4 (k3 (k2 (Heap.get?_push_size _ (f t a)))))
  show _ ∧ _
  rw [z2, z3, z4] at g5
  rw [z1, z2] at g3
  rw [z3] at g4
  rw [z1] at g2
  rw [z4]
  exact ⟨⟨_, g5, rfl⟩, q _ g5 g3 g4 (at_new g1) (at_new g2) z5 fun c o x => k5 (k4 (k3 (k2 (k1 x))))⟩
end
end Zp
end L2
namespace L2
open PySem PySem.Spec PyProof.Rows
section
variable {X : Cx} {pins : List (Addr × Obj)} {σ : St} {H : Hp} {s : Shared} {h' : Heap}
/-- untracked records of ours have turned -/
theorem Inv.turnedL {t' : Nat} {fp : List Addr} (I : Inv X pins σ H s) (hf : ∀ b ∈ fp, FpOk X pins H b) (k : ∀ b o, b ∉ fp → s.heap.get? b = some o → h'.get? b = some o) : Inv X pins σ H { s with heap := h', toks := t' } := by
  have nit : ∀ b u, H b = some u → b ∉ fp := fun b u e z => by rw [(hf b z).1] at e; cases e
  refine I.step (g' := s.gens) (d' := s.drawn) (ch := fp) (fun b hb => ?_) (fun b o _ _ hc e _ => k b o hc e) (fun b o _ _ hc e _ => ⟨o.slots, k b o hc e⟩) (fun _ _ _ _ n => n)
    (fun b o hc e => ⟨o, k b o hc e⟩) (fun _ _ e => e) (fun _ _ _ e => e) (fun b ps e => ⟨#[], by rw [e]; simp⟩) (fun m hm => ?_) (fun b u e => ?_) I.bare
  · obtain ⟨_, f1, _, f3, f4, f5⟩ := hf b hb
    exact ⟨f3, f1, f4, f5⟩
  · obtain ⟨o, es, ep, ho, r⟩ := hm
    exact ⟨o, es, ep, k _ o (fun z => (hf _ z).2.1 rfl) ho, r⟩
  · refine (I.hok b u e).stay (fun c v hc q => k c v ?_ q) (fun _ q => q) fun _ _ q => q
    rcases hc with z | z
    · rw [z]; exact nit b u e
    · exact nit c _ z
end
/-- a list (false) or a tuple (true) -/
def SqV (K : PySem.W.Frag) (t : Bool) (H : Hp) (a : Addr) (xs : List V) : Prop := match t with | true => SqT K H a xs | false => SqL K H a xs
theorem Inv.sqv {X : Cx} {pins : List (Addr × Obj)} {σ : St} {H : Hp} {s : Shared} {t : Bool} {a : Addr} {xs : List V} (I : Inv X pins σ H s) (h : SqV X.K t H a xs) : ∃ its : List Value, Vals xs its ∧ Zp.Sq t s.heap a its.toArray := by
  cases t with
  | true => obtain ⟨its, r, p, _⟩ := I.tuple h; exact ⟨its, r, p⟩
  | false => obtain ⟨its, r, p, _⟩ := I.list h; exact ⟨its, r, p.isList⟩
theorem Inv.sqv_inj {X : Cx} {pins : List (Addr × Obj)} {σ : St} {H : Hp} {s : Shared} {t : Bool} {a : Addr} {xs ys : List V} (I : Inv X pins σ H s) (h : SqV X.K t H a xs) (h' : SqV X.K t H a ys) : xs = ys := by
  cases t with
  | true => exact I.tuple_inj h h'
  | false => exact I.list_inj h h'
def Itz (K : PySem.W.Frag) (t u : Bool) (a b : Addr) : It :=
  ⟨fun i H => ∃ xs ys x y, SqV K t H a xs ∧ SqV K u H b ys ∧ xs[i]? = some x ∧ ys[i]? = some y,
   fun i H v H' => ∃ p x y, H p = none ∧ v = .ref p ∧ H' = upd H p (.tup [x, y]) ∧ ∀ xs ys, SqV K t H a xs → SqV K u H b ys → xs[i]? = some x ∧ ys[i]? = some y,
   fun i H => ∃ xs ys, SqV K t H a xs ∧ SqV K u H b ys ∧ (xs.length ≤ i ∨ ys.length ≤ i)⟩
theorem turn_zip {P : Program} {w : World} {K : PySem.W.Frag} {elts : List Expr} {cx} {pos : Pos} {t u : Bool} {z T O i j a b : Addr} (D : ZipApart z T O i j a b) :
    Turn P w K (.Tuple elts cx pos) (Itz K t u a b) [z, T, O, i, j] z (fun k h => IsZip h z T O .none ∧ IsPair h T (.ref i) (.ref j) ∧ (∃ p r, IsPair h O p r) ∧ Zp.At t h i a k ∧ Zp.At u h j b k) where
  mem := by simp
  obj := fun k h ⟨hz, hT, ⟨p, r, hO⟩, hi, hj⟩ c hc => by
    simp only [List.mem_cons, List.not_mem_nil, or_false] at hc
    rcases hc with rfl | rfl | rfl | rfl | rfl
    · exact ⟨_, hz, fun v e => by cases e⟩
    · exact ⟨_, hT, fun v e => by cases e⟩
    · exact ⟨_, hO, fun v e => by cases e⟩
    · exact hi.lt
    · exact hj.lt
  keep := fun k h h' ⟨hz, hT, ⟨p, r, hO⟩, hi, hj⟩ kk => ⟨kk z (by simp) _ hz, kk T (by simp) _ hT, ⟨p, r, kk O (by simp) _ hO⟩, hi.up fun o e => kk i (by simp) o e, hj.up fun o e => kk j (by simp) o e⟩
  item := by
    intro X hP hw hK hc k pins s σ H E I hf st hg
    subst hP hw hK
    obtain ⟨hz, hT, ⟨p, r, hO⟩, hi, hj⟩ := st
    obtain ⟨xs, ys, x, y, qx, qy, ex, ey⟩ := hg
    obtain ⟨is, rx, px⟩ := I.sqv qx
    obtain ⟨js, ry, py⟩ := I.sqv qy
    obtain ⟨ux, hux, rux⟩ := rx.get ex
    obtain ⟨uy, huy, ruy⟩ := ry.get ey
    refine Zp.nxt_item D hz hT hO hi hj px py (by simpa using hux) (by simpa using huy) fun h1 z1 o1 i1 j1 p1 k1 => ⟨_, rfl, ?_⟩
    refine wpAny_letOwnedTupleGo_zip (s := { s with heap := h1 }) z1 fun h2 z2 s2 => ?_
    have lt : ∀ {c o}, s.heap.get? c = some o → c ≠ s.heap.objs.size := fun e => Nat.ne_of_lt (Heap.lt_size e)
    have nz : s.heap.objs.size ≠ z := (lt hz).symm
    have hi0 : ∃ o, s.heap.get? i = some o := hi.lt.imp fun _ h => h.1
    have hj0 : ∃ o, s.heap.get? j = some o := hj.lt.imp fun _ h => h.1
    have up : ∀ c o, c ≠ z → h1.get? c = some o → h2.get? c = some o := fun c o n e => s2.extBut _ _ n e
    have IL : Inv X pins σ (upd H s.heap.objs.size (.tup [x, y])) { s with heap := s.heap.push { cls := .type "tuple", data := .seq #[ux, uy] }, toks := s.toks } :=
      I.laid (fun b o e => Heap.get?_push_of_some _ e) (Nat.le_refl _) ⟨by rw [sizeLine_eq]; simp, [ux, uy], .cons rux (.cons ruy .nil), IsTup.new _ _⟩
    have fr : ∀ c ∈ [z, T, O, i, j], c ≠ s.heap.objs.size := fun c hc => by
      simp only [List.mem_cons, List.not_mem_nil, or_false] at hc
      rcases hc with rfl | rfl | rfl | rfl | rfl
      · exact lt hz
      · exact lt hT
      · exact lt hO
      · obtain ⟨o, e⟩ := hi0; exact lt e
      · obtain ⟨o, e⟩ := hj0; exact lt e
    have un : ∀ c ∈ [z, T, O, i, j], upd H s.heap.objs.size (.tup [x, y]) c = none := fun c hc => by
      rw [upd_ne (fr c hc)]; exact (hf c hc).1
    have kk : ∀ c o, c ∉ [z, T, O, i, j] → (s.heap.push { cls := .type "tuple", data := .seq #[ux, uy] }).get? c = some o → h2.get? c = some o := fun c o hc e => by
      simp only [List.mem_cons, List.not_mem_nil, or_false, not_or] at hc
      rcases Heap.get?_push_cases e with ⟨rfl, rfl⟩ | e
      · exact up _ _ nz p1
      · exact up _ _ hc.1 (k1 c o hc.1 hc.2.2.1 hc.2.2.2.1 hc.2.2.2.2 e)
    have I2 : Inv X pins σ (upd H s.heap.objs.size (.tup [x, y])) { s with heap := h2, toks := s.toks } :=
      (Inv.turnedL (s := { s with heap := s.heap.push { cls := .type "tuple", data := .seq #[ux, uy] }, toks := s.toks }) (h' := h2) (t' := s.toks) (fp := [z, T, O, i, j]) IL (fun c hc => ⟨un c hc, (hf c hc).2⟩) kk)
    refine ⟨.ref s.heap.objs.size, _, I2, rfl, ⟨_, x, y, I.hok.fresh (Nat.le_refl _), rfl, rfl, fun xs' ys' q1 q2 => ?_⟩, ⟨z2, up _ _ D.TIz (k1 _ _ D.TIz D.TITO D.TIi1 D.TIi2 hT), ⟨_, _, up _ _ D.TOz o1⟩, i1.up fun o e => up _ o D.i1z e, j1.up fun o e => up _ o D.i2z e⟩, un⟩
    rw [I.sqv_inj q1 qx, I.sqv_inj q2 qy]; exact ⟨ex, ey⟩
  done := by
    intro X hP hw hK hc k pins s σ H E I hf st hg
    subst hP hw hK
    obtain ⟨hz, hT, ⟨p, r, hO⟩, hi, hj⟩ := st
    obtain ⟨xs, ys, qx, qy, hend⟩ := hg
    obtain ⟨is, rx, px⟩ := I.sqv qx
    obtain ⟨js, ry, py⟩ := I.sqv qy
    have lx := rx.length
    have ly := ry.length
    refine Zp.nxt_end (I.ok.hd hc) D hz hT hO hi hj px py (hend.imp (fun e => by simp; omega) (fun e => by simp; omega)) fun h1 k1 => ⟨rfl, I.turnedL (t' := s.toks) hf fun c o hc e => ?_⟩
    simp only [List.mem_cons, List.not_mem_nil, or_false, not_or] at hc
    exact k1 c o hc.1 hc.2.2.1 hc.2.2.2.1 hc.2.2.2.2 e
  self := fun A k s Q E st h => wpAny_pyIter_zip st.1 h
section
variable {X : Cx}
def iZip (K : PySem.W.Frag) (ta : TA) : TI := fun σ H R => ta σ H fun vs H1 => ∃ a b t u xs ys, vs = [.ref a, .ref b] ∧ SqV K t H1 a xs ∧ SqV K u H1 b ys ∧ R (Itz K t u a b) H1
theorem pi_zip {elts : List Expr} {cx} {pos p pos' : Pos} {a b : Expr} {ta : TA} (hg : Gl X "zip") (hm : X.mg "zip" = none) (ha : PA X [a, b] ta) (hs : starEach [a, b] X.env = [(false, eval a X.env), (false, eval b X.env)]) (hs2 : starEach [b] X.env = [(false, eval b X.env)]) :
    PI X (.Tuple elts cx pos) (.Call (.Name "zip" p) [a, b] [] pos') (iZip X.K ta) := by
  intro pins s σ H R I h
  refine Call_ (ld_blt I hg hm (u := .type "zip") (by decide +kernel) (PyProof.Rows.callWith_type1 (thn (ha pos' pins s σ H _ I h) fun us s1 ⟨vs, H1, I1, r1, q1⟩ => ?_) (by rw [hs, hs2]) (by rw [hs2]; rfl)))
  obtain ⟨a', b', t, u, xs, ys, rfl, qx, qy, q⟩ := q1
  cases r1 with
  | cons r rr =>
    cases rr with
    | cons r' rr =>
      cases rr
      cases r
      cases r'
      obtain ⟨is, rx, px⟩ := I1.sqv qx
      obtain ⟨js, ry, py⟩ := I1.sqv qy
      refine Zp.call_zip px py fun h1 z1 t1 o1 i1 j1 sz k1 => ?_
      refine wpAny_pyIter_zip z1 ?_
      have la : a' < s1.heap.objs.size := by cases t <;> (obtain ⟨o, e, _⟩ := px; exact Heap.lt_size e)
      have lb : b' < s1.heap.objs.size := by cases u <;> (obtain ⟨o, e, _⟩ := py; exact Heap.lt_size e)
      have D : ZipApart (s1.heap.objs.size + 4) (s1.heap.objs.size + 2) (s1.heap.objs.size + 3) s1.heap.objs.size (s1.heap.objs.size + 1) a' b' := by constructor <;> (intro e; subst_vars; first | omega | (simp only [Addr] at *; omega))
      refine ⟨_, _, _, _, H1, rfl, I1.kept (t' := s1.toks) k1, turn_zip (t := t) (u := u) D, ⟨z1, t1, ⟨_, _, o1⟩, i1, j1⟩, fun c hc => ?_, q⟩
      have hle : s1.heap.objs.size ≤ c := by
        simp only [List.mem_cons, List.not_mem_nil, or_false] at hc
        rcases hc with rfl | rfl | rfl | rfl | rfl <;> omega
      exact I1.fpOk hle (I1.hok.fresh hle)
end
end L2
namespace L2
namespace En
open PySem PySem.Spec PyProof.Rows
section
variable {prog : Program} {w : World} {A : Around} {E : Value → Shared → Prop} {s : Shared}
open Builtin.SmallTypes Zp in
theorem e_item {z i a : Addr} {t : Bool} {k : Nat} {xs : Array Value} {x old : Value} {Q : Value → Shared → Prop} (hz : IsEnum s.heap z i k old) (hi : At t s.heap i a k) (ha : Sq t s.heap a xs) (hx : xs[k]? = some x) (hne : z ≠ i)
    (q : ∀ h', IsEnumOut h' z i ((k : Int) + 1) x s.heap.objs.size → At t h' i a (k + 1) → h'.get? s.heap.objs.size = some { cls := .type "tuple", data := .seq #[.int k s.toks, x] } →
      (∀ b o, b ≠ z → b ≠ i → s.heap.get? b = some o → h'.get? b = some o) → Q (.ref s.heap.objs.size) { s with heap := h', toks := s.toks + 1 }) :
    wpAny (model prog w) A (Builtin.«enumerate.__next__» ⟨[.ref z], []⟩) (fun fin s' => ∃ v, fin = .done (.ret v) ∧ Q v s') E s := by
  obtain ⟨hp, g, d, tk, os⟩ := s
  refine wpAny_bind (m := field (.ref z) 2) (wpAny_field hz rfl (x := .ref i) rfl (wpAny_bind (nx_item hi ha hx fun g1 i1 s1 => ?_)))
  have S1 : Heap.SameBut i hp g1 := s1
  clear s1
  have Z1 : IsEnum g1 z i k old := (S1.2 z hne).trans hz
  refine wpAny_bind (m := field (.ref z) 3) (wpAny_field (s := ⟨g1, g, d, tk, os⟩) Z1 rfl (x := rawInt k) rfl ?_)
  refine wpAny_bind (m := field (.ref z) 4) (wpAny_field (s := ⟨g1, g, d, tk, os⟩) Z1 rfl (x := .none) rfl ?_)
  refine wpAny_bind (m := mkInt k) (wpAny_mkInt ?_)
  refine wpAny_bind (m := setField (.ref z) 3 (rawInt ((k : Int) + 1))) (wpAny_setField_rec (s := ⟨g1, g, d, tk + 1, os⟩) Z1 (by simp) fun g2 z2 s2 => ?_)
  have S2 : Heap.SameBut z g1 g2 := s2
  have Z2 : IsEnum g2 z i ((k : Int) + 1) old := z2
  clear s2 z2
  refine wpAny_bind (m := setField (.ref z) 4 .none) (wpAny_setField_rec (s := ⟨g2, g, d, tk + 1, os⟩) Z2 (by simp) fun g3 z3 s3 => ?_)
  have S3 : Heap.SameBut z g2 g3 := s3
  have Z3 : IsEnum g3 z i ((k : Int) + 1) old := z3
  clear s3 z3
  refine wpAny_bind (m := newTuple [.int k tk, x]) (wpAny_newTuple ?_)
  have Z4 : IsEnum (g3.push { cls := .type "tuple", data := .seq #[.int k tk, x] }) z i ((k : Int) + 1) old := Heap.get?_push_of_some _ Z3
  have sz : g3.objs.size = hp.objs.size := by rw [S3.1, S2.1, S1.1]
  have zl : z < hp.objs.size := Heap.lt_size hz
  have T4 : (g3.push { cls := .type "tuple", data := .seq #[.int k tk, x] }).get? hp.objs.size = some { cls := .type "tuple", data := .seq #[.int k tk, x] } := by rw [← sz]; exact Heap.get?_push_size _ rfl
  have K4 : ∀ b o, b ≠ z → b ≠ i → hp.get? b = some o → (g3.push { cls := .type "tuple", data := .seq #[.int k tk, x] }).get? b = some o := fun b o bz bi e =>
    Heap.get?_push_of_some _ (S3.extBut b o bz (S2.extBut b o bz (S1.extBut b o bi e)))
  have I4 : At t (g3.push { cls := .type "tuple", data := .seq #[.int k tk, x] }) i a (k + 1) := i1.up fun o e => Heap.get?_push_of_some _ (S3.extBut i o hne.symm (S2.extBut i o hne.symm e))
  rw [sz]
  generalize g3.push { cls := .type "tuple", data := .seq #[.int k tk, x] } = g4 at Z4 T4 K4 I4
  refine wpAny_bind (m := ownedTupleIsFree (.ref z)) ?_
  unfold ownedTupleIsFree
  refine wpAny_bind (wpAny_field (s := ⟨g4, g, d, tk + 1, os⟩) Z4 rfl (x := .none) rfl (wpAny_pure ?_))
  simp only [if_true]
  refine wpAny_bind (wpAny_rule (wpAny_bind (wpAny_field (s := ⟨g4, g, d, tk + 1, os⟩) Z4 rfl (x := old) rfl (wpAny_bind (wpAny_setField_rec (s := ⟨g4, g, d, tk + 1, os⟩) Z4 (by simp) fun g5 z5 s5 => ?_)))))
  have S5 : Heap.SameBut z g4 g5 := s5
  have Z5 : IsEnum g5 z i ((k : Int) + 1) x := z5
  clear s5 z5
  refine wpAny_bind (m := ownedTupleHandOut (.ref z) (.ref hp.objs.size)) ?_
  unfold ownedTupleHandOut
  refine wpAny_bind (wpAny_setField_rec (s := ⟨g5, g, d, tk + 1, os⟩) Z5 (by simp) fun g6 z6 s6 => ?_)
  have S6 : Heap.SameBut z g5 g6 := s6
  have Z6 : IsEnumOut g6 z i ((k : Int) + 1) x hp.objs.size := z6
  clear s6 z6
  refine wpAny_setField_rec (s := ⟨g6, g, d, tk + 1, os⟩) Z6 (by simp) fun g7 z7 s7 => ?_
  have S7 : Heap.SameBut z g6 g7 := s7
  have Z7 : IsEnumOut g7 z i ((k : Int) + 1) x hp.objs.size := z7
  clear s7 z7
  have up : ∀ b o, b ≠ z → g4.get? b = some o → g7.get? b = some o := fun b o bz e => S7.extBut b o bz (S6.extBut b o bz (S5.extBut b o bz e))
  exact wpAny_bind (wpAny_letGo (wpAny_pure ⟨_, rfl, q g7 Z7 (I4.up fun o e => up i o hne.symm e) (up _ _ (Nat.ne_of_gt zl) T4) fun b o bz bi e => up b o bz (K4 b o bz bi e)⟩))
theorem nxt_item {z i a : Addr} {t : Bool} {k : Nat} {xs : Array Value} {x old : Value} {Q : Option Value → Shared → Prop} (hz : IsEnum s.heap z i k old) (hi : Zp.At t s.heap i a k) (ha : Zp.Sq t s.heap a xs) (hx : xs[k]? = some x) (hne : z ≠ i)
    (q : ∀ h', IsEnumOut h' z i ((k : Int) + 1) x s.heap.objs.size → Zp.At t h' i a (k + 1) → h'.get? s.heap.objs.size = some { cls := .type "tuple", data := .seq #[.int k s.toks, x] } →
      (∀ b o, b ≠ z → b ≠ i → s.heap.get? b = some o → h'.get? b = some o) → Q (some (.ref s.heap.objs.size)) { s with heap := h', toks := s.toks + 1 }) :
    wpAny (model prog w) A (pyNext (.ref z)) Q E s := by
  have ty : s.TypeIs (.ref z) "enumerate" := ⟨_, hz, rfl⟩
  unfold pyNext
  exact wpAny_bind (wpAny_attempt (wpAny_callSpecial?_slot (name := Str.ofString "__next__") ty F.slot_enumerate_next (wpAny_call_entry F.slot_enumerate_next ty F.entry_enumerate_next
    (e_item hz hi ha hx hne fun h' a1 a2 a3 a4 => wpAny_pure (q h' a1 a2 a3 a4)) (F.args_enumerate_next_1 _))))
theorem nxt_end {z i a : Addr} {t : Bool} {k : Nat} {xs : Array Value} {old : Value} {Q : Option Value → Shared → Prop} (hn : A.handled = none) (hz : IsEnum s.heap z i k old) (hi : Zp.At t s.heap i a k) (ha : Zp.Sq t s.heap a xs) (hx : xs[k]? = none)
    (q : ∀ h', Heap.ExtBut i s.heap h' → Q none { s with heap := h' }) : wpAny (model prog w) A (pyNext (.ref z)) Q E s := by
  have ty : s.TypeIs (.ref z) "enumerate" := ⟨_, hz, rfl⟩
  unfold pyNext
  refine wpAny_bind (wpAny_attempt (wpAny_callSpecial?_slot (name := Str.ofString "__next__") ty F.slot_enumerate_next (wpAny_call_entry F.slot_enumerate_next ty F.entry_enumerate_next ?_ (F.args_enumerate_next_1 _))))
  refine wpAny_bind (m := field (.ref z) 2) (wpAny_field hz rfl (x := .ref i) rfl (wpAny_bind (Zp.nx_end hn hi ha hx fun h' x he hs => ?_)))
  obtain ⟨o, ho, hc⟩ := hs
  exact wpAny_bind (wpAny_isInstance (T := "StopIteration") (b := true) ⟨o, ho, hc⟩ isSubtype_stop (wpAny_pure (q _ he)))
open AutoSeq1 (wpAny_loadPart') in
theorem new_tup (l : Addr) (items : Array Value) (n : Nat) (dct : Option Addr) (sl : Array (Option Value)) :
    Meets (Builtin.«enumerate.__new__» ⟨[.type "enumerate", .ref l], []⟩) (fun _ R s => s.heap.get? l = some { cls := .type "tuple", dict := dct, data := .seq items n, slots := sl } ∧
      R (.ok (.ret (.ref (s.heap.push (Zp.itO true l)).objs.size))) { s with heap := (s.heap.push (Zp.itO true l)).push { cls := .type "enumerate", data := .fields #[.none, .bool false, .ref s.heap.objs.size, rawInt 0, .none, .none] } }) :=
  .of_wp fun prog w A R s h => by
    obtain ⟨hp, g, d, tk, os⟩ := s; obtain ⟨hl, h⟩ := h
    have hsub := sub_enumerate
    have hT : Heap.IsTuple (Shared.heap ⟨hp, g, d, tk, os⟩) l items := ⟨_, hl, rfl, n, rfl⟩
    wp_walk using wpAny_loadPart' hl
    refine wpAny_stack_any fun st => wpAny_pure ?_
    split
    · rename_i c _ _ _ _ _
      cases (c == Value.type "enumerate") <;> (wp_walk using wpAny_loadPart' hl, wpAny_pyIter_tuple hT; exact ⟨_, rfl, h⟩)
    · wp_walk using wpAny_loadPart' hl, wpAny_pyIter_tuple hT
      exact ⟨_, rfl, h⟩
theorem call_enum {t : Bool} {l : Addr} {items : Array Value} {Q : Value → Shared → Prop} (hL : Zp.Sq t s.heap l items)
    (q : ∀ h', IsEnum h' (s.heap.objs.size + 1) s.heap.objs.size 0 .none → Zp.At t h' s.heap.objs.size l 0 → (∀ b o, s.heap.get? b = some o → h'.get? b = some o) → Q (.ref (s.heap.objs.size + 1)) { s with heap := h' }) :
    wpAny (model prog w) A (call (.type "enumerate") [.ref l]) Q E s := by
  cases t with
  | false => exact call_enumerate_list hL fun h' a b _ k => q h' a b k
  | true =>
    obtain ⟨⟨c, dct, dt, sl⟩, hl, hc, n, hd⟩ := hL
    have hc' : c = .type "tuple" := hc
    have hd' : dt = .seq items n := hd
    subst hc' hd'
    refine callType_new F.called_enumerate (by decide) (F.typeCall_enumerate_1 _) (F.newCall_enumerate_1 _) (fun obj => F.args_object_init_2 obj _) F.entry_enumerate_new (new_tup l items n dct sl) ⟨hl, ?_⟩
    have z1 : (s.heap.push (Zp.itO true l)).objs.size = s.heap.objs.size + 1 := Heap.size_push ..
    have e : ((s.heap.push (Zp.itO true l)).push { cls := .type "enumerate", data := .fields #[.none, .bool false, .ref s.heap.objs.size, rawInt 0, .none, .none] }).get? (s.heap.push (Zp.itO true l)).objs.size = some _ := Heap.get?_push_size _ rfl
    rw [z1] at e
    show _ ∧ _
    rw [z1]
    exact ⟨⟨_, e, rfl⟩, q _ e (Zp.at_new (Heap.get?_push_of_some _ (Heap.get?_push_size _ rfl))) fun b o x => Heap.get?_push_of_some _ (Heap.get?_push_of_some _ x)⟩
end
end En
open PySem PySem.Spec PyProof.Rows
/-- 0, x0, then 1, x1 .. -/
def Ite (K : PySem.W.Frag) (t : Bool) (a : Addr) : It :=
  ⟨fun i H => ∃ xs x, SqV K t H a xs ∧ xs[i]? = some x,
   fun i H v H' => ∃ p x, H p = none ∧ v = .ref p ∧ H' = upd H p (.tup [.int (i : Nat), x]) ∧ ∀ xs, SqV K t H a xs → xs[i]? = some x,
   fun i H => ∃ xs, SqV K t H a xs ∧ xs.length ≤ i⟩
theorem turn_enum {P : Program} {w : World} {K : PySem.W.Frag} {elts : List Expr} {cx} {pos : Pos} {t : Bool} {z i a : Addr} (hzi : z ≠ i) :
    Turn P w K (.Tuple elts cx pos) (Ite K t a) [z, i] z (fun k h => (∃ old, IsEnum h z i k old) ∧ Zp.At t h i a k) where
  mem := by simp
  obj := fun k h ⟨⟨old, hz⟩, hi⟩ c hc => by
    simp only [List.mem_cons, List.not_mem_nil, or_false] at hc
    rcases hc with rfl | rfl
    · exact ⟨_, hz, fun v e => by cases e⟩
    · exact hi.lt
  keep := fun k h h' ⟨⟨old, hz⟩, hi⟩ kk => ⟨⟨old, kk z (by simp) _ hz⟩, hi.up fun o e => kk i (by simp) o e⟩
  item := by
    intro X hP hw hK hc k pins s σ H E I hf st hg
    subst hP hw hK
    obtain ⟨⟨old, hz⟩, hi⟩ := st
    obtain ⟨xs, x, qx, ex⟩ := hg
    obtain ⟨is, rx, px⟩ := I.sqv qx
    obtain ⟨ux, hux, rux⟩ := rx.get ex
    refine En.nxt_item hz hi px (by simpa using hux) hzi fun h1 z1 i1 p1 k1 => ⟨_, rfl, ?_⟩
    refine wpAny_letOwnedTupleGo_enum (s := { s with heap := h1, toks := s.toks + 1 }) z1 fun h2 z2 s2 => ?_
    have lt : ∀ {c o}, s.heap.get? c = some o → c ≠ s.heap.objs.size := fun e => Nat.ne_of_lt (Heap.lt_size e)
    have nz : s.heap.objs.size ≠ z := (lt hz).symm
    have hi0 : ∃ o, s.heap.get? i = some o := hi.lt.imp fun _ h => h.1
    have up : ∀ c o, c ≠ z → h1.get? c = some o → h2.get? c = some o := fun c o n e => s2.extBut _ _ n e
    have IL : Inv X pins σ (upd H s.heap.objs.size (.tup [.int (k : Nat), x])) { s with heap := s.heap.push { cls := .type "tuple", data := .seq #[.int k s.toks, ux] }, toks := s.toks + 1 } :=
      I.laid (fun b o e => Heap.get?_push_of_some _ e) (Nat.le_refl _) ⟨by rw [sizeLine_eq]; simp, [.int k s.toks, ux], .cons ⟨_, rfl⟩ (.cons rux .nil), IsTup.new _ _⟩
    have fr : ∀ c ∈ [z, i], c ≠ s.heap.objs.size := fun c hc => by
      simp only [List.mem_cons, List.not_mem_nil, or_false] at hc
      rcases hc with rfl | rfl
      · exact lt hz
      · obtain ⟨o, e⟩ := hi0; exact lt e
    have un : ∀ c ∈ [z, i], upd H s.heap.objs.size (.tup [.int (k : Nat), x]) c = none := fun c hc => by
      rw [upd_ne (fr c hc)]; exact (hf c hc).1
    have kk : ∀ c o, c ∉ [z, i] → (s.heap.push { cls := .type "tuple", data := .seq #[.int k s.toks, ux] }).get? c = some o → h2.get? c = some o := fun c o hc e => by
      simp only [List.mem_cons, List.not_mem_nil, or_false, not_or] at hc
      rcases Heap.get?_push_cases e with ⟨rfl, rfl⟩ | e
      · exact up _ _ nz p1
      · exact up _ _ hc.1 (k1 c o hc.1 hc.2 e)
    have I2 : Inv X pins σ (upd H s.heap.objs.size (.tup [.int (k : Nat), x])) { s with heap := h2, toks := s.toks + 1 } :=
      Inv.turnedL (s := { s with heap := s.heap.push { cls := .type "tuple", data := .seq #[.int k s.toks, ux] }, toks := s.toks + 1 }) (h' := h2) (t' := s.toks + 1) (fp := [z, i]) IL (fun c hc => ⟨un c hc, (hf c hc).2⟩) kk
    refine ⟨.ref s.heap.objs.size, _, I2, rfl, ⟨_, x, I.hok.fresh (Nat.le_refl _), rfl, rfl, fun xs' q1 => ?_⟩, ⟨⟨ux, by simpa using z2⟩, i1.up fun o e => up _ o hzi.symm e⟩, un⟩
    rw [I.sqv_inj q1 qx]; exact ex
  done := by
    intro X hP hw hK hc k pins s σ H E I hf st hg
    subst hP hw hK
    obtain ⟨⟨old, hz⟩, hi⟩ := st
    obtain ⟨xs, qx, hend⟩ := hg
    obtain ⟨is, rx, px⟩ := I.sqv qx
    have lx := rx.length
    refine En.nxt_end (I.ok.hd hc) hz hi px (by simp; omega) fun h1 k1 => ⟨rfl, I.turnedL (t' := s.toks) hf fun c o hc e => ?_⟩
    simp only [List.mem_cons, List.not_mem_nil, or_false, not_or] at hc
    exact k1 c o hc.2 e
  self := fun A k s Q E ⟨⟨old, hz⟩, _⟩ h => wpAny_pyIter_enum hz h
section
variable {X : Cx}
def iEnum (K : PySem.W.Frag) (ta : TA) : TI := fun σ H R => ta σ H fun vs H1 => ∃ a t xs, vs = [.ref a] ∧ SqV K t H1 a xs ∧ R (Ite K t a) H1
theorem pi_enum {elts : List Expr} {cx} {pos p pos' : Pos} {a : Expr} {ta : TA} (hg : Gl X "enumerate") (hm : X.mg "enumerate" = none) (ha : PA X [a] ta) (hs : starEach [a] X.env = [(false, eval a X.env)]) :
    PI X (.Tuple elts cx pos) (.Call (.Name "enumerate" p) [a] [] pos') (iEnum X.K ta) := by
  intro pins s σ H R I h
  refine Call_ (ld_blt I hg hm (u := .type "enumerate") boot_enumerate (PyProof.Rows.callWith_type1 (thn (ha pos' pins s σ H _ I h) fun us s1 ⟨vs, H1, I1, r1, q1⟩ => ?_) hs rfl))
  obtain ⟨a', t, xs, rfl, qx, q⟩ := q1
  cases r1 with
  | cons r rr =>
    cases rr
    cases r
    obtain ⟨is, rx, px⟩ := I1.sqv qx
    refine En.call_enum px fun h1 z1 i1 k1 => ?_
    refine wpAny_pyIter_enum z1 ?_
    refine ⟨_, _, _, _, H1, rfl, I1.kept (t' := s1.toks) k1, turn_enum (t := t) (a := a') (by simp), ⟨⟨_, z1⟩, i1⟩, fun c hc => ?_, q⟩
    have hle : s1.heap.objs.size ≤ c := by
      simp only [List.mem_cons, List.not_mem_nil, or_false] at hc
      rcases hc with rfl | rfl <;> omega
    exact I1.fpOk hle (I1.hok.fresh hle)
end
end L2
namespace L2
namespace Rv
open PySem PySem.Spec PyProof.Rows
theorem mro_rev : mroOf (.type "reversed") = pure [.type "reversed", .type "object"] := by rw [mroOf_type]; kernel_rfl
theorem look_new : typeLookup (.type "reversed") "__new__" = pure (some (.builtin "reversed.__new__")) := by rw [typeLookup_type, builtinLookup_eq_fast]; kernel_rfl
theorem made_rev : Bind.madeBy (.type "reversed") = pure (some "reversed.__new__") := madeBy_type mro_rev look_new (by decide +kernel)
theorem not_rev : isSubtype (.type "list_reverseiterator") (.type "reversed") = pure false := by rw [isSubtype_type]; kernel_rfl
theorem sub_rev : isSubtype (.type "reversed") (.type "reversed") = pure true := by rw [isSubtype_type]; kernel_rfl
theorem entry_new : entryFor table "reversed.__new__" = some Builtin.«reversed.__new__» := entryFor_of_tree (by kernel_rfl)
theorem ty_call (a : Value) : checkTypeCall "reversed" ⟨[a], []⟩ = pure () := by kernel_rfl
theorem new_call (a : Value) : checkBuiltinCall "reversed.__new__" ⟨[.type "reversed", a], []⟩ = pure () := by kernel_rfl
theorem can_rev : ((Manifest.find? "reversed").bind (·.mro.findSome? fun t => (Manifest.find? t).bind fun b => if b.noNew then some true else if b.attrs.any (·.1 == "__new__") then some false else none)).getD false = false := by decide +kernel
theorem plain_new : plainId "reversed.__new__" = true := by decide +kernel
def rO (l : Addr) (i : Int) : Obj := { cls := .type "list_reverseiterator", data := .fields #[.ref l, rawInt i] }
theorem rev_meets (l : Addr) (items : Array Value) (n : Nat) (d : Option Addr) (sl : Array (Option Value)) :
    Meets (Builtin.«list.__reversed__» ⟨[.ref l], []⟩) (fun _ R s => s.heap.get? l = some { cls := .type "list", dict := d, data := .seq items n, slots := sl } ∧ R (.ok (.ret (.ref s.heap.objs.size))) { s with heap := s.heap.push (rO l ((items.size : Nat) - 1)) }) :=
  .of_wp fun prog w A R s h => by obtain ⟨hp, g, d, tk, os⟩ := s; obtain ⟨hl, h⟩ := h; wp_walk; exact ⟨_, rfl, h⟩
section
variable {prog : Program} {w : World} {A : Around} {E : Value → Shared → Prop} {s : Shared}
theorem new_w {l : Addr} {items : Array Value} {n : Nat} {dd : Option Addr} {sl : Array (Option Value)} {R : Result → Shared → Prop} (hl : s.heap.get? l = some { cls := .type "list", dict := dd, data := .seq items n, slots := sl })
    (q : R (.ok (.ret (.ref s.heap.objs.size))) { s with heap := s.heap.push (rO l ((items.size : Nat) - 1)) }) : wpAny (model prog w) A.in1 (Builtin.«reversed.__new__» ⟨[.type "reversed", .ref l], []⟩) (fun fin s' => match fin with | .done f => R (.ok f) s' | .again c' => c'.quiet = true ∧ codeAny (model prog w) A c' R s') (fun e s' => R (.error e) s') s := by
  have h1 := sub_rev
  have h2 : s.TypeIs (.ref l) "list" := ⟨_, hl, rfl⟩
  have h3 := F.slot_list_reversed.lookup
  have h4 := F.slot_list_reversed.bind (.ref l)
  unfold Builtin.«reversed.__new__»
  repeat (any_goals (first | assumption | wp_step))
  have hc : codeAny (model prog w) A.in1 (.call (.builtin "list.__reversed__") ⟨[.ref l], []⟩) (fun r s' => r = .ok (.ret (.ref s.heap.objs.size)) ∧ s' = { s with heap := s.heap.push (rO l ((items.size : Nat) - 1)) }) s :=
    codeAny_call_builtin F.slot_list_reversed.plain F.entry_list_reversed (F.slot_list_reversed.check _ _ _ _ _ _ _ _ h2 (F.args_list_reversed_1 _) (rev_meets l items n dd sl prog w A.in1 (fun r s' => r = .ok (.ret (.ref s.heap.objs.size)) ∧ s' = { s with heap := s.heap.push (rO l ((items.size : Nat) - 1)) }) s ⟨hl, rfl, rfl⟩))
  refine codeAny_mono hc fun r s1 hr => ?_
  obtain ⟨rfl, rfl⟩ := hr
  exact wpAny_pure q
theorem call_rev {l : Addr} {items : Array Value} {n : Nat} {dd : Option Addr} {sl : Array (Option Value)} {Q : Value → Shared → Prop} (hl : s.heap.get? l = some { cls := .type "list", dict := dd, data := .seq items n, slots := sl })
    (q : Q (.ref s.heap.objs.size) { s with heap := s.heap.push (rO l ((items.size : Nat) - 1)) }) : wpAny (model prog w) A (call (.type "reversed") [.ref l]) Q E s := by
  have hmro := mro_rev
  have hmade := made_rev
  have hsub := not_rev
  have h1 : (Value.type "reversed" == Value.type "type") = false := by decide
  have h2 := can_rev
  have hct := ty_call (.ref l)
  refine wpAny_call (codeAny_of_tree ?_)
  show wpAny _ _ (callAny (.type "reversed") _) _ _ _
  refine wpAny_pure ⟨Code.quiet_builtin _ (by decide +kernel), codeAny_builtin F.entry_type_call ?_⟩
  rw [Around.under_plain (weight_type_call_type "reversed" [.ref l] []) (units_type_call_type "reversed" [.ref l] [])]
  repeat (any_goals (first | assumption | wp_step))
  have hc : codeAny (model prog w) A.in1 (.call (.builtin "reversed.__new__") ⟨[.type "reversed", .ref l], []⟩) (fun r s' => r = .ok (.ret (.ref s.heap.objs.size)) ∧ s' = { s with heap := s.heap.push (rO l ((items.size : Nat) - 1)) }) s :=
    codeAny_call_builtin plain_new entry_new (wpAny_of_eq (new_call _) (new_w (R := fun r s' => r = .ok (.ret (.ref s.heap.objs.size)) ∧ s' = { s with heap := s.heap.push (rO l ((items.size : Nat) - 1)) }) hl ⟨rfl, rfl⟩))
  refine codeAny_mono hc fun r s1 hr => ?_
  obtain ⟨rfl, rfl⟩ := hr
  have ht : Shared.TypeIs { s with heap := s.heap.push (rO l ((items.size : Nat) - 1)) } (.ref s.heap.objs.size) "list_reverseiterator" := ⟨_, Heap.get?_push_size _ rfl, rfl⟩
  repeat (any_goals (first | assumption | wp_step))
theorem slot_next : Slot "list_reverseiterator" "__next__" "list_reverseiterator.__next__" := .of (owner := "list_reverseiterator") (n := "__next__") (by rw [typeLookup_type, builtinLookup_eq_fast]; kernel_rfl) (by decide +kernel) (by decide +kernel) (by decide +kernel) (.inl (by decide +kernel)) (by rw [isSubtype_type]; kernel_rfl)
theorem slot_iter : Slot "list_reverseiterator" "__iter__" "list_reverseiterator.__iter__" := .of (owner := "list_reverseiterator") (n := "__iter__") (by rw [typeLookup_type, builtinLookup_eq_fast]; kernel_rfl) (by decide +kernel) (by decide +kernel) (by decide +kernel) (.inl (by decide +kernel)) (by rw [isSubtype_type]; kernel_rfl)
theorem entry_next : entryFor table "list_reverseiterator.__next__" = some Builtin.«list_reverseiterator.__next__» := entryFor_of_tree (by kernel_rfl)
theorem entry_iter : entryFor table "list_reverseiterator.__iter__" = some Builtin.«dict_keyiterator.__iter__» :=
  entryFor_alias (id' := "dict_keyiterator.__iter__") (by kernel_rfl) (by first | rfl | decide +kernel | (unfold String.splitOn; simp +decide [String.splitOnAux])) (by decide +kernel) (by kernel_rfl)
theorem args_next (a : Value) : argsOk "list_reverseiterator.__next__" ⟨[a], []⟩ := by unfold argsOk; kernel_rfl
theorem args_iter (a : Value) : argsOk "list_reverseiterator.__iter__" ⟨[a], []⟩ := by unfold argsOk; kernel_rfl
theorem nolen : typeLookup (.type "list_reverseiterator") "__len__" = pure none := by rw [typeLookup_type, builtinLookup_eq_fast]; kernel_rfl
theorem hint : typeLookup (.type "list_reverseiterator") "__length_hint__" = pure (some (.builtin "list_reverseiterator.__length_hint__")) := by rw [typeLookup_type, builtinLookup_eq_fast]; kernel_rfl
theorem nx_item {it l : Addr} {i : Nat} {xs : Array Value} {x : Value} {Q : Option Value → Shared → Prop} (hi : s.heap.get? it = some (rO l i)) (hl : s.heap.IsList l xs) (hx : xs[i]? = some x)
    (q : ∀ h', h'.get? it = some (rO l ((i : Int) - 1)) → Heap.SameBut it s.heap h' → Q (some x) { s with heap := h' }) : wpAny (model prog w) A (pyNext (.ref it)) Q E s := by
  have ty : s.TypeIs (.ref it) "list_reverseiterator" := ⟨_, hi, rfl⟩
  obtain ⟨oq, hoq, _, nq, hdq⟩ := hl
  unfold pyNext
  refine wpAny_bind (wpAny_attempt (wpAny_callSpecial?_slot (name := Str.ofString "__next__") ty slot_next (wpAny_call_entry slot_next ty entry_next ?_ (args_next _))))
  refine wpAny_bind (m := field (.ref it) 1) (wpAny_field hi rfl (x := .int i 0) rfl ?_)
  dsimp only
  rw [if_neg (show ¬ ((i : Int) < 0) by omega)]
  refine wpAny_bind (m := field (.ref it) 0) (wpAny_field hi rfl (x := .ref l) rfl ?_)
  refine wpAny_bind (m := seqItems? (.ref l)) (wpAny_seqItems hoq hdq ?_)
  simp only [Int.toNat_natCast, hx]
  refine wpAny_bind (wpAny_setField_rec hi (by simp) fun h' e' s' => wpAny_pure ⟨x, rfl, wpAny_pure (q h' e' s')⟩)
theorem nx_end {it l : Addr} {Q : Option Value → Shared → Prop} (hn : A.handled = none) (hi : s.heap.get? it = some (rO l (-1)))
    (q : ∀ h', (∀ b o, s.heap.get? b = some o → h'.get? b = some o) → Q none { s with heap := h' }) : wpAny (model prog w) A (pyNext (.ref it)) Q E s := by
  have ty : s.TypeIs (.ref it) "list_reverseiterator" := ⟨_, hi, rfl⟩
  unfold pyNext
  refine wpAny_bind (wpAny_attempt (wpAny_callSpecial?_slot (name := Str.ofString "__next__") ty slot_next (wpAny_call_entry slot_next ty entry_next ?_ (args_next _))))
  refine wpAny_bind (m := field (.ref it) 1) (wpAny_field hi rfl (x := .int (-1) 0) rfl ?_)
  dsimp only
  rw [if_pos (show (-1 : Int) < 0 by omega)]
  refine wpAny_bind (wpAny_rule (wpAny_bind ?_))
  unfold Builtin.SmallTypes.stopIteration
  refine wpAny_bind (m := newExc (.type "StopIteration") []) ?_
  simp only [newExc, newTuple]
  refine wpAny_bind (wpAny_newObj_type ?_ (by size_fits))
  refine wpAny_bind (m := firstArgMember _ _) (wpAny_of_eq (a := Value.none) (by first | rfl | (simp only [firstArgMember]; rfl)) (wpAny_newObj_type ?_ (by size_fits)))
  simp only [raiseNew]
  refine wpAny_bind (wpAny_handled ?_)
  first | rw [show A.in1.handled = none from hn] | rw [hn]
  refine wpAny_bind (wpAny_pure (wpAny_throw ?_))
  exact wpAny_bind (wpAny_isInstance (T := "StopIteration") (b := true) ⟨_, Heap.get?_push_size _ rfl, rfl⟩ isSubtype_stop (wpAny_pure (q _ fun b o e => Heap.get?_push_of_some _ (Heap.get?_push_of_some _ e))))
theorem it_self {it l : Addr} {i : Int} {Q : Value → Shared → Prop} (hi : s.heap.get? it = some (rO l i)) (h : Q (.ref it) s) : wpAny (model prog w) A (pyIter (.ref it)) Q E s := by
  have ty : s.TypeIs (.ref it) "list_reverseiterator" := ⟨_, hi, rfl⟩
  refine wpAny_pyIter_slot ty slot_iter (wpAny_call_entry slot_iter ty entry_iter ?_ (args_iter _))
  exact wpAny_pure ⟨_, rfl, "list_reverseiterator", _, ty, slot_next.lookup, h⟩
theorem walk (hn : A.handled = none) (it l : Addr) (hne : l ≠ it) (xs : Array Value) :
    Walks prog w A it [it, l] [it] xs.size (fun i v => xs[xs.size - 1 - i]? = some v) (fun i h => h.get? it = some (rO l ((xs.size : Int) - 1 - i)) ∧ h.IsList l xs) where
  sub := fun b hb => by simp at hb; simp [hb]
  frame := fun _ _ _ st k => ⟨k it (by simp) _ st.1, st.2.at fun o e => k l (by simp) o e⟩
  item := fun i s Q E hi st q => by
    have e : (xs.size : Int) - 1 - i = ((xs.size - 1 - i : Nat) : Int) := by omega
    have e2 : (xs.size : Int) - 1 - ((i + 1 : Nat) : Int) = ((xs.size - 1 - i : Nat) : Int) - 1 := by omega
    refine nx_item (i := xs.size - 1 - i) (x := xs[xs.size - 1 - i]) (by rw [← e]; exact st.1) st.2 (by simp) fun h' e' s' => ?_
    exact q _ h' s.toks (by simp) ⟨by rw [e2]; exact e', st.2.extBut s'.extBut hne⟩ fun b o hb x => s'.extBut b o (fun z => hb (by simp [z])) x
  done := fun s Q E st q => by
    have e : (xs.size : Int) - 1 - (xs.size : Nat) = -1 := by omega
    exact nx_end hn (by rw [← e]; exact st.1) fun h' k => q h' s.toks fun b o _ x => k b o x
  self := fun i s Q E st q => it_self st.1 q
open Builtin.List in
theorem ext_w {it S : Addr} {fp wr : List Addr} {G : Array GenState → Array GenState → Prop} {n : Nat} {P : Nat → Value → Prop} {St : Nat → Shared → Prop} {R : Result → Shared → Prop} (W : WalksS prog w A.in1 it fp wr G n P St) (hT : ∀ i s, St i s → s.TypeIs (.ref it) "list_reverseiterator") (res : Value) {c : Nat} (st : St 0 s) (hSf : S ∉ fp) (hI : it ∈ fp)
    (hS : s.heap.get? S = some { cls := .type "list", data := .seq #[] c }) (hz : n ≤ sizeLine)
    (q : ∀ s' acc' c', Moved (S :: wr) G s s' → s'.heap.get? S = some { cls := .type "list", dict := none, data := .seq acc' c', slots := #[] } → ItemsOf P acc' n → R (.ok (.ret res)) s') :
    wpAny (model prog w) A.in1 (listExtendWith (.ref S) (.ref it) res) (fun fin s' => match fin with | .done f => R (.ok f) s' | .again c' => c'.quiet = true ∧ codeAny (model prog w) A c' R s') (fun e s' => R (.error e) s') s := by
  have hSI : S ≠ it := fun e => hSf (e ▸ hI)
  have h1 : listSameRef (.ref S) (.ref it) = false := by simp [listSameRef, hSI]
  unfold listExtendWith
  refine wpAny_bind (wpAny_typeOf (hT 0 _ st) ?_)
  rw [if_neg (by rw [h1]; decide)]
  refine wpAny_bind (W.self 0 _ _ _ st (wpAny_bind (wpAny_holding ?_)))
  unfold listLengthHint
  refine wpAny_bind (wpAny_specialOf (hT 0 _ st) nolen ?_)
  refine wpAny_bind (m := specialOf (Value.ref it) (Str.ofString "__length_hint__")) (wpAny_specialOf (hT 0 _ st) hint ?_)
  generalize hid : ("list_reverseiterator.__length_hint__" : String) = id0
  (fail_if_success (clear hid id0)); wp_delta
  rw [show splitId id0 = some ("list_reverseiterator", "__length_hint__") from by subst hid; decide +kernel]
  subst hid
  refine wpAny_bind (wpAny_isInstance (b := true) (hT 0 _ st) (by rw [isSubtype_type]; kernel_rfl) (wpAny_pure ?_))
  rw [if_neg (by decide)]
  exact wpAny_pure ⟨plainId_quiet F.plain_extend_loop _, codeAny_extend_loopS W hz _ hSf _ n 0 _ _ _ rfl (Nat.zero_le _) st hS (ItemsOf.nil P) q⟩
theorem list_of {it l : Addr} {xs : Array Value} {Q : Value → Shared → Prop} (hn : A.handled = none) (hne : l ≠ it) (hi : s.heap.get? it = some (rO l ((xs.size : Int) - 1))) (hl : s.heap.IsList l xs) (hz : xs.size ≤ sizeLine)
    (q : ∀ h' tk acc c', (∀ b o, b ≠ it → s.heap.get? b = some o → h'.get? b = some o) → h'.get? s.heap.objs.size = some { cls := .type "list", dict := none, data := .seq acc c', slots := #[] } → acc = xs.reverse → Q (.ref s.heap.objs.size) { s with heap := h', toks := tk }) :
    wpAny (model prog w) A (call (.type "list") [.ref it]) Q E s := by
  have W := (walk (prog := prog) (w := w) (A := A.in1.in1) hn it l hne xs).toS
  have hSf : s.heap.objs.size ∉ [it, l] := fun hm => by
    simp only [List.mem_cons, List.not_mem_nil, or_false] at hm
    rcases hm with e | e
    · exact absurd (e ▸ Heap.lt_size hi) (Nat.lt_irrefl _)
    · obtain ⟨o, ho, _⟩ := hl; exact absurd (e ▸ Heap.lt_size ho) (Nat.lt_irrefl _)
  have st0 : s.heap.get? it = some (rO l ((xs.size : Int) - 1 - (0 : Nat))) ∧ s.heap.IsList l xs := ⟨by simpa using hi, hl⟩
  refine callType_codes (Q₁ := fun obj s₁ => obj = .ref s.heap.objs.size ∧ s₁ = { s with heap := s.heap.push { cls := .type "list", data := .seq #[] } }) F.called_list (F.typeCall_list_1 _) F.entry_list_init (code_list_new _ ⟨rfl, rfl⟩) fun obj s₁ h₁ => ?_
  obtain ⟨rfl, rfl⟩ := h₁
  have hS : (s.heap.push { cls := .type "list", data := .seq #[] }).get? s.heap.objs.size = some { cls := .type "list", data := .seq #[] } := Heap.get?_push_size _ rfl
  refine ⟨⟨_, hS, rfl⟩, F.args_list_init_2 _ _, ?_⟩
  show wpAny _ _ (do let old ← Builtin.List.listItems (.ref s.heap.objs.size); Builtin.List.listUpdate (.ref s.heap.objs.size) (fun _ => #[]); letGo old.toList.reverse; Builtin.List.listExtendWith (.ref s.heap.objs.size) (.ref it) .none) _ _ _
  refine wpAny_bind ?_
  unfold Builtin.List.listItems
  refine wpAny_bind (wpAny_seqItems hS rfl (wpAny_pure (wpAny_bind (m := updateSeq s.heap.objs.size (fun _ => #[])) (wpAny_updateSeq hS rfl (wpAny_bind (wpAny_letGo ?_))))))
  have hS2 := Heap.get?_update_self (Obj.mapSeq (fun _ => (#[] : Array Value))) hS rfl
  have oth : ∀ b o, b ≠ s.heap.objs.size → (s.heap.push { cls := .type "list", data := .seq #[] }).get? b = some o → ((s.heap.push { cls := .type "list", data := .seq #[] }).update s.heap.objs.size (Obj.mapSeq (fun _ => (#[] : Array Value)))).get? b = some o := fun b o hb e => (Heap.get?_update_other _ _ (Ne.symm hb)).trans e
  have st1 := W.frame 0 s _ s.toks st0 (Nat.le_refl _) fun b hb o e => oth b o (fun z => hSf (z ▸ hb)) (Heap.get?_push_of_some _ e)
  refine ext_w W (fun i s st => ⟨_, st.1, rfl⟩) .none st1 hSf (by simp) hS2 hz fun s' acc c' hm hS' ha => ?_
  refine ⟨rfl, ?_⟩
  have hm2 := hm.eq_with
  rw [hm2]
  refine q _ _ acc c' (fun b o hb e => ?_) hS' ?_
  · exact hm.heap b o (fun z => by
      simp only [List.mem_cons, List.not_mem_nil, or_false] at z
      rcases z with z | z
      · exact absurd (z ▸ Heap.lt_size e) (Nat.lt_irrefl _)
      · exact hb z) (oth b o (fun z => absurd (z ▸ Heap.lt_size e) (Nat.lt_irrefl _)) (Heap.get?_push_of_some _ e))
  · obtain ⟨h1, h2⟩ := ha
    apply Array.ext (by simp [h1])
    intro j j1 j2
    have e1 : xs[xs.size - 1 - j]? = some acc[j] := h2 j acc[j] (Array.getElem?_eq_getElem j1)
    rw [Array.getElem_reverse]
    have e3 : xs[xs.size - 1 - j]? = some (xs[xs.size - 1 - j]'(by omega)) := Array.getElem?_eq_getElem (by omega)
    rw [e3] at e1
    exact (Option.some.inj e1).symm
end
end Rv
open PySem PySem.Spec PyProof.Rows
section
variable {X : Cx}
/-- list(reversed(a list)) -/
theorem pe_lrev {e : Expr} {te : TE} {p p2 pos pos2 : Pos} (hc : X.calm = true) (he : PE X e te) (hg : Gl X "list") (hm : X.mg "list" = none) (hg2 : Gl X "reversed") (hm2 : X.mg "reversed" = none)
    (hs : starEach [e] X.env = [(false, eval e X.env)]) :
    PE X (.Call (.Name "list" p) [.Call (.Name "reversed" p2) [e] [] pos2] [] pos) (fun σ H Q => te σ H fun x H1 => ∃ a xs, x = .ref a ∧ SqL X.K H1 a xs ∧ ∀ q, H1 q = none → Q (.ref q) (upd H1 q (.lst xs.reverse))) := by
  intro pins s σ H Q I h
  refine wpAny_Call_Name_kw (ld_blt I hg hm (u := .type "list") (by decide +kernel) ?_ (by decide) (by decide))
  refine PyProof.Rows.callWith_type1 ?_ rfl rfl
  refine Calls.spliced_cons ?_
  refine wpAny_Call_Name_kw (ld_blt I hg2 hm2 (u := .type "reversed") boot_reversed ?_ (by decide) (by decide))
  refine PyProof.Rows.callWith_type1 ?_ (by rw [hs]; rfl) rfl
  rw [hs]
  refine Calls.spliced_cons (thn (he pins s σ H _ I h) fun u s1 ⟨x, H1, I1, r1, q1⟩ => ?_)
  obtain ⟨a, xs, rfl, sq, q⟩ := q1
  cases r1
  refine Calls.spliced_nil ?_
  obtain ⟨its, rv, pl, hz⟩ := I1.list sq
  have hlen := rv.length
  have il := pl.isList
  obtain ⟨⟨cls, dd, dat, sl⟩, n, e1, hcl, hdc, hda⟩ := pl
  dsimp only at hcl hdc hda
  subst hcl hda
  refine Rv.call_rev e1 (Calls.spliced_nil ?_)
  have lt : a < s1.heap.objs.size := Heap.lt_size e1
  have sz : its.toArray.size = its.length := List.size_toArray
  refine Rv.list_of (s := { s1 with heap := s1.heap.push (Rv.rO a ((its.toArray.size : Nat) - 1)) }) (l := a) (xs := its.toArray) (I.ok.hd hc) (Nat.ne_of_lt lt) (Heap.get?_push_size _ rfl) (il.push _) (by rw [sz, ← hlen]; exact hz) fun h' tk acc c' kp e' ha => ?_
  have e2 : (s1.heap.push (Rv.rO a ((its.toArray.size : Nat) - 1))).objs.size = s1.heap.objs.size + 1 := Heap.size_push ..
  have kp' : ∀ b o, s1.heap.get? b = some o → h'.get? b = some o := fun b o e => kp b o (Nat.ne_of_lt (Heap.lt_size e)) (Heap.get?_push_of_some _ e)
  subst ha
  refine ⟨.ref (s1.heap.push (Rv.rO a ((its.toArray.size : Nat) - 1))).objs.size, _, I1.laid (t' := tk) (o := .lst xs.reverse) kp' (by rw [e2]; omega) ?_, rfl, q _ (I1.hok.fresh (by rw [e2]; omega))⟩
  refine ⟨by rw [List.length_reverse]; exact hz, its.reverse, c', rv.reverse, ?_⟩
  rw [List.reverse_toArray] at e'
  exact e'
end
end L2
namespace L2
namespace Mi
open PySem PySem.Spec PyProof.Rows

/-! ### values: tuples (and lists that never change) by value, other objects by their address -/
inductive D where
  | non | bl (b : Bool) | int (i : Int) | str (x : Str) | tup (ds : List D) | con (ds : List D) | ref (a : Addr)
inductive O where
  | lst (ds : List D)
  | dct (t : Bool) (kvs : List (D × D))
abbrev Mem := Addr → Option O
abbrev EnvD := List (Option D)
def updM (M : Mem) (a : Addr) (o : O) : Mem := fun b => if b = a then some o else M b
theorem updM_same {M : Mem} {a : Addr} {o : O} : updM M a o a = some o := by unfold updM; rw [if_pos rfl]
theorem updM_ne {M : Mem} {a b : Addr} {o : O} (h : b ≠ a) : updM M a o b = M b := by unfold updM; rw [if_neg h]

/-- a list that stays as it is: the script, or one of the module's -/
def SqF (K : PySem.W.Frag) (H : Hp) (a : Addr) (xs : List V) : Prop :=
  (∃ o, H a = some (.frz o (.lst xs))) ∨
    ∃ (o : Obj) (its : Array Value) (n : Nat), K.lookup a = some o ∧ o.cls = .type "list" ∧ o.dict = none ∧ o.data = .seq its n ∧ its.size ≤ sizeLine ∧ Vals xs its.toList
theorem SqF.sq {K : PySem.W.Frag} {H : Hp} {a : Addr} {xs : List V} (h : SqF K H a xs) : SqL K H a xs := by
  rcases h with ⟨o, h⟩ | h
  · exact .inl (.inr ⟨o, h⟩)
  · exact .inr h

mutual
def RD (K : PySem.W.Frag) (H : Hp) : D → V → Prop
  | .non, v => v = .non
  | .bl b, v => v = .bl b
  | .int i, v => v = .int i
  | .str x, v => v = .str x
  | .tup ds, v => ∃ a vs, v = .ref a ∧ H a = some (.tup vs) ∧ RDs K H ds vs
  | .con ds, v => ∃ a vs, v = .ref a ∧ SqF K H a vs ∧ RDs K H ds vs
  | .ref a, v => v = .ref a
def RDs (K : PySem.W.Frag) (H : Hp) : List D → List V → Prop
  | [], vs => vs = []
  | d :: ds, vs => ∃ v r, vs = v :: r ∧ RD K H d v ∧ RDs K H ds r
end

/-- tuples and frozen things are kept -/
structure Stab (H H' : Hp) : Prop where
  tup : ∀ a xs, H a = some (.tup xs) → H' a = some (.tup xs)
  frz : ∀ a o u, H a = some (.frz o u) → H' a = some (.frz o u)
theorem Stab.sqF {K : PySem.W.Frag} {H H' : Hp} (st : Stab H H') {a : Addr} {xs : List V} (h : SqF K H a xs) : SqF K H' a xs := by
  rcases h with ⟨o, h⟩ | h
  · exact .inl ⟨o, st.frz _ _ _ h⟩
  · exact .inr h
mutual
theorem RD.mono {K : PySem.W.Frag} {H H' : Hp} (st : Stab H H') : ∀ {d : D} {v : V}, RD K H d v → RD K H' d v
  | .non, _, h => h
  | .bl _, _, h => h
  | .int _, _, h => h
  | .str _, _, h => h
  | .tup ds, v, h => by
    unfold RD at h ⊢
    obtain ⟨a, vs, e, q, r⟩ := h
    exact ⟨a, vs, e, st.tup _ _ q, RDs.mono st r⟩
  | .con ds, v, h => by
    unfold RD at h ⊢
    obtain ⟨a, vs, e, q, r⟩ := h
    exact ⟨a, vs, e, st.sqF q, RDs.mono st r⟩
  | .ref _, _, h => h
theorem RDs.mono {K : PySem.W.Frag} {H H' : Hp} (st : Stab H H') : ∀ {ds : List D} {vs : List V}, RDs K H ds vs → RDs K H' ds vs
  | [], _, h => h
  | d :: ds, vs, h => by
    unfold RDs at h ⊢
    obtain ⟨v, r, e, h1, h2⟩ := h
    exact ⟨v, r, e, RD.mono st h1, RDs.mono st h2⟩
end

section
variable {K : PySem.W.Frag} {H H' : Hp}
theorem RD.int_iff {i : Int} {v : V} : RD K H (.int i) v ↔ v = .int i := by unfold RD; exact Iff.rfl
theorem RD.bl_iff {b : Bool} {v : V} : RD K H (.bl b) v ↔ v = .bl b := by unfold RD; exact Iff.rfl
theorem RD.non_iff {v : V} : RD K H .non v ↔ v = .non := by unfold RD; exact Iff.rfl
theorem RD.str_iff {x : Str} {v : V} : RD K H (.str x) v ↔ v = .str x := by unfold RD; exact Iff.rfl
theorem RD.ref_iff {a : Addr} {v : V} : RD K H (.ref a) v ↔ v = .ref a := by unfold RD; exact Iff.rfl
theorem RD.tup_iff {ds : List D} {v : V} : RD K H (.tup ds) v ↔ ∃ a vs, v = .ref a ∧ H a = some (.tup vs) ∧ RDs K H ds vs := by rw [RD]
theorem RD.con_iff {ds : List D} {v : V} : RD K H (.con ds) v ↔ ∃ a vs, v = .ref a ∧ SqF K H a vs ∧ RDs K H ds vs := by rw [RD]
theorem RDs.nil_iff {vs : List V} : RDs K H [] vs ↔ vs = [] := by rw [RDs]
theorem RDs.cons_iff {d : D} {ds : List D} {vs : List V} : RDs K H (d :: ds) vs ↔ ∃ v r, vs = v :: r ∧ RD K H d v ∧ RDs K H ds r := by rw [RDs]
theorem RDs.nil : RDs K H [] [] := RDs.nil_iff.mpr rfl
theorem RDs.cons {d : D} {ds : List D} {v : V} {vs : List V} (h : RD K H d v) (r : RDs K H ds vs) : RDs K H (d :: ds) (v :: vs) := RDs.cons_iff.mpr ⟨v, vs, rfl, h, r⟩
theorem RDs.length : ∀ {ds : List D} {vs : List V}, RDs K H ds vs → vs.length = ds.length
  | [], _, h => by rw [RDs.nil_iff.mp h]; rfl
  | d :: ds, _, h => by
    obtain ⟨v, r, rfl, _, h2⟩ := RDs.cons_iff.mp h
    simp [RDs.length h2]
theorem RDs.get : ∀ {ds : List D} {vs : List V} {i : Nat} {d : D}, RDs K H ds vs → ds[i]? = some d → ∃ v, vs[i]? = some v ∧ RD K H d v
  | [], _, _, _, _, e => by simp at e
  | d :: ds, _, 0, d', h, e => by
    obtain ⟨v, r, rfl, h1, h2⟩ := RDs.cons_iff.mp h
    simp at e; subst e
    exact ⟨v, rfl, h1⟩
  | d :: ds, _, i + 1, d', h, e => by
    obtain ⟨v, r, rfl, h1, h2⟩ := RDs.cons_iff.mp h
    obtain ⟨u, q1, q2⟩ := RDs.get (i := i) (d := d') h2 (by simpa using e)
    exact ⟨u, by simpa using q1, q2⟩
theorem RDs.getV {ds : List D} {vs : List V} {i : Nat} {v : V} (h : RDs K H ds vs) (e : vs[i]? = some v) : ∃ d, ds[i]? = some d ∧ RD K H d v := by
  have hl := h.length
  have hi : i < vs.length := (List.getElem?_eq_some_iff.mp e).1
  obtain ⟨d, hd⟩ : ∃ d, ds[i]? = some d := ⟨ds[i]'(by omega), List.getElem?_eq_getElem (by omega)⟩
  obtain ⟨u, q1, q2⟩ := h.get hd
  rw [e] at q1; cases q1
  exact ⟨d, hd, q2⟩
theorem RDs.append : ∀ {ds es : List D} {vs us : List V}, RDs K H ds vs → RDs K H es us → RDs K H (ds ++ es) (vs ++ us)
  | [], _, _, _, h, q => by rw [RDs.nil_iff.mp h]; exact q
  | d :: ds, _, _, _, h, q => by
    obtain ⟨v, r, rfl, h1, h2⟩ := RDs.cons_iff.mp h
    exact RDs.cons h1 (RDs.append h2 q)
theorem RDs.take : ∀ {ds : List D} {vs : List V} (n : Nat), RDs K H ds vs → RDs K H (ds.take n) (vs.take n)
  | [], _, n, h => by rw [RDs.nil_iff.mp h]; simp; exact RDs.nil
  | _ :: _, _, 0, h => by simp; exact RDs.nil
  | d :: ds, _, n + 1, h => by
    obtain ⟨v, r, rfl, h1, h2⟩ := RDs.cons_iff.mp h
    exact RDs.cons h1 (RDs.take n h2)
theorem RDs.drop : ∀ {ds : List D} {vs : List V} (n : Nat), RDs K H ds vs → RDs K H (ds.drop n) (vs.drop n)
  | [], _, n, h => by rw [RDs.nil_iff.mp h]; simp; exact RDs.nil
  | d :: ds, _, 0, h => h
  | d :: ds, _, n + 1, h => by
    obtain ⟨v, r, rfl, h1, h2⟩ := RDs.cons_iff.mp h
    exact RDs.drop n h2
theorem RDs.set : ∀ {ds : List D} {vs : List V} (n : Nat) {d : D} {v : V}, RD K H d v → RDs K H ds vs → RDs K H (ds.set n d) (vs.set n v)
  | [], _, n, _, _, _, h => by rw [RDs.nil_iff.mp h]; exact RDs.nil
  | d :: ds, _, 0, _, _, q, h => by
    obtain ⟨v, r, rfl, h1, h2⟩ := RDs.cons_iff.mp h
    exact RDs.cons q h2
  | d :: ds, _, n + 1, _, _, q, h => by
    obtain ⟨v, r, rfl, h1, h2⟩ := RDs.cons_iff.mp h
    exact RDs.cons h1 (RDs.set n q h2)
theorem RDs.reverse {ds : List D} {vs : List V} (h : RDs K H ds vs) : RDs K H ds.reverse vs.reverse := by
  induction ds generalizing vs with
  | nil => rw [RDs.nil_iff.mp h]; exact RDs.nil
  | cons d ds ih =>
    obtain ⟨v, r, rfl, h1, h2⟩ := RDs.cons_iff.mp h
    rw [List.reverse_cons, List.reverse_cons]
    exact (ih h2).append (RDs.cons h1 RDs.nil)
theorem RDs.rep {ds : List D} {vs : List V} (h : RDs K H ds vs) : ∀ k : Nat, RDs K H (List.replicate k ds).flatten (List.replicate k vs).flatten
  | 0 => RDs.nil
  | k + 1 => by
    rw [List.replicate_succ, List.replicate_succ, List.flatten_cons, List.flatten_cons]
    exact h.append (h.rep k)
theorem RDs.ints : ∀ (ns : List Int), RDs K H (ns.map D.int) (ns.map V.int)
  | [] => RDs.nil
  | n :: ns => RDs.cons (RD.int_iff.mpr rfl) (RDs.ints ns)
end

/-! ### equality of values, sign by sign -/
mutual
def D.eqb : D → D → Bool
  | .non, .non => true
  | .bl a, .bl b => a == b
  | .int a, .int b => decide (a = b)
  | .str a, .str b => decide (a = b)
  | .tup a, .tup b => D.eqbs a b
  | .con a, .con b => D.eqbs a b
  | .ref a, .ref b => decide (a = b)
  | _, _ => false
def D.eqbs : List D → List D → Bool
  | [], [] => true
  | a :: r, b :: s => D.eqb a b && D.eqbs r s
  | _, _ => false
end
mutual
theorem D.eqb_eq : ∀ (a b : D), D.eqb a b = true → a = b
  | .non, .non, _ => rfl
  | .bl a, .bl b, h => by simp [D.eqb] at h; rw [h]
  | .int a, .int b, h => by simp [D.eqb] at h; rw [h]
  | .str a, .str b, h => by simp [D.eqb] at h; rw [h]
  | .tup a, .tup b, h => by simp [D.eqb] at h; rw [D.eqbs_eq a b h]
  | .con a, .con b, h => by simp [D.eqb] at h; rw [D.eqbs_eq a b h]
  | .ref a, .ref b, h => by simp [D.eqb] at h; rw [h]
  | .non, .bl _, h => by simp [D.eqb] at h
  | .non, .int _, h => by simp [D.eqb] at h
  | .non, .str _, h => by simp [D.eqb] at h
  | .non, .tup _, h => by simp [D.eqb] at h
  | .non, .con _, h => by simp [D.eqb] at h
  | .non, .ref _, h => by simp [D.eqb] at h
  | .bl _, .non, h => by simp [D.eqb] at h
  | .bl _, .int _, h => by simp [D.eqb] at h
  | .bl _, .str _, h => by simp [D.eqb] at h
  | .bl _, .tup _, h => by simp [D.eqb] at h
  | .bl _, .con _, h => by simp [D.eqb] at h
  | .bl _, .ref _, h => by simp [D.eqb] at h
  | .int _, .non, h => by simp [D.eqb] at h
  | .int _, .bl _, h => by simp [D.eqb] at h
  | .int _, .str _, h => by simp [D.eqb] at h
  | .int _, .tup _, h => by simp [D.eqb] at h
  | .int _, .con _, h => by simp [D.eqb] at h
  | .int _, .ref _, h => by simp [D.eqb] at h
  | .str _, .non, h => by simp [D.eqb] at h
  | .str _, .bl _, h => by simp [D.eqb] at h
  | .str _, .int _, h => by simp [D.eqb] at h
  | .str _, .tup _, h => by simp [D.eqb] at h
  | .str _, .con _, h => by simp [D.eqb] at h
  | .str _, .ref _, h => by simp [D.eqb] at h
  | .tup _, .non, h => by simp [D.eqb] at h
  | .tup _, .bl _, h => by simp [D.eqb] at h
  | .tup _, .int _, h => by simp [D.eqb] at h
  | .tup _, .str _, h => by simp [D.eqb] at h
  | .tup _, .con _, h => by simp [D.eqb] at h
  | .tup _, .ref _, h => by simp [D.eqb] at h
  | .con _, .non, h => by simp [D.eqb] at h
  | .con _, .bl _, h => by simp [D.eqb] at h
  | .con _, .int _, h => by simp [D.eqb] at h
  | .con _, .str _, h => by simp [D.eqb] at h
  | .con _, .tup _, h => by simp [D.eqb] at h
  | .con _, .ref _, h => by simp [D.eqb] at h
  | .ref _, .non, h => by simp [D.eqb] at h
  | .ref _, .bl _, h => by simp [D.eqb] at h
  | .ref _, .int _, h => by simp [D.eqb] at h
  | .ref _, .str _, h => by simp [D.eqb] at h
  | .ref _, .tup _, h => by simp [D.eqb] at h
  | .ref _, .con _, h => by simp [D.eqb] at h
theorem D.eqbs_eq : ∀ (a b : List D), D.eqbs a b = true → a = b
  | [], [], _ => rfl
  | a :: r, b :: s, h => by
    simp [D.eqbs] at h
    rw [D.eqb_eq a b h.1, D.eqbs_eq r s h.2]
  | [], _ :: _, h => by simp [D.eqbs] at h
  | _ :: _, [], h => by simp [D.eqbs] at h
end
mutual
theorem D.eqb_refl : ∀ (a : D), D.eqb a a = true
  | .non => rfl
  | .bl _ => by simp [D.eqb]
  | .int _ => by simp [D.eqb]
  | .str _ => by simp [D.eqb]
  | .tup a => by simp [D.eqb, D.eqbs_refl a]
  | .con a => by simp [D.eqb, D.eqbs_refl a]
  | .ref _ => by simp [D.eqb]
theorem D.eqbs_refl : ∀ (a : List D), D.eqbs a a = true
  | [] => rfl
  | a :: r => by simp [D.eqbs, D.eqb_refl a, D.eqbs_refl r]
end
instance : DecidableEq D := fun a b => if h : D.eqb a b = true then isTrue (D.eqb_eq a b h) else isFalse fun e => h (by rw [e]; exact D.eqb_refl b)

/-! ### dicts of values: their keys are ints and texts, or tuples of these -/
def RKey : D → Key → Prop
  | .int i, k => k = .inl i
  | .str x, k => k = .inr x
  | _, _ => False
def RKeys : D → List Key → Prop
  | .tup ds, ks => Paired RKey ds ks
  | _, _ => False
def dget (kvs : List (D × D)) (k : D) : Option D := (kvs.find? fun p => decide (p.1 = k)).map (·.2)
def dput (kvs : List (D × D)) (k v : D) : List (D × D) := if (kvs.any fun p => decide (p.1 = k)) = true then kvs.map (fun p => if p.1 = k then (p.1, v) else p) else kvs ++ [(k, v)]
def isKey : D → Bool
  | .int _ => true
  | .str _ => true
  | _ => false
def isKeyT : D → Bool
  | .tup ds => ds.all isKey
  | _ => false
def keyOk (t : Bool) (k : D) : Bool := if t then isKeyT k else isKey k
theorem key_ex {k : D} (h : isKey k = true) : ∃ q, RKey k q := by
  cases k <;> first | (simp [isKey] at h; done) | exact ⟨_, rfl⟩
theorem keys_ex : ∀ {ds : List D}, ds.all isKey = true → ∃ ks, Paired RKey ds ks
  | [], _ => ⟨[], .nil⟩
  | d :: ds, h => by
    simp only [List.all_cons, Bool.and_eq_true] at h
    obtain ⟨k, hk⟩ := key_ex h.1
    obtain ⟨ks, hs⟩ := keys_ex h.2
    exact ⟨k :: ks, .cons hk hs⟩
theorem keyT_ex {k : D} (h : isKeyT k = true) : ∃ q, RKeys k q := by
  cases k <;> first | (simp [isKeyT] at h; done) | exact keys_ex h

/-! ### the store, held by the layer's heap -/
def RO (K : PySem.W.Frag) (H : Hp) (a : Addr) : O → Prop
  | .lst ds => ∃ vs, H a = some (.lst vs) ∧ RDs K H ds vs
  | .dct false kvs => ∃ ps, H a = some (.dK ps) ∧ Paired (fun (p : D × D) (q : Key × V) => RKey p.1 q.1 ∧ RD K H p.2 q.2) kvs ps
  | .dct true kvs => ∃ ps, H a = some (.dT ps) ∧ Paired (fun (p : D × D) (q : List Key × V) => RKeys p.1 q.1 ∧ RD K H p.2 q.2) kvs ps
def RM (K : PySem.W.Frag) (M : Mem) (H : Hp) : Prop := ∀ a o, M a = some o → RO K H a o
def RS (K : PySem.W.Frag) (H : Hp) (σ : St) (ρ : EnvD) : Prop := σ.length = ρ.length ∧ ∀ (i : Nat) (d : D), ρ[i]? = some (some d) → ∃ v, σ[i]? = some (some v) ∧ RD K H d v
/-- what is not in the store is kept, and stays out of it -/
structure Ext (M : Mem) (H : Hp) (M' : Mem) (H' : Hp) : Prop where
  keep : ∀ a o, M a = none → H a = some o → H' a = some o
  new : ∀ a o, M a = none → H a = some o → M' a = none
section
variable {K : PySem.W.Frag} {M M' M'' : Mem} {H H' H'' : Hp}
theorem Ext.refl : Ext M H M H := ⟨fun _ _ _ h => h, fun _ _ h _ => h⟩
theorem Ext.trans (a : Ext M H M' H') (b : Ext M' H' M'' H'') : Ext M H M'' H'' :=
  ⟨fun c o n h => b.keep c o (a.new c o n h) (a.keep c o n h), fun c o n h => b.new c o (a.new c o n h) (a.keep c o n h)⟩
theorem RM.mut (r : RM K M H) {a : Addr} {o : O} (h : M a = some o) : ∃ ho, H a = some ho ∧ Mut (some ho) ∧ (∀ xs, ho ≠ .tup xs) ∧ ∀ ob u, ho ≠ .frz ob u := by
  have q := r a o h
  cases o with
  | lst ds =>
    obtain ⟨vs, e, _⟩ := q
    exact ⟨_, e, trivial, fun _ z => (by cases z), fun _ _ z => (by cases z)⟩
  | dct t kvs =>
    cases t with
    | false => obtain ⟨ps, e, _⟩ := q; exact ⟨_, e, trivial, fun _ z => (by cases z), fun _ _ z => (by cases z)⟩
    | true => obtain ⟨ps, e, _⟩ := q; exact ⟨_, e, trivial, fun _ z => (by cases z), fun _ _ z => (by cases z)⟩
theorem RM.out (r : RM K M H) {a : Addr} (h : H a = none) : M a = none := by
  cases e : M a with
  | none => rfl
  | some o =>
    obtain ⟨ho, q, _⟩ := r.mut e
    rw [h] at q; cases q
theorem Ext.stab (r : RM K M H) (x : Ext M H M' H') : Stab H H' where
  tup := fun a xs e => by
    refine x.keep a _ ?_ e
    cases q : M a with
    | none => rfl
    | some o =>
      obtain ⟨ho, q1, _, q2, _⟩ := r.mut q
      rw [e] at q1; cases q1
      exact absurd rfl (q2 xs)
  frz := fun a o u e => by
    refine x.keep a _ ?_ e
    cases q : M a with
    | none => rfl
    | some o' =>
      obtain ⟨ho, q1, _, _, q2⟩ := r.mut q
      rw [e] at q1; cases q1
      exact absurd rfl (q2 o u)
theorem RS.mono (st : Stab H H') {σ : St} {ρ : EnvD} (h : RS K H σ ρ) : RS K H' σ ρ :=
  ⟨h.1, fun i d e => let ⟨v, q, r⟩ := h.2 i d e; ⟨v, q, r.mono st⟩⟩
theorem RS.set {σ : St} {ρ : EnvD} (h : RS K H σ ρ) (i : Nat) {d : D} {v : V} (r : RD K H d v) : RS K H (σ.set i (some v)) (ρ.set i (some d)) := by
  refine ⟨by simp [h.1], fun j e q => ?_⟩
  by_cases hij : i = j
  · subst hij
    have hi : i < ρ.length := by
      have := (List.getElem?_eq_some_iff.mp q).1
      simpa using this
    rw [List.getElem?_set_self hi] at q
    cases q
    exact ⟨v, by rw [List.getElem?_set_self (by rw [h.1]; exact hi)], r⟩
  · rw [List.getElem?_set_ne hij] at q ⊢
    exact h.2 j e q
def inhD (fr : List (Option Nat)) (ρ : EnvD) : EnvD := fr.map fun o => o.bind fun j => (ρ[j]?).join
theorem RS.inh {σ : St} {ρ : EnvD} (h : RS K H σ ρ) (fr : List (Option Nat)) : RS K H (inh fr σ) (inhD fr ρ) := by
  refine ⟨by simp [L2.inh, inhD], fun i d e => ?_⟩
  unfold inhD at e
  unfold L2.inh
  rw [List.getElem?_map] at e ⊢
  cases q : fr[i]? with
  | none => rw [q] at e; cases e
  | some o =>
    rw [q] at e
    cases o with
    | none => cases e
    | some j =>
      have e' : some ((ρ[j]?).join) = some (some d) := e
      cases q' : ρ[j]? with
      | none => rw [q'] at e'; cases e'
      | some w =>
        rw [q'] at e'
        cases e'
        obtain ⟨v, v1, v2⟩ := h.2 j d q'
        exact ⟨v, by simp [v1], v2⟩
/-- the store's things but p are kept -/
theorem RO.mono (st : Stab H H') {a : Addr} {o : O} (h : RO K H a o) (e : ∀ ho, H a = some ho → H' a = some ho) : RO K H' a o := by
  cases o with
  | lst ds => obtain ⟨vs, q, r⟩ := h; exact ⟨vs, e _ q, r.mono st⟩
  | dct t kvs =>
    cases t with
    | false => obtain ⟨ps, q, r⟩ := h; exact ⟨ps, e _ q, Paired.mapP r fun _ _ z => ⟨z.1, z.2.mono st⟩⟩
    | true => obtain ⟨ps, q, r⟩ := h; exact ⟨ps, e _ q, Paired.mapP r fun _ _ z => ⟨z.1, z.2.mono st⟩⟩
theorem RM.new {p : Addr} {ho : HO} (r : RM K M H) (n : H p = none) : RM K M (upd H p ho) := fun a o e => by
  have ne : a ≠ p := fun z => by subst z; obtain ⟨_, q, _⟩ := r.mut e; rw [n] at q; cases q
  refine (r a o e).mono ⟨fun b xs q => ?_, fun b o u q => ?_⟩ fun ho' q => by rw [upd_ne ne]; exact q
  · rw [upd_ne (ne_of_none q n)]; exact q
  · rw [upd_ne (ne_of_none q n)]; exact q
theorem Ext.new' {p : Addr} {ho : HO} (n : H p = none) : Ext M H M (upd H p ho) := ⟨fun a o _ e => by rw [upd_ne (ne_of_none e n)]; exact e, fun _ _ m _ => m⟩
theorem RM.lay {p : Addr} {ho : HO} {o : O} (r : RM K M H) (n : H p = none) (h : RO K (upd H p ho) p o) : RM K (updM M p o) (upd H p ho) := fun a o' e => by
  by_cases z : a = p
  · subst z; rw [updM_same] at e; cases e; exact h
  · rw [updM_ne z] at e; exact r.new n a o' e
theorem Ext.lay {p : Addr} {ho : HO} {o : O} (n : H p = none) : Ext M H (updM M p o) (upd H p ho) :=
  ⟨fun a u _ e => by rw [upd_ne (ne_of_none e n)]; exact e, fun a u m e => by rw [updM_ne (ne_of_none e n)]; exact m⟩
theorem RM.put {p : Addr} {ho : HO} {o o0 : O} (r : RM K M H) (m : M p = some o0) (h : RO K (upd H p ho) p o) : RM K (updM M p o) (upd H p ho) := fun a o' e => by
  by_cases z : a = p
  · subst z; rw [updM_same] at e; cases e; exact h
  · rw [updM_ne z] at e
    obtain ⟨hp, q1, _, q2, q3⟩ := r.mut m
    refine (r a o' e).mono ⟨fun b xs q => ?_, fun b o u q => ?_⟩ fun ho' q => by rw [upd_ne z]; exact q
    · rw [upd_ne (fun z => by subst z; rw [q1] at q; cases q; exact q2 xs rfl)]; exact q
    · rw [upd_ne (fun z => by subst z; rw [q1] at q; cases q; exact q3 o u rfl)]; exact q
theorem Ext.put {p : Addr} {ho : HO} {o o0 : O} (m : M p = some o0) : Ext M H (updM M p o) (upd H p ho) :=
  ⟨fun a u n e => by rw [upd_ne (fun z => by subst z; rw [m] at n; cases n)]; exact e, fun a u n e => by rw [updM_ne (fun z => by subst z; rw [m] at n; cases n)]; exact n⟩
theorem RM.stabPut {p : Addr} {ho : HO} {o0 : O} (r : RM K M H) (m : M p = some o0) : Stab H (upd H p ho) := (Ext.put (o := o0) (ho := ho) m).stab r
end

/-! ### readings over values and store -/
abbrev QD := D → Mem → Prop
abbrev TEd := EnvD → Mem → QD → Prop
abbrev TTd := EnvD → Mem → (Bool → Mem → Prop) → Prop
abbrev TAd := EnvD → Mem → (List D → Mem → Prop) → Prop
structure EndsD where
  nx : EnvD → Mem → Prop
  rt : QD
  bk : EnvD → Mem → Prop := fun _ _ => False
  ct : EnvD → Mem → Prop := fun _ _ => False
abbrev TSd := EndsD → EnvD → Mem → Prop
def MonoE (T : TEd) : Prop := ∀ ρ M Q Q', (∀ d M', Q d M' → Q' d M') → T ρ M Q → T ρ M Q'
def MonoT (T : TTd) : Prop := ∀ ρ M Q Q', (∀ d M', Q d M' → Q' d M') → T ρ M Q → T ρ M Q'
def MonoA (T : TAd) : Prop := ∀ ρ M Q Q', (∀ d M', Q d M' → Q' d M') → T ρ M Q → T ρ M Q'
structure LeD (a b : EndsD) : Prop where
  nx : ∀ ρ M, a.nx ρ M → b.nx ρ M
  rt : ∀ d M, a.rt d M → b.rt d M
  bk : ∀ ρ M, a.bk ρ M → b.bk ρ M
  ct : ∀ ρ M, a.ct ρ M → b.ct ρ M
def MonoS (T : TSd) : Prop := ∀ a b ρ M, LeD a b → T a ρ M → T b ρ M

def KE' (K : PySem.W.Frag) (M : Mem) (H : Hp) (Q : VK) : QD := fun d M' => ∀ v H', Ext M H M' H' → RM K M' H' → RD K H' d v → Q v H'
def KT' (K : PySem.W.Frag) (M : Mem) (H : Hp) (Q : Bool → Hp → Prop) : Bool → Mem → Prop := fun b M' => ∀ H', Ext M H M' H' → RM K M' H' → Q b H'
def KA' (K : PySem.W.Frag) (M : Mem) (H : Hp) (Q : List V → Hp → Prop) : List D → Mem → Prop := fun ds M' => ∀ vs H', Ext M H M' H' → RM K M' H' → RDs K H' ds vs → Q vs H'
def lE (K : PySem.W.Frag) (T : TEd) : TE := fun σ H Q => ∃ ρ M, RS K H σ ρ ∧ RM K M H ∧ T ρ M (KE' K M H Q)
def lT (K : PySem.W.Frag) (T : TTd) : TT := fun σ H Q => ∃ ρ M, RS K H σ ρ ∧ RM K M H ∧ T ρ M (KT' K M H Q)
def lA (K : PySem.W.Frag) (T : TAd) : TA := fun σ H Q => ∃ ρ M, RS K H σ ρ ∧ RM K M H ∧ T ρ M (KA' K M H Q)
structure Link (K : PySem.W.Frag) (M : Mem) (H : Hp) (a : EndsD) (b : Ends) : Prop where
  nx : ∀ ρ M' σ H', Ext M H M' H' → RS K H' σ ρ → RM K M' H' → a.nx ρ M' → b.nx σ H'
  rt : ∀ d M' v H', Ext M H M' H' → RM K M' H' → RD K H' d v → a.rt d M' → b.rt v H'
  bk : ∀ ρ M' σ H', Ext M H M' H' → RS K H' σ ρ → RM K M' H' → a.bk ρ M' → b.bk σ H'
  ct : ∀ ρ M' σ H', Ext M H M' H' → RS K H' σ ρ → RM K M' H' → a.ct ρ M' → b.ct σ H'
def lS (K : PySem.W.Frag) (T : TSd) : TS := fun D σ H => ∃ ρ M A, RS K H σ ρ ∧ RM K M H ∧ Link K M H A D ∧ T A ρ M
theorem Link.ext {K : PySem.W.Frag} {M M' : Mem} {H H' : Hp} {a : EndsD} {b : Ends} (l : Link K M H a b) (x : Ext M H M' H') : Link K M' H' a b :=
  ⟨fun ρ M2 σ H2 y => l.nx ρ M2 σ H2 (x.trans y), fun d M2 v H2 y => l.rt d M2 v H2 (x.trans y), fun ρ M2 σ H2 y => l.bk ρ M2 σ H2 (x.trans y), fun ρ M2 σ H2 y => l.ct ρ M2 σ H2 (x.trans y)⟩
theorem PE.imp {X : Cx} {e : Expr} {t t' : TE} (h : PE X e t) (i : ∀ σ H Q, t' σ H Q → t σ H Q) : PE X e t' := fun pins s σ H Q I q => h pins s σ H Q I (i _ _ _ q)
theorem PT.imp {X : Cx} {e : Expr} {t t' : TT} (h : PT X e t) (i : ∀ σ H Q, t' σ H Q → t σ H Q) : PT X e t' := fun pins s σ H Q I q => h pins s σ H Q I (i _ _ _ q)
theorem PW.imp {X : Cx} {e : Expr} {t t' : TT} (h : PW X e t) (i : ∀ σ H Q, t' σ H Q → t σ H Q) : PW X e t' := fun wh pins s σ H Q I q => h wh pins s σ H Q I (i _ _ _ q)
theorem PA.imp {X : Cx} {e : List Expr} {t t' : TA} (h : PA X e t) (i : ∀ σ H Q, t' σ H Q → t σ H Q) : PA X e t' := fun p pins s σ H Q I q => h p pins s σ H Q I (i _ _ _ q)
theorem PS.imp {X : Cx} {e : Stmt} {t t' : TS} (h : PS X e t) (i : ∀ D σ H, t' D σ H → t D σ H) : PS X e t' := fun pins s σ H D I q => h pins s σ H D I (i _ _ _ q)
theorem PSs.imp {X : Cx} {e : List Stmt} {t t' : TS} (h : PSs X e t) (i : ∀ D σ H, t' D σ H → t D σ H) : PSs X e t' := fun pins s σ H D I q => h pins s σ H D I (i _ _ _ q)
end Mi
end L2
namespace L2
namespace Mi
open PySem PySem.Spec PyProof.Rows

theorem KE'.ext {K : PySem.W.Frag} {M M2 M' : Mem} {H H2 : Hp} {Q : VK} {d : D} (x : Ext M H M2 H2) (h : KE' K M H Q d M') : KE' K M2 H2 Q d M' := fun v H' y => h v H' (x.trans y)
theorem KT'.ext {K : PySem.W.Frag} {M M2 M' : Mem} {H H2 : Hp} {Q : Bool → Hp → Prop} {d : Bool} (x : Ext M H M2 H2) (h : KT' K M H Q d M') : KT' K M2 H2 Q d M' := fun H' y => h H' (x.trans y)
theorem KA'.ext {K : PySem.W.Frag} {M M2 M' : Mem} {H H2 : Hp} {Q : List V → Hp → Prop} {d : List D} (x : Ext M H M2 H2) (h : KA' K M H Q d M') : KA' K M2 H2 Q d M' := fun v H' y => h v H' (x.trans y)

abbrev R2d := D → D → Mem → QD → Prop
abbrev R1d := D → Mem → QD → Prop
abbrev RAd := List D → Mem → QD → Prop
def Mono2 (r : R2d) : Prop := ∀ x y M Q Q', (∀ d M', Q d M' → Q' d M') → r x y M Q → r x y M Q'
def Mono1 (r : R1d) : Prop := ∀ x M Q Q', (∀ d M', Q d M' → Q' d M') → r x M Q → r x M Q'
def MonoAr (r : RAd) : Prop := ∀ x M Q Q', (∀ d M', Q d M' → Q' d M') → r x M Q → r x M Q'
def l2 (K : PySem.W.Frag) (rd : R2d) : R2 := fun v u H Q => ∃ x y M, RM K M H ∧ RD K H x v ∧ RD K H y u ∧ rd x y M (KE' K M H Q)
def l1 (K : PySem.W.Frag) (rd : R1d) : V → Hp → VK → Prop := fun v H Q => ∃ x M, RM K M H ∧ RD K H x v ∧ rd x M (KE' K M H Q)
def lR (K : PySem.W.Frag) (rd : RAd) : List V → Hp → VK → Prop := fun vs H Q => ∃ ds M, RM K M H ∧ RDs K H ds vs ∧ rd ds M (KE' K M H Q)
def lMt (K : PySem.W.Frag) (rd : D → List D → Mem → QD → Prop) : V → List V → Hp → VK → Prop := fun v vs H Q => ∃ x ds M, RM K M H ∧ RD K H x v ∧ RDs K H ds vs ∧ rd x ds M (KE' K M H Q)

/-! ### names, constants, operations -/
def wVar (i : Nat) : TEd := fun ρ M Q => ∃ d, ρ[i]? = some (some d) ∧ Q d M
def wC (d : D) : TEd := fun _ M Q => Q d M
def wOp (rd : R2d) (ta tb : TEd) : TEd := fun ρ M Q => ta ρ M fun x M1 => tb ρ M1 fun y M2 => rd x y M2 Q
def wUn (rd : R1d) (ta : TEd) : TEd := fun ρ M Q => ta ρ M fun x M1 => rd x M1 Q
def wNil : TAd := fun _ M Q => Q [] M
def wCons (ta : TEd) (tr : TAd) : TAd := fun ρ M Q => ta ρ M fun x M1 => tr ρ M1 fun xs M2 => Q (x :: xs) M2
def wAr (rd : RAd) (t : TAd) : TEd := fun ρ M Q => t ρ M fun ds M1 => rd ds M1 Q
theorem mono_var {i : Nat} : MonoE (wVar i) := fun _ _ _ _ h ⟨d, e, q⟩ => ⟨d, e, h _ _ q⟩
theorem mono_c {d : D} : MonoE (wC d) := fun _ _ _ _ h q => h _ _ q
theorem mono_op {rd : R2d} {ta tb : TEd} (hr : Mono2 rd) (ha : MonoE ta) (hb : MonoE tb) : MonoE (wOp rd ta tb) := fun ρ M Q Q' h q =>
  ha _ _ _ _ (fun x M1 q1 => hb _ _ _ _ (fun y M2 q2 => hr _ _ _ _ _ h q2) q1) q
theorem mono_un {rd : R1d} {ta : TEd} (hr : Mono1 rd) (ha : MonoE ta) : MonoE (wUn rd ta) := fun ρ M Q Q' h q => ha _ _ _ _ (fun x M1 q1 => hr _ _ _ _ h q1) q
theorem mono_nil : MonoA wNil := fun _ _ _ _ h q => h _ _ q
theorem mono_cons {ta : TEd} {tr : TAd} (ha : MonoE ta) (hr : MonoA tr) : MonoA (wCons ta tr) := fun ρ M Q Q' h q =>
  ha _ _ _ _ (fun x M1 q1 => hr _ _ _ _ (fun xs M2 q2 => h _ _ q2) q1) q
theorem mono_ar {rd : RAd} {t : TAd} (hr : MonoAr rd) (ht : MonoA t) : MonoE (wAr rd t) := fun ρ M Q Q' h q => ht _ _ _ _ (fun ds M1 q1 => hr _ _ _ _ h q1) q

section
variable {X : Cx} {a b : Expr} {ta tb : TEd} {pos : Pos}
theorem le_var {i : Nat} {x : Str} (hN : X.N[i]? = some x) (hv : Vis X.env.scope x) (hd : (x == ("__debug__" : Str)) = false) (hcd : (x == ("__classdict__" : Str)) = false) : PE X (.Name x pos) (lE X.K (wVar i)) := by
  refine PE.imp (pe_var hN hv hd hcd) fun σ H Q h => ?_
  obtain ⟨ρ, M, rs, rm, d, e, q⟩ := h
  obtain ⟨v, hv, rd⟩ := rs.2 i d e
  exact ⟨v, hv, q v H Ext.refl rm rd⟩
theorem le_int {i : Int} {j : Nat} : PE X (.Constant (.int i) j pos) (lE X.K (wC (.int i))) :=
  PE.imp pe_int fun σ H Q ⟨ρ, M, rs, rm, q⟩ => q _ H Ext.refl rm (RD.int_iff.mpr rfl)
theorem le_bl {i : Bool} {j : Nat} : PE X (.Constant (.bool i) j pos) (lE X.K (wC (.bl i))) :=
  PE.imp pe_bl fun σ H Q ⟨ρ, M, rs, rm, q⟩ => q _ H Ext.refl rm (RD.bl_iff.mpr rfl)
theorem le_non {j : Nat} : PE X (.Constant .none j pos) (lE X.K (wC .non)) :=
  PE.imp pe_non fun σ H Q ⟨ρ, M, rs, rm, q⟩ => q _ H Ext.refl rm (RD.non_iff.mpr rfl)
theorem le_str {x : Str} {j : Nat} : PE X (.Constant (.str x) j pos) (lE X.K (wC (.str x))) :=
  PE.imp pe_str fun σ H Q ⟨ρ, M, rs, rm, q⟩ => q _ H Ext.refl rm (RD.str_iff.mpr rfl)
theorem op_lift {K : PySem.W.Frag} {rd : R2d} (hr : Mono2 rd) (ma : MonoE ta) (mb : MonoE tb) (σ : St) (H : Hp) (Q : VK) (h : lE K (wOp rd ta tb) σ H Q) : tOp (l2 K rd) (lE K ta) (lE K tb) σ H Q := by
  obtain ⟨ρ, M, rs, rm, q⟩ := h
  refine ⟨ρ, M, rs, rm, ma _ _ _ _ (fun x M1 q1 v H1 x1 rm1 rd1 => ?_) q⟩
  refine ⟨ρ, M1, rs.mono (x1.stab rm), rm1, mb _ _ _ _ (fun y M2 q2 u H2 x2 rm2 rd2 => ?_) q1⟩
  exact ⟨x, y, M2, rm2, rd1.mono (x2.stab rm1), rd2, hr _ _ _ _ _ (fun d M' k => k.ext (x1.trans x2)) q2⟩
theorem le_op {op : Operator} {rd : R2d} (ho : OpR X (binaryOp op) (l2 X.K rd)) (hr : Mono2 rd) (ma : MonoE ta) (mb : MonoE tb) (ha : PE X a (lE X.K ta)) (hb : PE X b (lE X.K tb)) : PE X (.BinOp a op b pos) (lE X.K (wOp rd ta tb)) :=
  PE.imp (pe_op ho ha hb) (op_lift hr ma mb)
theorem le_cmp {op : CmpOp} {rd : R2d} (ho : OpR X (compareOp op) (l2 X.K rd)) (hr : Mono2 rd) (ma : MonoE ta) (mb : MonoE tb) (ha : PE X a (lE X.K ta)) (hb : PE X b (lE X.K tb)) (hm : behindInMarks op b = false) :
    PE X (.Compare a [op] [b] pos) (lE X.K (wOp rd ta tb)) := PE.imp (pe_cmpR ho ha hb hm) (op_lift hr ma mb)
/-- a comparison as a test: its value is a bool -/
def wTst (t : TEd) : TTd := fun ρ M Q => t ρ M fun x M1 => ∃ k, x = .bl k ∧ Q k M1
theorem mono_tst {t : TEd} (h : MonoE t) : MonoT (wTst t) := fun ρ M Q Q' i q => h _ _ _ _ (fun x M1 ⟨k, e, q1⟩ => ⟨k, e, i _ _ q1⟩) q
theorem tst_lift {K : PySem.W.Frag} {t : TEd} (m : MonoE t) (σ : St) (H : Hp) (Q : Bool → Hp → Prop) (h : lT K (wTst t) σ H Q) : tTest (lE K t) σ H Q := by
  obtain ⟨ρ, M, rs, rm, q⟩ := h
  refine ⟨ρ, M, rs, rm, m _ _ _ _ (fun x M1 ⟨k, e, q1⟩ v H1 x1 rm1 rd1 => ?_) q⟩
  subst e
  exact ⟨k, RD.bl_iff.mp rd1, q1 H1 x1 rm1⟩
theorem lt_cmp {op : CmpOp} {rd : R2d} (ho : OpR X (compareOp op) (l2 X.K rd)) (hr : Mono2 rd) (ma : MonoE ta) (mb : MonoE tb) (ha : PE X a (lE X.K ta)) (hb : PE X b (lE X.K tb)) (hm : behindInMarks op b = false) :
    PT X (.Compare a [op] [b] pos) (lT X.K (wTst (wOp rd ta tb))) :=
  PT.imp (pt_cmpR ho ha hb hm) fun σ H Q h => by
    have h1 := tst_lift (mono_op hr ma mb) σ H Q h
    exact op_lift hr ma mb σ H _ h1
theorem le_un {op : UnaryOp} {rd : R1d} (ho : UnR X (unaryOp op) (l1 X.K rd)) (hr : Mono1 rd) (ma : MonoE ta) (ha : PE X a (lE X.K ta)) : PE X (.UnaryOp op a pos) (lE X.K (wUn rd ta)) :=
  PE.imp (pe_un ho ha) fun σ H Q ⟨ρ, M, rs, rm, q⟩ => ⟨ρ, M, rs, rm, ma _ _ _ _ (fun x M1 q1 v H1 x1 rm1 rd1 => ⟨x, M1, rm1, rd1, hr _ _ _ _ (fun d M' k => k.ext x1) q1⟩) q⟩
theorem le_ix {rd : R2d} (ho : IxR X (l2 X.K rd)) (hr : Mono2 rd) (ma : MonoE ta) (mb : MonoE tb) (ha : PE X a (lE X.K ta)) (hb : PE X b (lE X.K tb)) (hs : PlainIx b) : PE X (.Subscript a b pos) (lE X.K (wOp rd ta tb)) :=
  PE.imp (pe_ix ho ha hb hs) (op_lift hr ma mb)
/-! argument lists -/
theorem la_nil : PA X [] (lA X.K wNil) := PA.imp pa_nil fun σ H Q ⟨ρ, M, rs, rm, q⟩ => q _ H Ext.refl rm RDs.nil
theorem cons_lift {K : PySem.W.Frag} {tr : TAd} (ma : MonoE ta) (mr : MonoA tr) (σ : St) (H : Hp) (Q : List V → Hp → Prop) (h : lA K (wCons ta tr) σ H Q) : tCons (lE K ta) (lA K tr) σ H Q := by
  obtain ⟨ρ, M, rs, rm, q⟩ := h
  refine ⟨ρ, M, rs, rm, ma _ _ _ _ (fun x M1 q1 v H1 x1 rm1 rd1 => ?_) q⟩
  refine ⟨ρ, M1, rs.mono (x1.stab rm), rm1, mr _ _ _ _ (fun xs M2 q2 vs H2 x2 rm2 rd2 => ?_) q1⟩
  exact q2 (v :: vs) H2 (x1.trans x2) rm2 (RDs.cons (rd1.mono (x2.stab rm1)) rd2)
theorem la_cons {e : Expr} {es : List Expr} {tr : TAd} (ma : MonoE ta) (mr : MonoA tr) (ha : PE X e (lE X.K ta)) (hr : PA X es (lA X.K tr)) (hs : starEach (e :: es) X.env = (false, eval e X.env) :: starEach es X.env) :
    PA X (e :: es) (lA X.K (wCons ta tr)) := PA.imp (pa_cons ha hr hs) (cons_lift ma mr)
theorem ar_lift {K : PySem.W.Frag} {rd : RAd} {t : TAd} (hr : MonoAr rd) (mt : MonoA t) (σ : St) (H : Hp) (Q : VK) (h : lE K (wAr rd t) σ H Q) : tCB (lR K rd) (lA K t) σ H Q := by
  obtain ⟨ρ, M, rs, rm, q⟩ := h
  exact ⟨ρ, M, rs, rm, mt _ _ _ _ (fun ds M1 q1 vs H1 x1 rm1 rd1 => ⟨ds, M1, rm1, rd1, hr _ _ _ _ (fun d M' k => k.ext x1) q1⟩) q⟩
/-! displays -/
def rTup : RAd := fun ds M Q => ds.length ≤ sizeLine ∧ Q (.tup ds) M
def rLst : RAd := fun ds M Q => ds.length ≤ sizeLine ∧ ∀ p, M p = none → Q (.ref p) (updM M p (.lst ds))
theorem mono_rTup : MonoAr rTup := fun _ _ _ _ h ⟨z, q⟩ => ⟨z, h _ _ q⟩
theorem mono_rLst : MonoAr rLst := fun _ _ _ _ h ⟨z, q⟩ => ⟨z, fun p n => h _ _ (q p n)⟩
theorem lay_tup {K : PySem.W.Frag} {M : Mem} {H : Hp} {Q : VK} {ds : List D} {vs : List V} {p : Addr} (rm : RM K M H) (rd : RDs K H ds vs) (q : KE' K M H Q (.tup ds) M) (n : H p = none) : Q (.ref p) (upd H p (.tup vs)) := by
  have x : Ext M H M (upd H p (.tup vs)) := Ext.new' n
  exact q (.ref p) _ x (rm.new n) (RD.tup_iff.mpr ⟨p, vs, rfl, upd_same, rd.mono (x.stab rm)⟩)
theorem lay_lst {K : PySem.W.Frag} {M : Mem} {H : Hp} {Q : VK} {ds : List D} {vs : List V} {p : Addr} (rm : RM K M H) (rd : RDs K H ds vs) (q : ∀ p, M p = none → KE' K M H Q (.ref p) (updM M p (.lst ds))) (n : H p = none) : Q (.ref p) (upd H p (.lst vs)) := by
  have x : Ext M H (updM M p (.lst ds)) (upd H p (.lst vs)) := Ext.lay n
  have x0 : Ext M H M (upd H p (.lst vs)) := Ext.new' n
  exact q p (rm.out n) (.ref p) _ x (rm.lay n ⟨vs, upd_same, rd.mono (x0.stab rm)⟩) (RD.ref_iff.mpr rfl)
theorem le_tup {es : List Expr} {t : TAd} {k : Nat} (mt : MonoA t) (h : PA X es (lA X.K t)) : PE X (.Tuple es k pos) (lE X.K (wAr rTup t)) :=
  PE.imp (pe_tup h) fun σ H Q ⟨ρ, M, rs, rm, q⟩ => ⟨ρ, M, rs, rm, mt _ _ _ _ (fun ds M1 ⟨z, q1⟩ vs H1 x1 rm1 rd1 => ⟨by rw [rd1.length]; exact z, fun p n => lay_tup rm1 rd1 (q1.ext x1) n⟩) q⟩
theorem le_lst {es : List Expr} {t : TAd} (mt : MonoA t) (h : PA X es (lA X.K t)) : PE X (.List es pos) (lE X.K (wAr rLst t)) :=
  PE.imp (pe_lst h) fun σ H Q ⟨ρ, M, rs, rm, q⟩ => ⟨ρ, M, rs, rm, mt _ _ _ _ (fun ds M1 ⟨z, q1⟩ vs H1 x1 rm1 rd1 => ⟨by rw [rd1.length]; exact z, fun p n => lay_lst rm1 rd1 (fun p' n' => (q1 p' n').ext x1) n⟩) q⟩
end
end Mi
end L2
namespace L2
open PySem PySem.Spec PyProof.Rows
theorem noFill_tuple_mul : fillsNumberSlot (.type "tuple") "mul" = pure false :=
  PyProof.Rows.fillsNumberSlot_seq (id := "tuple.__mul__") (r := some (.builtin "tuple.__rmul__")) F.slot_tuple_mul.lookup (by decide +kernel) F.slot_tuple_rmul.lookup (by decide +kernel)
theorem repeat_tuple : seqRepeat? (.type "tuple") = pure (some (.builtin "tuple.__mul__")) := by
  unfold seqRepeat?
  rw [PyProof.Rows.seqSlot_of (T := "tuple") (name := "__mul__") (id := "tuple.__mul__") F.slot_tuple_mul.lookup (by decide +kernel), PyProof.Rows.seqSlot_of (T := "tuple") (name := "__rmul__") (id := "tuple.__rmul__") F.slot_tuple_rmul.lookup (by decide +kernel)]
  rfl
theorem int_rmul_tuple (a : Int) (t : Tok) (l : Addr) (items : Array Value) (n : Nat) (d : Option Addr) (sl : Array (Option Value)) :
    Meets (Builtin.«int.__rmul__» ⟨[.int a t, .ref l], []⟩) (fun _ R s => s.heap.get? l = some { cls := .type "tuple", dict := d, data := .seq items n, slots := sl } ∧ R (.ok (.ret Value.notImplemented)) s) :=
  .of_wp fun prog w A R s h => by obtain ⟨hp, g, d, tk, os⟩ := s; obtain ⟨hl, h⟩ := h; wp_walk; exact ⟨_, rfl, h⟩
open AutoSeq1 (wpAny_loadPart') in
theorem tuple_mul (l : Addr) (items : Array Value) (n : Nat) (dd : Option Addr) (sl : Array (Option Value)) (x : Int) (u : Tok) (h1 : -(2 ^ 63) ≤ x) (h2 : x < 2 ^ 63) (hz : items.size * x.toNat ≤ sizeLine) :
    Meets (Builtin.«tuple.__mul__» ⟨[.ref l, .int x u], []⟩) (fun _ R s => s.heap.get? l = some { cls := .type "tuple", dict := dd, data := .seq items n, slots := sl } ∧
      (if items.isEmpty || x == 1 then R (.ok (.ret (.ref l))) s else R (.ok (.ret (.ref s.heap.objs.size))) { s with heap := s.heap.push { cls := .type "tuple", data := .seq ((List.replicate x.toNat items).foldl (· ++ ·) #[]) } })) :=
  .of_wp fun prog w A R s h => by
    obtain ⟨hp, g, d, tk, os⟩ := s; obtain ⟨hl, h⟩ := h
    have f1 := AutoSeq1.idx_int
    have c0 : (decide (x < -(2 ^ 63)) || decide (x ≥ 2 ^ 63)) = false := by
      rw [decide_eq_false (by omega), decide_eq_false (by omega)]; rfl
    wp_walk using wpAny_loadPart' hl
    refine wpAny_ite_false (decide_eq_false (by rw [c0]; decide)) ?_
    dsimp only
    by_cases e1 : (items.isEmpty || x == 1) = true
    · rw [if_pos e1] at h
      wp_walk using wpAny_loadPart' hl
      exact ⟨_, rfl, h⟩
    · rw [if_neg e1] at h
      wp_walk using wpAny_loadPart' hl
      simp only [Bool.or_eq_true, not_or] at e1
      by_cases e2 : x ≤ 0
      · have e3 : (decide (x ≤ 0) || items.isEmpty) = true := by rw [decide_eq_true e2]; rfl
        rw [if_pos e3]
        have e4 : x.toNat = 0 := by omega
        rw [e4] at h
        wp_walk
        exact ⟨_, rfl, h⟩
      · have e3 : ¬ (decide (x ≤ 0) || items.isEmpty) = true := by simp; exact ⟨by omega, by simpa using e1.1⟩
        rw [if_neg e3]
        have hx : ((items.size : Nat) : Int) * x = ((items.size * x.toNat : Nat) : Int) := by
          rw [Int.natCast_mul, Int.toNat_of_nonneg (by omega)]
        have hs : sizeLine = 16777216 := sizeLine_eq
        have e5 : ¬ ((items.size : Nat) : Int) * x > (2 ^ 63 - 1) / 8 := by rw [hx]; omega
        rw [if_neg e5]
        have e6 : ¬ Builtin.Tuple.tupleTooMany (((items.size : Nat) : Int) * x) = true := by
          rw [hx]; unfold Builtin.Tuple.tupleTooMany
          intro h6; have h7 := of_decide_eq_true h6; omega
        rw [if_neg e6]
        wp_walk
        have hsz : ((List.replicate x.toNat items).foldl (· ++ ·) #[]).size ≤ sizeLine := by
          have : ∀ (k : Nat) (a : Array Value), ((List.replicate k items).foldl (· ++ ·) a).size = a.size + items.size * k := by
            intro k; induction k with
            | zero => intro a; simp
            | succ k ih => intro a; rw [List.replicate_succ, List.foldl_cons, ih, Array.size_append, Nat.mul_succ]; omega
          rw [this]; simpa using hz
        refine wpAny_ite_false (decide_eq_false (Nat.not_lt.mpr hsz)) ?_
        wp_walk
        exact ⟨_, rfl, h⟩
end L2
namespace L2
open PySem PySem.Spec PyProof.Rows
section
variable {X : Cx}
/-- a tuple times an int: of one time, or of an empty tuple, the tuple itself -/
def rRepT (K : PySem.W.Frag) : R2 := fun x y H Q => ∃ l k xs, x = .ref l ∧ y = .int k ∧ SqT K H l xs ∧ -(2 ^ 63) ≤ k ∧ k < 2 ^ 63 ∧ xs.length * k.toNat ≤ sizeLine ∧
  ((xs = [] ∨ k = 1) → Q (.ref l) H) ∧ (¬ (xs = [] ∨ k = 1) → ∀ p, H p = none → Q (.ref p) (upd H p (.tup (List.replicate k.toNat xs).flatten)))
theorem op_repT : OpR X (binaryOp .Mult) (rRepT X.K) := by
  intro pins s σ H x y v u Q I rx ry h
  obtain ⟨l, k, xs, rfl, rfl, hH, h1, h2, hz, q1, q2⟩ := h
  cases rx
  obtain ⟨t, rfl⟩ := ry
  obtain ⟨its, r, p1, _⟩ := I.tuple hH
  have hl := r.length
  obtain ⟨⟨cls, dd, dat, sl⟩, e, hc, n, hd⟩ := p1
  dsimp only at hc hd
  subst hc hd
  have hlen : its.toArray.size * k.toNat ≤ sizeLine := by rw [List.size_toArray, ← hl]; exact hz
  have f0 : ∀ m : Nat, List.foldl (fun x1 x2 => x1 ++ x2) #[] (List.replicate m its.toArray) = (List.replicate m its).flatten.toArray := fun m => by
    have := foldl_rep its m []
    rw [List.nil_append] at this
    exact this
  refine wpAny_binaryOp_repeat_ref (T := "tuple") (U := "int") (by decide) ⟨_, e, rfl⟩ (fun s' => typeIs_int s' k t) noFill_tuple_mul F.fills_int_mul F.slot_int_rmul repeat_tuple F.slot_int_index.lookup
    (call_meets F.slot_int_rmul (typeIs_int s k t) F.entry_int_rmul (F.args_int_rmul_2 _ _) (int_rmul_tuple k t l its.toArray n dd sl)
      ⟨e, rfl, ⟨_, e, rfl⟩, call_meets F.slot_tuple_mul ⟨_, e, rfl⟩ F.entry_tuple_mul (F.args_tuple_mul_2 _ _) (tuple_mul l its.toArray n dd sl k t h1 h2 hlen) ⟨e, ?_⟩⟩)
  have hi : (its.toArray.isEmpty || k == 1) = true ↔ (xs = [] ∨ k = 1) := by
    rw [← r.nil_iff]; simp
  split
  · next c => exact ⟨.ref l, H, I, rfl, q1 (hi.mp c)⟩
  · next c =>
    rw [f0]
    refine ⟨.ref s.heap.objs.size, _, I.laid (t' := s.toks) (o := .tup (List.replicate k.toNat xs).flatten) (fun b ob q => Heap.get?_push_of_some _ q) (Nat.le_refl _) ?_, rfl, q2 (fun z => c (hi.mpr z)) _ (I.hok.fresh (Nat.le_refl _))⟩
    exact ⟨by rw [len_rep, Nat.mul_comm]; exact hz, _, r.rep k.toNat, IsTup.new _ _⟩
end
end L2
namespace L2
open PySem PySem.Spec PyProof.Rows
section
variable {X : Cx}
theorem op_catE : OpR X (binaryOp .Add) (fun x y H Q => ∃ a b ys, x = .ref a ∧ y = .ref b ∧ SqT X.K H a [] ∧ SqT X.K H b ys ∧ Q (.ref b) H) := by
  intro pins s σ H x y v u Q I rx ry h
  obtain ⟨a, b, ys, rfl, rfl, ha, hb, q⟩ := h
  cases rx
  cases ry
  obtain ⟨its, r1, p1, _⟩ := I.tuple ha
  obtain ⟨its2, r2, p2, _⟩ := I.tuple hb
  have e0 : its = [] := r1.nil_iff.mpr rfl
  obtain ⟨⟨cls, dd, data, sl⟩, ho, hc, n, hd⟩ := id p1
  obtain ⟨⟨cls2, dd2, data2, sl2⟩, ho2, hc2, n2, hd2⟩ := id p2
  simp only at hc hd hc2 hd2
  subst hc hd hc2 hd2
  exact concat_meets ⟨_, ho, rfl⟩ ⟨_, ho2, rfl⟩ noFill_tuple_add seq_tuple_add PySem.F.slot_tuple_add PySem.F.entry_tuple_add (PySem.F.args_tuple_add_2 _ _)
    (tuple_addW0 a b its.toArray its2.toArray n n2 dd dd2 sl sl2 (by simp [e0])) ⟨ho, ho2, ⟨.ref b, H, I, rfl, q⟩⟩
end
end L2
namespace L2
namespace Mi
open PySem PySem.Spec PyProof.Rows
section
variable {X : Cx}
/-! ### list(reversed(a list)) -/
def wLrev (ta : TEd) : TEd := fun ρ M Q => ta ρ M fun x M1 => ∃ a ds, x = .ref a ∧ M1 a = some (.lst ds) ∧ ∀ p, M1 p = none → Q (.ref p) (updM M1 p (.lst ds.reverse))
theorem mono_lrev {ta : TEd} (h : MonoE ta) : MonoE (wLrev ta) := fun ρ M Q Q' i q => h _ _ _ _ (fun x M1 ⟨a, ds, e, e1, q1⟩ => ⟨a, ds, e, e1, fun p n => i _ _ (q1 p n)⟩) q
theorem le_lrev {e : Expr} {ta : TEd} {p p2 pos pos2 : Pos} (m : MonoE ta) (hc : X.calm = true) (he : PE X e (lE X.K ta)) (hg : Gl X "list") (hm : X.mg "list" = none) (hg2 : Gl X "reversed") (hm2 : X.mg "reversed" = none) (hs : starEach [e] X.env = [(false, eval e X.env)]) :
    PE X (.Call (.Name "list" p) [.Call (.Name "reversed" p2) [e] [] pos2] [] pos) (lE X.K (wLrev ta)) := by
  refine PE.imp (pe_lrev hc he hg hm hg2 hm2 hs) fun σ H Q h => ?_
  obtain ⟨ρ, M, rs, rm, q⟩ := h
  refine ⟨ρ, M, rs, rm, m _ _ _ _ (fun x M1 ⟨a, ds, e, e1, q1⟩ v H1 x1 rm1 rd1 => ?_) q⟩
  subst e
  cases RD.ref_iff.mp rd1
  obtain ⟨vs, ha, rv⟩ := rm1 _ _ e1
  exact ⟨a, vs, rfl, SqL.of ha, fun p n => lay_lst rm1 rv.reverse (fun p' n' => (q1 p' n').ext x1) n⟩
end
end Mi
end L2
namespace L2
namespace Mi
open PySem PySem.Spec PyProof.Rows

/-! ### arithmetic -/
def MulOk (i j : Int) : Prop := (-(2 ^ 64) < i ∧ i < 2 ^ 64) ∨ (-(2 ^ 64) < j ∧ j < 2 ^ 64) ∨ (Builtin.Int.intBits i ≤ 2 ^ 20 ∧ Builtin.Int.intBits j ≤ 2 ^ 20)
theorem MulOk.ok {i j : Int} (h : MulOk i j) : IntMulOk i j := by
  rcases h with h | h | h
  · exact IntMulOk.of_left (intBits_le_64 h.1 h.2)
  · exact IntMulOk.of_right (intBits_le_64 h.1 h.2)
  · exact IntMulOk.of_bits h.1 h.2
def wAdd : R2d
  | .int i, .int j, M, Q => Q (.int (i + j)) M
  | .tup a, .tup b, M, Q => (a ≠ [] ∨ True) ∧ a.length + b.length ≤ sizeLine ∧ Q (.tup (a ++ b)) M
  | .ref a, .ref b, M, Q => ∃ xs ys, M a = some (.lst xs) ∧ M b = some (.lst ys) ∧ xs.length + ys.length ≤ sizeLine ∧ ∀ p, M p = none → Q (.ref p) (updM M p (.lst (xs ++ ys)))
  | .str x, .str y, M, Q => x.length + y.length ≤ sizeLine ∧ Q (.str (x ++ y)) M
  | _, _, _, _ => False
def wSub : R2d
  | .int i, .int j, M, Q => Q (.int (i - j)) M
  | _, _, _, _ => False
def wMul : R2d
  | .int i, .int j, M, Q => MulOk i j ∧ Q (.int (i * j)) M
  | .ref a, .int k, M, Q => ∃ xs, M a = some (.lst xs) ∧ -(2 ^ 63) ≤ k ∧ k < 2 ^ 63 ∧ xs.length * k.toNat ≤ sizeLine ∧ ∀ p, M p = none → Q (.ref p) (updM M p (.lst (List.replicate k.toNat xs).flatten))
  | .tup ds, .int k, M, Q => -(2 ^ 63) ≤ k ∧ k < 2 ^ 63 ∧ ds.length * k.toNat ≤ sizeLine ∧ Q (.tup (List.replicate k.toNat ds).flatten) M
  | _, _, _, _ => False
def wFdiv : R2d
  | .int i, .int j, M, Q => 0 < j ∧ j < 2 ^ 256 ∧ Q (.int (i / j)) M
  | _, _, _, _ => False
def wMod : R2d
  | .int i, .int j, M, Q => 0 < j ∧ Q (.int (i % j)) M
  | _, _, _, _ => False
def wPow : R2d
  | .int i, .int j, M, Q => 0 ≤ j ∧ j ≤ 1000000 ∧ i.natAbs < 2 ^ 64 ∧ Q (.int (i ^ j.toNat)) M
  | _, _, _, _ => False
theorem mono_add : Mono2 wAdd := by
  intro x y M Q Q' h q
  cases x <;> cases y <;> first
    | exact q.elim
    | exact h _ _ q
    | exact ⟨q.1, h _ _ q.2⟩
    | exact ⟨q.1, q.2.1, h _ _ q.2.2⟩
    | (obtain ⟨xs, ys, e1, e2, z, q⟩ := q; exact ⟨xs, ys, e1, e2, z, fun p n => h _ _ (q p n)⟩)
theorem mono_sub : Mono2 wSub := by
  intro x y M Q Q' h q
  cases x <;> cases y <;> first | exact q.elim | exact h _ _ q
theorem mono_mul : Mono2 wMul := by
  intro x y M Q Q' h q
  cases x <;> cases y <;> first
    | exact q.elim
    | exact ⟨q.1, h _ _ q.2⟩
    | exact ⟨q.1, q.2.1, q.2.2.1, h _ _ q.2.2.2⟩
    | (obtain ⟨xs, e1, z1, z2, z3, q⟩ := q; exact ⟨xs, e1, z1, z2, z3, fun p n => h _ _ (q p n)⟩)
theorem mono_fdiv : Mono2 wFdiv := by
  intro x y M Q Q' h q
  cases x <;> cases y <;> first | exact q.elim | exact ⟨q.1, q.2.1, h _ _ q.2.2⟩
theorem mono_mod : Mono2 wMod := by
  intro x y M Q Q' h q
  cases x <;> cases y <;> first | exact q.elim | exact ⟨q.1, h _ _ q.2⟩
theorem mono_pow : Mono2 wPow := by
  intro x y M Q Q' h q
  cases x <;> cases y <;> first | exact q.elim | exact ⟨q.1, q.2.1, q.2.2.1, h _ _ q.2.2.2⟩

section
variable {X : Cx}
theorem OpR.of {f : Value → Value → Sem Value} {r r' : R2} (h : OpR X f r) (i : ∀ v u H Q, r' v u H Q → r v u H Q) : OpR X f r' := fun pins s σ H x y v u Q I rx ry q => h pins s σ H x y v u Q I rx ry (i _ _ _ _ q)
theorem IxR.of {r r' : R2} (h : IxR X r) (i : ∀ v u H Q, r' v u H Q → r v u H Q) : IxR X r' := fun a b pins s σ H x y v u Q I rx ry q => h a b pins s σ H x y v u Q I rx ry (i _ _ _ _ q)
theorem CallR.of {f : Value} {r r' : List V → Hp → VK → Prop} (h : CallR X f r) (i : ∀ vs H Q, r' vs H Q → r vs H Q) : CallR X f r' := fun pins s σ H xs us Q I rx q => h pins s σ H xs us Q I rx (i _ _ _ q)
theorem cat_t {K : PySem.W.Frag} {M : Mem} {H : Hp} {Q : VK} {a b : List D} {v u : V} (rm : RM K M H) (rx : RD K H (.tup a) v) (ry : RD K H (.tup b) u) (q : wAdd (.tup a) (.tup b) M (KE' K M H Q)) : rCatT K v u H Q ∨ ∃ a b ys, v = .ref a ∧ u = .ref b ∧ SqT K H a [] ∧ SqT K H b ys ∧ Q (.ref b) H := by
  obtain ⟨a', vs, rfl, ha, r1⟩ := RD.tup_iff.mp rx
  obtain ⟨b', us, rfl, hb, r2⟩ := RD.tup_iff.mp ry
  obtain ⟨_, z2, q⟩ := q
  have l1 := r1.length
  have l2 := r2.length
  by_cases z1 : a = []
  · subst z1
    have : vs = [] := RDs.nil_iff.mp r1
    subst this
    exact .inr ⟨a', b', us, rfl, rfl, SqT.of ha, SqT.of hb, q _ H Ext.refl rm ry⟩
  refine .inl ⟨a', b', vs, us, rfl, rfl, SqT.of ha, SqT.of hb, fun e => z1 (List.length_eq_zero_iff.mp (by rw [← l1, e]; rfl)), by omega, fun e => ?_, fun _ p n => lay_tup rm (r1.append r2) q n⟩
  have eb : b = [] := List.length_eq_zero_iff.mp (by rw [← l2, e]; rfl)
  subst eb
  rw [List.append_nil] at q
  exact q _ H Ext.refl rm rx
theorem op_add_d : OpR X (binaryOp .Add) (l2 X.K wAdd) := by
  refine OpR.of (op_add.or ((op_catT.or op_catE).or (op_cat.or op_add_str))) fun v u H Q h => ?_
  obtain ⟨x, y, M, rm, rx, ry, q⟩ := h
  cases x <;> cases y <;> first
    | exact q.elim
    | (cases RD.int_iff.mp rx; cases RD.int_iff.mp ry; exact .inl ⟨_, _, rfl, rfl, q _ H Ext.refl rm (RD.int_iff.mpr rfl)⟩)
    | exact .inr (.inl (cat_t rm rx ry q))
    | (cases RD.ref_iff.mp rx; cases RD.ref_iff.mp ry
       obtain ⟨xs, ys, e1, e2, z, q⟩ := q
       obtain ⟨vs, h1, r1⟩ := rm _ _ e1
       obtain ⟨us, h2, r2⟩ := rm _ _ e2
       have l1 := r1.length
       have l2 := r2.length
       refine .inr (.inr (.inl ⟨_, _, vs, us, rfl, rfl, h1, h2, by omega, fun p n => lay_lst rm (r1.append r2) q n⟩)))
    | (cases RD.str_iff.mp rx; cases RD.str_iff.mp ry; exact .inr (.inr (.inr ⟨_, _, rfl, rfl, q.1, q.2 _ H Ext.refl rm (RD.str_iff.mpr rfl)⟩)))
theorem op_sub_d : OpR X (binaryOp .Sub) (l2 X.K wSub) := by
  refine OpR.of op_sub fun v u H Q h => ?_
  obtain ⟨x, y, M, rm, rx, ry, q⟩ := h
  cases x <;> cases y <;> first
    | exact q.elim
    | (cases RD.int_iff.mp rx; cases RD.int_iff.mp ry; exact ⟨_, _, rfl, rfl, q _ H Ext.refl rm (RD.int_iff.mpr rfl)⟩)
theorem op_mul_i : OpR X (binaryOp .Mult) (rI MulOk fun i j => .int (i * j)) := opI fun _ _ _ _ _ _ _ hc q => mul_int q hc.ok
theorem rep_t {K : PySem.W.Frag} {M : Mem} {H : Hp} {Q : VK} {a : List D} {k : Int} {v u : V} (rm : RM K M H) (rx : RD K H (.tup a) v) (ry : RD K H (.int k) u) (q : wMul (.tup a) (.int k) M (KE' K M H Q)) : rRepT K v u H Q := by
  obtain ⟨a', vs, rfl, ha, r1⟩ := RD.tup_iff.mp rx
  cases RD.int_iff.mp ry
  obtain ⟨z1, z2, z3, q⟩ := q
  have l1 := r1.length
  refine ⟨a', k, vs, rfl, rfl, SqT.of ha, z1, z2, by rw [l1]; exact z3, fun e => ?_, fun _ p n => lay_tup rm (r1.rep _) q n⟩
  have ea : (List.replicate k.toNat a).flatten = a := by
    rcases e with e | e
    · have : a = [] := List.length_eq_zero_iff.mp (by rw [← l1, e]; rfl)
      subst this; simp
    · subst e; simp
  rw [ea] at q
  exact q _ H Ext.refl rm rx
theorem op_mul_d : OpR X (binaryOp .Mult) (l2 X.K wMul) := by
  refine OpR.of (op_mul_i.or (op_rep.or op_repT)) fun v u H Q h => ?_
  obtain ⟨x, y, M, rm, rx, ry, q⟩ := h
  cases x <;> cases y <;> first
    | exact q.elim
    | (cases RD.int_iff.mp rx; cases RD.int_iff.mp ry; exact .inl ⟨_, _, rfl, rfl, q.1, q.2 _ H Ext.refl rm (RD.int_iff.mpr rfl)⟩)
    | (cases RD.ref_iff.mp rx; cases RD.int_iff.mp ry
       obtain ⟨xs, e1, z1, z2, z3, q⟩ := q
       obtain ⟨vs, h1, r1⟩ := rm _ _ e1
       have l1 := r1.length
       exact .inr (.inl ⟨_, _, vs, rfl, rfl, h1, z1, z2, by rw [l1]; exact z3, fun p n => lay_lst rm (r1.rep _) q n⟩))
    | exact .inr (.inr (rep_t rm rx ry q))
theorem op_fdivL : OpR X (binaryOp .FloorDiv) (rI (fun _ j => 0 < j ∧ j < 2 ^ 256) fun i j => .int (i / j)) := L2.opI fun i j _ _ _ _ _ hc q => by
  have h1 : (0 : Int) < j := hc.1
  have h2 : j < 2 ^ 256 := hc.2
  have h3 : j.natAbs.log2 < 256 := (Nat.log2_lt (by omega)).mpr (by omega)
  exact floordiv_int (by omega) (by rw [Int.fdiv_eq_ediv_of_nonneg i (by omega)]; exact q) (.inl (PyProof.noPylong_of_log2 (by omega)))
theorem op_fdiv_d : OpR X (binaryOp .FloorDiv) (l2 X.K wFdiv) := by
  refine OpR.of op_fdivL fun v u H Q h => ?_
  obtain ⟨x, y, M, rm, rx, ry, q⟩ := h
  cases x <;> cases y <;> first
    | exact q.elim
    | (cases RD.int_iff.mp rx; cases RD.int_iff.mp ry; exact ⟨_, _, rfl, rfl, ⟨q.1, q.2.1⟩, q.2.2 _ H Ext.refl rm (RD.int_iff.mpr rfl)⟩)
theorem op_mod_d : OpR X (binaryOp .Mod) (l2 X.K wMod) := by
  refine OpR.of op_mod fun v u H Q h => ?_
  obtain ⟨x, y, M, rm, rx, ry, q⟩ := h
  cases x <;> cases y <;> first
    | exact q.elim
    | (cases RD.int_iff.mp rx; cases RD.int_iff.mp ry; exact ⟨_, _, rfl, rfl, q.1, q.2 _ H Ext.refl rm (RD.int_iff.mpr rfl)⟩)
theorem op_pow_d : OpR X (binaryOp .Pow) (l2 X.K wPow) := by
  refine OpR.of op_pow fun v u H Q h => ?_
  obtain ⟨x, y, M, rm, rx, ry, q⟩ := h
  cases x <;> cases y <;> first
    | exact q.elim
    | (cases RD.int_iff.mp rx; cases RD.int_iff.mp ry; exact ⟨_, _, rfl, rfl, ⟨q.1, q.2.1, q.2.2.1⟩, q.2.2.2 _ H Ext.refl rm (RD.int_iff.mpr rfl)⟩)
def wNeg : R1d
  | .int i, M, Q => Q (.int (-i)) M
  | _, _, _ => False
theorem mono_neg : Mono1 wNeg := by
  intro x M Q Q' h q
  cases x <;> first | exact q.elim | exact h _ _ q
theorem UnR.of {f : Value → Sem Value} {r r' : V → Hp → VK → Prop} (h : UnR X f r) (i : ∀ v H Q, r' v H Q → r v H Q) : UnR X f r' := fun pins s σ H x v Q I rx q => h pins s σ H x v Q I rx (i _ _ _ q)
theorem un_neg_d : UnR X (unaryOp .USub) (l1 X.K wNeg) := by
  refine UnR.of un_neg fun v H Q h => ?_
  obtain ⟨x, M, rm, rx, q⟩ := h
  cases x <;> first
    | exact q.elim
    | (cases RD.int_iff.mp rx; exact ⟨_, rfl, q _ H Ext.refl rm (RD.int_iff.mpr rfl)⟩)

/-! ### reading values whole: equality -/
def mapO {α β : Type} (f : α → Option β) : List α → Option (List β)
  | [] => some []
  | x :: xs => (f x).bind fun y => (mapO f xs).map (y :: ·)
def rb : Nat → Mem → D → Option PyData
  | _, _, .non => some .none
  | _, _, .bl b => some (.bool b)
  | _, _, .int i => some (.int i)
  | _, _, .str x => if PyData.strOk x = true then some (.str x) else none
  | n + 1, M, .tup ds => (mapO (rb n M) ds).map PyData.tuple
  | n + 1, M, .con ds => (mapO (rb n M) ds).map PyData.list
  | n + 1, M, .ref a => match M a with
    | some (.lst ds) => (mapO (rb n M) ds).map PyData.list
    | _ => none
  | 0, _, .tup _ => none
  | 0, _, .con _ => none
  | 0, _, .ref _ => none
theorem mapO_depth {n : Nat} {M : Mem} (ih : ∀ d p, rb n M d = some p → p.depth ≤ n ∧ p.canLay0 = true) : ∀ {ds : List D} {ps : List PyData}, mapO (rb n M) ds = some ps → PyData.depthAll ps ≤ n ∧ PyData.canLayAll0 ps = true
  | [], ps, h => by
    simp [mapO] at h; subst h
    exact ⟨Nat.zero_le _, rfl⟩
  | d :: ds, ps, h => by
    simp only [mapO] at h
    cases e1 : rb n M d with
    | none => rw [e1] at h; cases h
    | some p =>
      rw [e1] at h
      cases e2 : mapO (rb n M) ds with
      | none => simp [e2] at h
      | some qs =>
        simp [e2] at h
        subst h
        obtain ⟨a1, a2⟩ := ih d p e1
        obtain ⟨b1, b2⟩ := mapO_depth ih e2
        refine ⟨?_, ?_⟩
        · show max p.depth (PyData.depthAll qs) ≤ n
          omega
        · show (p.canLay0 && PyData.canLayAll0 qs) = true
          rw [a2, b2]; rfl
theorem rb_small {M : Mem} : ∀ (n : Nat) (d : D) (p : PyData), rb n M d = some p → p.depth ≤ n ∧ p.canLay0 = true
  | n, .non, p, h => by simp [rb] at h; subst h; exact ⟨Nat.zero_le _, rfl⟩
  | n, .bl b, p, h => by simp [rb] at h; subst h; exact ⟨Nat.zero_le _, rfl⟩
  | n, .int b, p, h => by simp [rb] at h; subst h; exact ⟨Nat.zero_le _, rfl⟩
  | n, .str x, p, h => by
    simp [rb] at h
    obtain ⟨h1, h2⟩ := h
    subst h2; exact ⟨Nat.zero_le _, h1⟩
  | 0, .tup _, p, h => by simp [rb] at h
  | 0, .con _, p, h => by simp [rb] at h
  | 0, .ref _, p, h => by simp [rb] at h
  | n + 1, .tup ds, p, h => by
    simp only [rb] at h
    cases e : mapO (rb n M) ds with
    | none => rw [e] at h; cases h
    | some ps =>
      rw [e] at h; cases h
      obtain ⟨a, b⟩ := mapO_depth (rb_small n) e
      exact ⟨Nat.succ_le_succ a, b⟩
  | n + 1, .con ds, p, h => by
    simp only [rb] at h
    cases e : mapO (rb n M) ds with
    | none => rw [e] at h; cases h
    | some ps =>
      rw [e] at h; cases h
      obtain ⟨a, b⟩ := mapO_depth (rb_small n) e
      exact ⟨Nat.succ_le_succ a, b⟩
  | n + 1, .ref a, p, h => by
    simp only [rb] at h
    cases e0 : M a with
    | none => rw [e0] at h; cases h
    | some o =>
      rw [e0] at h
      cases o with
      | dct _ _ => cases h
      | lst ds =>
        simp only at h
        cases e : mapO (rb n M) ds with
        | none => rw [e] at h; cases h
        | some ps =>
          rw [e] at h; cases h
          obtain ⟨a, b⟩ := mapO_depth (rb_small n) e
          exact ⟨Nat.succ_le_succ a, b⟩
theorem mapO_reads {K : PySem.W.Frag} {H : Hp} {n : Nat} {M : Mem} {h : Heap} (ih : ∀ d p v u, rb n M d = some p → RD K H d v → RelV v u → ∃ as, Reads h u p as) :
    ∀ {ds : List D} {ps : List PyData} {vs : List V} {us : List Value}, mapO (rb n M) ds = some ps → RDs K H ds vs → Vals vs us → ∃ as, ReadsAll h us ps as
  | [], ps, vs, us, hm, r, rv => by
    simp [mapO] at hm; subst hm
    rw [RDs.nil_iff.mp r] at rv
    cases rv
    exact ⟨_, .nil⟩
  | d :: ds, ps, vs, us, hm, r, rv => by
    obtain ⟨v, vr, rfl, r1, r2⟩ := RDs.cons_iff.mp r
    cases rv with
    | cons q1 q2 =>
      simp only [mapO] at hm
      cases e1 : rb n M d with
      | none => rw [e1] at hm; cases hm
      | some p =>
        rw [e1] at hm
        cases e2 : mapO (rb n M) ds with
        | none => simp [e2] at hm
        | some qs =>
          simp [e2] at hm
          subst hm
          obtain ⟨as, ra⟩ := ih d p v _ e1 r1 q1
          obtain ⟨bs, rbs⟩ := mapO_reads ih e2 r2 q2
          exact ⟨_, .cons ra rbs⟩
theorem rb_reads {pins : List (Addr × Obj)} {σ : St} {H : Hp} {s : Shared} {M : Mem} (I : Inv X pins σ H s) (rm : RM X.K M H) : ∀ (n : Nat) (d : D) (p : PyData) (v : V) (u : Value), rb n M d = some p → RD X.K H d v → RelV v u → ∃ as, Reads s.heap u p as
  | n, .non, p, v, u, h, r, q => by simp [rb] at h; subst h; cases RD.non_iff.mp r; cases q; exact ⟨_, .none⟩
  | n, .bl b, p, v, u, h, r, q => by simp [rb] at h; subst h; cases RD.bl_iff.mp r; cases q; exact ⟨_, .bool b⟩
  | n, .int b, p, v, u, h, r, q => by simp [rb] at h; subst h; cases RD.int_iff.mp r; obtain ⟨t, rfl⟩ := q; exact ⟨_, .int b t⟩
  | n, .str x, p, v, u, h, r, q => by
    simp [rb] at h
    obtain ⟨_, h2⟩ := h
    subst h2; cases RD.str_iff.mp r; obtain ⟨t, rfl⟩ := q; exact ⟨_, .str x t⟩
  | 0, .tup _, p, _, _, h, _, _ => by simp [rb] at h
  | 0, .con _, p, _, _, h, _, _ => by simp [rb] at h
  | 0, .ref _, p, _, _, h, _, _ => by simp [rb] at h
  | n + 1, .tup ds, p, v, u, h, r, q => by
    simp only [rb] at h
    cases e : mapO (rb n M) ds with
    | none => rw [e] at h; cases h
    | some ps =>
      rw [e] at h; cases h
      obtain ⟨a, vs, rfl, ha, rs⟩ := RD.tup_iff.mp r
      cases q
      obtain ⟨its, rv, ⟨o, ho, hc, k, hd⟩, _⟩ := I.tuple (SqT.of ha)
      obtain ⟨as, ra⟩ := mapO_reads (rb_reads I rm n) e rs rv
      exact ⟨_, .tuple ho hc hd (by simpa using ra)⟩
  | n + 1, .con ds, p, v, u, h, r, q => by
    simp only [rb] at h
    cases e : mapO (rb n M) ds with
    | none => rw [e] at h; cases h
    | some ps =>
      rw [e] at h; cases h
      obtain ⟨a, vs, rfl, ha, rs⟩ := RD.con_iff.mp r
      cases q
      obtain ⟨its, rv, ⟨o, k, ho, hc, _, hd⟩, _⟩ := I.list ha.sq
      obtain ⟨as, ra⟩ := mapO_reads (rb_reads I rm n) e rs rv
      exact ⟨_, .list ho hc hd (by simpa using ra)⟩
  | n + 1, .ref a, p, v, u, h, r, q => by
    simp only [rb] at h
    cases e0 : M a with
    | none => rw [e0] at h; cases h
    | some o =>
      rw [e0] at h
      cases o with
      | dct _ _ => cases h
      | lst ds =>
        simp only at h
        cases e : mapO (rb n M) ds with
        | none => rw [e] at h; cases h
        | some ps =>
          rw [e] at h; cases h
          cases RD.ref_iff.mp r
          cases q
          obtain ⟨vs, ha, rs⟩ := rm _ _ e0
          obtain ⟨its, rv, ⟨o, k, ho, hc, _, hd⟩, _⟩ := I.list (SqL.of ha)
          obtain ⟨as, ra⟩ := mapO_reads (rb_reads I rm n) e rs rv
          exact ⟨_, .list ho hc hd (by simpa using ra)⟩
def wEq : R2d := fun x y M Q => ∃ p q, rb 16 M x = some p ∧ rb 16 M y = some q ∧ Q (.bl (PyData.eqv p q)) M
def wNe : R2d := fun x y M Q => ∃ p q, rb 16 M x = some p ∧ rb 16 M y = some q ∧ Q (.bl (!PyData.eqv p q)) M
theorem mono_eq : Mono2 wEq := fun _ _ _ _ _ h ⟨p, q, a, b, c⟩ => ⟨p, q, a, b, h _ _ c⟩
theorem mono_ne : Mono2 wNe := fun _ _ _ _ _ h ⟨p, q, a, b, c⟩ => ⟨p, q, a, b, h _ _ c⟩
theorem op_eq_d (hu : X.A.units + 16 < cLine) : OpR X (compareOp .Eq) (l2 X.K wEq) := by
  intro pins s σ H x y v u Q I rx ry h
  obtain ⟨d, e, M, rm, rd, re, p, q, hp, hq, k⟩ := h
  obtain ⟨as, ra⟩ := rb_reads I rm _ _ _ _ _ hp rd rx
  obtain ⟨bs, rb'⟩ := rb_reads I rm _ _ _ _ _ hq re ry
  obtain ⟨p1, p2⟩ := rb_small _ _ _ hp
  obtain ⟨q1, q2⟩ := rb_small _ _ _ hq
  exact SeqAt.compareEq_reads ra rb' p2 q2 (by omega) ⟨.bl _, H, I, rfl, k _ H Ext.refl rm (RD.bl_iff.mpr rfl)⟩
theorem op_ne_d (hu : X.A.units + 16 < cLine) : OpR X (compareOp .NotEq) (l2 X.K wNe) := by
  intro pins s σ H x y v u Q I rx ry h
  obtain ⟨d, e, M, rm, rd, re, p, q, hp, hq, k⟩ := h
  obtain ⟨as, ra⟩ := rb_reads I rm _ _ _ _ _ hp rd rx
  obtain ⟨bs, rb'⟩ := rb_reads I rm _ _ _ _ _ hq re ry
  obtain ⟨p1, p2⟩ := rb_small _ _ _ hp
  obtain ⟨q1, q2⟩ := rb_small _ _ _ hq
  exact SeqAt.compareNe_reads ra rb' p2 q2 (by omega) ⟨.bl _, H, I, rfl, k _ H Ext.refl rm (RD.bl_iff.mpr rfl)⟩
/-! ### order, is, in -/
def wLt : R2d
  | .int i, .int j, M, Q => Q (.bl (decide (i < j))) M
  | _, _, _, _ => False
def wLe : R2d
  | .int i, .int j, M, Q => Q (.bl (decide (i ≤ j))) M
  | _, _, _, _ => False
def wGt : R2d
  | .int i, .int j, M, Q => Q (.bl (decide (j < i))) M
  | _, _, _, _ => False
def wGe : R2d
  | .int i, .int j, M, Q => Q (.bl (decide (j ≤ i))) M
  | _, _, _, _ => False
theorem mono_lt : Mono2 wLt := by
  intro x y M Q Q' h q
  cases x <;> cases y <;> first | exact q.elim | exact h _ _ q
theorem mono_le : Mono2 wLe := by
  intro x y M Q Q' h q
  cases x <;> cases y <;> first | exact q.elim | exact h _ _ q
theorem mono_gt : Mono2 wGt := by
  intro x y M Q Q' h q
  cases x <;> cases y <;> first | exact q.elim | exact h _ _ q
theorem mono_ge : Mono2 wGe := by
  intro x y M Q Q' h q
  cases x <;> cases y <;> first | exact q.elim | exact h _ _ q
theorem op_lt_d : OpR X (compareOp .Lt) (l2 X.K wLt) := by
  refine OpR.of op_lt fun v u H Q h => ?_
  obtain ⟨x, y, M, rm, rx, ry, q⟩ := h
  cases x <;> cases y <;> first
    | exact q.elim
    | (cases RD.int_iff.mp rx; cases RD.int_iff.mp ry; exact ⟨_, _, rfl, rfl, q _ H Ext.refl rm (RD.bl_iff.mpr rfl)⟩)
theorem op_le_d : OpR X (compareOp .LtE) (l2 X.K wLe) := by
  refine OpR.of op_le fun v u H Q h => ?_
  obtain ⟨x, y, M, rm, rx, ry, q⟩ := h
  cases x <;> cases y <;> first
    | exact q.elim
    | (cases RD.int_iff.mp rx; cases RD.int_iff.mp ry; exact ⟨_, _, rfl, rfl, q _ H Ext.refl rm (RD.bl_iff.mpr rfl)⟩)
theorem op_gt_d : OpR X (compareOp .Gt) (l2 X.K wGt) := by
  refine OpR.of op_gt fun v u H Q h => ?_
  obtain ⟨x, y, M, rm, rx, ry, q⟩ := h
  cases x <;> cases y <;> first
    | exact q.elim
    | (cases RD.int_iff.mp rx; cases RD.int_iff.mp ry; exact ⟨_, _, rfl, rfl, q _ H Ext.refl rm (RD.bl_iff.mpr rfl)⟩)
theorem op_ge_d : OpR X (compareOp .GtE) (l2 X.K wGe) := by
  refine OpR.of op_ge fun v u H Q h => ?_
  obtain ⟨x, y, M, rm, rx, ry, q⟩ := h
  cases x <;> cases y <;> first
    | exact q.elim
    | (cases RD.int_iff.mp rx; cases RD.int_iff.mp ry; exact ⟨_, _, rfl, rfl, q _ H Ext.refl rm (RD.bl_iff.mpr rfl)⟩)
end
end Mi
end L2
namespace L2
namespace Mi
open PySem PySem.Spec PyProof.Rows

/-! ### items -/
def wIx : R2d := fun x y M Q => match x with
  | .tup ds => ∃ i d, y = .int i ∧ atI ds i = some d ∧ Q d M
  | .con ds => ∃ i d, y = .int i ∧ atI ds i = some d ∧ Q d M
  | .ref a => (∃ ds i d, M a = some (.lst ds) ∧ y = .int i ∧ atI ds i = some d ∧ Q d M) ∨ ∃ t kvs d, M a = some (.dct t kvs) ∧ keyOk t y = true ∧ dget kvs y = some d ∧ Q d M
  | _ => False
theorem mono_ix : Mono2 wIx := by
  intro x y M Q Q' h q
  cases x with
  | tup ds => obtain ⟨i, d, e, e2, q⟩ := q; exact ⟨i, d, e, e2, h _ _ q⟩
  | con ds => obtain ⟨i, d, e, e2, q⟩ := q; exact ⟨i, d, e, e2, h _ _ q⟩
  | ref a =>
    rcases q with ⟨ds, i, d, e1, e2, e3, q⟩ | ⟨t, kvs, d, e1, e2, e3, q⟩
    · exact .inl ⟨ds, i, d, e1, e2, e3, h _ _ q⟩
    · exact .inr ⟨t, kvs, d, e1, e2, e3, h _ _ q⟩
  | _ => exact q.elim
theorem atI_rd {K : PySem.W.Frag} {H : Hp} {ds : List D} {vs : List V} {i : Int} {d : D} (r : RDs K H ds vs) (e : atI ds i = some d) : ∃ v, atI vs i = some v ∧ RD K H d v := by
  unfold atI at e ⊢
  rw [r.length]
  cases q : ixN ds.length i with
  | none => rw [q] at e; cases e
  | some j =>
    rw [q] at e
    exact r.get e

/-! keys of dicts -/
theorem rkey_kV {K : PySem.W.Frag} {H : Hp} {k : D} {q : Key} {v : V} (r : RKey k q) (h : RD K H k v) : v = kV q := by
  cases k <;> first
    | exact r.elim
    | (cases (show q = _ from r); first | exact RD.int_iff.mp h | exact RD.str_iff.mp h)
theorem rkeys_kV {K : PySem.W.Frag} {H : Hp} : ∀ {ds : List D} {ks : List Key} {vs : List V}, Paired RKey ds ks → RDs K H ds vs → vs = ks.map kV
  | _, _, vs, .nil, h => by rw [RDs.nil_iff.mp h]; rfl
  | _, _, vs, .cons r t, h => by
    obtain ⟨v, vr, rfl, h1, h2⟩ := RDs.cons_iff.mp h
    rw [rkey_kV r h1, rkeys_kV t h2]; rfl
theorem RKey.inj {d e : D} {k : Key} (a : RKey d k) (b : RKey e k) : d = e := by
  cases d <;> first
    | exact a.elim
    | (cases e <;> first | exact b.elim | (cases (show k = _ from a); injection (show _ = _ from b) with z; rw [z]) | (cases (show k = _ from a); cases (show _ = _ from b)))
theorem RKeysP.inj : ∀ {d e : List D} {k : List Key}, Paired RKey d k → Paired RKey e k → d = e
  | _, _, _, .nil, .nil => rfl
  | _, _, _, .cons r t, .cons r' t' => by rw [r.inj r', RKeysP.inj t t']
theorem RKeys.inj {d e : D} {k : List Key} (a : RKeys d k) (b : RKeys e k) : d = e := by
  cases d <;> first
    | exact a.elim
    | (cases e <;> first | exact b.elim | exact congrArg D.tup (RKeysP.inj a b))
theorem RKey.fun {d : D} {k k' : Key} (a : RKey d k) (b : RKey d k') : k = k' := by
  cases d <;> first
    | exact a.elim
    | (cases (show k = _ from a); cases (show k' = _ from b); rfl)
theorem RKeysP.fun : ∀ {d : List D} {k k' : List Key}, Paired RKey d k → Paired RKey d k' → k = k'
  | _, _, _, .nil, .nil => rfl
  | _, _, _, .cons r t, .cons r' t' => by rw [r.fun r', RKeysP.fun t t']
theorem RKeys.fun {d : D} {k k' : List Key} (a : RKeys d k) (b : RKeys d k') : k = k' := by
  cases d <;> first
    | exact a.elim
    | exact RKeysP.fun a b
section
variable {κ : Type} [DecidableEq κ] {K : PySem.W.Frag} {H : Hp} {RK : D → κ → Prop} (inj : ∀ {d e : D} {k : κ}, RK d k → RK e k → d = e) (fn : ∀ {d : D} {k k' : κ}, RK d k → RK d k' → k = k')
include inj fn
theorem dget_rel {k : D} {q : κ} (hk : RK k q) : ∀ {kvs : List (D × D)} {ps : List (κ × V)}, Paired (fun p r => RK p.1 r.1 ∧ RD K H p.2 r.2) kvs ps →
    (∀ d, dget kvs k = some d → ∃ v, valV ps q = some v ∧ RD K H d v) ∧ (dget kvs k = none → valV ps q = none)
  | _, _, .nil => ⟨fun d e => by simp [dget] at e, fun _ => rfl⟩
  | _, _, .cons (a := p) (b := r) (l₂ := ps) hr t => by
    obtain ⟨ih1, ih2⟩ := dget_rel hk t
    by_cases e : p.1 = k
    · have e' : r.1 = q := by
        have h1 := hr.1
        rw [e] at h1
        exact fn h1 hk
      refine ⟨fun d he => ?_, fun he => ?_⟩
      · simp [dget, List.find?_cons, e] at he
        subst he
        exact ⟨r.2, valV_pos e', hr.2⟩
      · simp [dget, List.find?_cons, e] at he
    · have e' : ¬ r.1 = q := fun z => e (by
        have h1 := hr.1
        rw [z] at h1
        exact inj h1 hk)
      have eq1 : ∀ l : List (D × D), dget (p :: l) k = dget l k := fun l => by simp [dget, List.find?_cons, e]
      have eq2 : valV (r :: ps) q = valV ps q := valV_neg e'
      refine ⟨fun d he => ?_, fun he => ?_⟩
      · rw [eq1] at he
        rw [eq2]
        exact ih1 d he
      · rw [eq1] at he
        rw [eq2]
        exact ih2 he
end

section
variable {X : Cx}
/-- what a dict has at a key -/
theorem dget_of {K : PySem.W.Frag} {M : Mem} {H : Hp} {a : Addr} {t : Bool} {kvs : List (D × D)} {k : D} {v : V} (rm : RM K M H) (e : M a = some (.dct t kvs)) (ok : keyOk t k = true) (rk : RD K H k v) :
    ∃ o, DGet H a v o ∧ (∀ d, dget kvs k = some d → ∃ w, o = some w ∧ RD K H d w) ∧ (dget kvs k = none → o = none) := by
  have ro := rm a _ e
  cases t with
  | false =>
    obtain ⟨ps, hp, pr⟩ := ro
    obtain ⟨q, hq⟩ := key_ex (show isKey k = true from ok)
    obtain ⟨g1, g2⟩ := dget_rel (RK := RKey) RKey.inj RKey.fun hq pr
    refine ⟨valV ps q, ?_, g1, g2⟩
    rw [rkey_kV hq rk]
    exact DGet.k hp
  | true =>
    obtain ⟨ps, hp, pr⟩ := ro
    obtain ⟨q, hq⟩ := keyT_ex (show isKeyT k = true from ok)
    obtain ⟨g1, g2⟩ := dget_rel (RK := RKeys) RKeys.inj RKeys.fun hq pr
    refine ⟨valV ps q, ?_, g1, g2⟩
    cases k <;> first
      | exact hq.elim
      | (obtain ⟨b, us, rfl, hb, ru⟩ := RD.tup_iff.mp rk
         rw [rkeys_kV hq ru] at hb
         exact DGet.t hp hb)
theorem ix_dict (hu : X.A.units + 1 < cLine) : IxR X (fun x y H Q => ∃ a v, x = .ref a ∧ DGet H a y (some v) ∧ Q v H) := by
  intro value slice pins s σ H x y v u Q I rx ry h hs
  obtain ⟨a, w, rfl, g, q⟩ := h
  cases rx
  have hd : IsD H a := by
    rcases g with ⟨kvs, k, e, _⟩ | ⟨kvs, k, b, e, _⟩
    · exact .inl ⟨kvs, e⟩
    · exact .inr ⟨kvs, e⟩
  obtain ⟨ht, _⟩ := isD_at I hd
  exact tail_any ht PySem.F.slot_dict_getitem.lookup (d_getItem hu I g ry fun w' s' I' r' => ⟨w, H, I', r', q⟩) hs
theorem ix_d (hu : X.A.units + 1 < cLine) : IxR X (l2 X.K wIx) := by
  refine IxR.of (ix_list.or (ix_tup.or (ix_dict hu))) fun v u H Q h => ?_
  obtain ⟨x, y, M, rm, rx, ry, q⟩ := h
  cases x with
  | tup ds =>
    obtain ⟨i, d, rfl, e, q⟩ := q
    obtain ⟨a, vs, rfl, ha, rs⟩ := RD.tup_iff.mp rx
    cases RD.int_iff.mp ry
    obtain ⟨w, hw, rw'⟩ := atI_rd rs e
    exact .inr (.inl ⟨a, vs, i, w, rfl, rfl, SqT.of ha, hw, q w H Ext.refl rm rw'⟩)
  | con ds =>
    obtain ⟨i, d, rfl, e, q⟩ := q
    obtain ⟨a, vs, rfl, ha, rs⟩ := RD.con_iff.mp rx
    cases RD.int_iff.mp ry
    obtain ⟨w, hw, rw'⟩ := atI_rd rs e
    exact .inl ⟨a, vs, i, w, rfl, rfl, ha.sq, hw, q w H Ext.refl rm rw'⟩
  | ref a =>
    cases RD.ref_iff.mp rx
    rcases q with ⟨ds, i, d, e1, rfl, e3, q⟩ | ⟨t, kvs, d, e1, e2, e3, q⟩
    · cases RD.int_iff.mp ry
      obtain ⟨vs, ha, rs⟩ := rm _ _ e1
      obtain ⟨w, hw, rw'⟩ := atI_rd rs e3
      exact .inl ⟨a, vs, i, w, rfl, rfl, SqL.of ha, hw, q w H Ext.refl rm rw'⟩
    · obtain ⟨o, g, g1, _⟩ := dget_of rm e1 e2 ry
      obtain ⟨w, rfl, rw'⟩ := g1 d e3
      exact .inr (.inr ⟨a, w, rfl, g, q w H Ext.refl rm rw'⟩)
  | _ => exact q.elim

/-! ### built-in functions -/
def lenD (M : Mem) : D → Option Nat
  | .tup ds => some ds.length
  | .con ds => some ds.length
  | .ref a => match M a with
    | some (.lst ds) => some ds.length
    | _ => none
  | _ => none
def wLen : RAd := fun xs M Q => ∃ x n, xs = [x] ∧ lenD M x = some n ∧ Q (.int n) M
theorem mono_len : MonoAr wLen := fun _ _ _ _ h ⟨x, n, e, l, q⟩ => ⟨x, n, e, l, h _ _ q⟩
theorem RDs.one {K : PySem.W.Frag} {H : Hp} {d : D} {vs : List V} (h : RDs K H [d] vs) : ∃ v, vs = [v] ∧ RD K H d v := by
  obtain ⟨v, r, rfl, h1, h2⟩ := RDs.cons_iff.mp h
  rw [RDs.nil_iff.mp h2]
  exact ⟨v, rfl, h1⟩
theorem RDs.two {K : PySem.W.Frag} {H : Hp} {d e : D} {vs : List V} (h : RDs K H [d, e] vs) : ∃ v u, vs = [v, u] ∧ RD K H d v ∧ RD K H e u := by
  obtain ⟨v, r, rfl, h1, h2⟩ := RDs.cons_iff.mp h
  obtain ⟨u, rfl, h3⟩ := RDs.one h2
  exact ⟨v, u, rfl, h1, h3⟩
theorem call_len_d : CallR X (.builtin "len") (lR X.K wLen) := by
  refine CallR.of call_len fun vs H Q h => ?_
  obtain ⟨ds, M, rm, rs, x, n, rfl, l, q⟩ := h
  obtain ⟨v, rfl, r⟩ := rs.one
  refine ⟨v, n, rfl, ?_, q _ H Ext.refl rm (RD.int_iff.mpr rfl)⟩
  cases x with
  | tup ds =>
    cases l
    obtain ⟨a, us, rfl, ha, ru⟩ := RD.tup_iff.mp r
    exact .inr ⟨us, SqT.of ha, ru.length.symm⟩
  | con ds =>
    cases l
    obtain ⟨a, us, rfl, ha, ru⟩ := RD.con_iff.mp r
    exact .inl ⟨us, ha.sq, ru.length.symm⟩
  | ref a =>
    cases RD.ref_iff.mp r
    simp only [lenD] at l
    cases e : M a with
    | none => rw [e] at l; cases l
    | some o =>
      rw [e] at l
      cases o with
      | dct _ _ => cases l
      | lst ds =>
        cases l
        obtain ⟨us, ha, ru⟩ := rm _ _ e
        exact .inl ⟨us, SqL.of ha, ru.length.symm⟩
  | _ => cases l
def wAbs : RAd := fun xs M Q => ∃ i, xs = [.int i] ∧ Q (.int (if i < 0 then -i else i)) M
def wMax2 : RAd := fun xs M Q => ∃ i j, xs = [.int i, .int j] ∧ Q (.int (if j > i then j else i)) M
def wMin2 : RAd := fun xs M Q => ∃ i j, xs = [.int i, .int j] ∧ Q (.int (if j < i then j else i)) M
def wInt : RAd := fun xs M Q => (∃ i, xs = [.int i] ∧ Q (.int i) M) ∨ ∃ k, xs = [.bl k] ∧ Q (.int (if k then 1 else 0)) M
theorem mono_abs : MonoAr wAbs := fun _ _ _ _ h ⟨i, e, q⟩ => ⟨i, e, h _ _ q⟩
theorem mono_max2 : MonoAr wMax2 := fun _ _ _ _ h ⟨i, j, e, q⟩ => ⟨i, j, e, h _ _ q⟩
theorem mono_min2 : MonoAr wMin2 := fun _ _ _ _ h ⟨i, j, e, q⟩ => ⟨i, j, e, h _ _ q⟩
theorem mono_int : MonoAr wInt := fun _ _ _ _ h q => q.elim (fun ⟨i, e, q⟩ => .inl ⟨i, e, h _ _ q⟩) fun ⟨i, e, q⟩ => .inr ⟨i, e, h _ _ q⟩
theorem call_abs_d : CallR X (.builtin "abs") (lR X.K wAbs) := by
  refine CallR.of call_abs fun vs H Q h => ?_
  obtain ⟨ds, M, rm, rs, i, rfl, q⟩ := h
  obtain ⟨v, rfl, r⟩ := rs.one
  cases RD.int_iff.mp r
  exact ⟨i, rfl, q _ H Ext.refl rm (RD.int_iff.mpr rfl)⟩
theorem call_max2_d (hc : X.calm = true) : CallR X (.builtin "max") (lR X.K wMax2) := by
  refine CallR.of (call_max2 hc) fun vs H Q h => ?_
  obtain ⟨ds, M, rm, rs, i, j, rfl, q⟩ := h
  obtain ⟨v, u, rfl, r1, r2⟩ := rs.two
  cases RD.int_iff.mp r1
  cases RD.int_iff.mp r2
  exact ⟨i, j, rfl, q _ H Ext.refl rm (RD.int_iff.mpr rfl)⟩
theorem call_min2_d (hc : X.calm = true) : CallR X (.builtin "min") (lR X.K wMin2) := by
  refine CallR.of (call_min2 hc) fun vs H Q h => ?_
  obtain ⟨ds, M, rm, rs, i, j, rfl, q⟩ := h
  obtain ⟨v, u, rfl, r1, r2⟩ := rs.two
  cases RD.int_iff.mp r1
  cases RD.int_iff.mp r2
  exact ⟨i, j, rfl, q _ H Ext.refl rm (RD.int_iff.mpr rfl)⟩
theorem call_int_d : CallR X (.type "int") (lR X.K wInt) := by
  refine CallR.of call_int1 fun vs H Q h => ?_
  obtain ⟨ds, M, rm, rs, ⟨i, rfl, q⟩ | ⟨i, rfl, q⟩⟩ := h
  · obtain ⟨v, rfl, r⟩ := rs.one
    cases RD.int_iff.mp r
    exact .inl ⟨i, rfl, q _ H Ext.refl rm (RD.int_iff.mpr rfl)⟩
  · obtain ⟨v, rfl, r⟩ := rs.one
    cases RD.bl_iff.mp r
    exact .inr ⟨i, rfl, q _ H Ext.refl rm (RD.int_iff.mpr rfl)⟩
/-- the items of a list or a tuple -/
def seqD (M : Mem) : D → Option (List D)
  | .tup ds => some ds
  | .con ds => some ds
  | .ref a => match M a with
    | some (.lst ds) => some ds
    | _ => none
  | _ => none
theorem seq_of {K : PySem.W.Frag} {M : Mem} {H : Hp} {x : D} {ds : List D} {v : V} (rm : RM K M H) (r : RD K H x v) (e : seqD M x = some ds) : ∃ p vs, v = .ref p ∧ (SqL K H p vs ∨ SqT K H p vs) ∧ RDs K H ds vs := by
  cases x with
  | tup es =>
    cases e
    obtain ⟨a, us, rfl, ha, ru⟩ := RD.tup_iff.mp r
    exact ⟨a, us, rfl, .inr (SqT.of ha), ru⟩
  | con es =>
    cases e
    obtain ⟨a, us, rfl, ha, ru⟩ := RD.con_iff.mp r
    exact ⟨a, us, rfl, .inl ha.sq, ru⟩
  | ref a =>
    cases RD.ref_iff.mp r
    simp only [seqD] at e
    cases e0 : M a with
    | none => rw [e0] at e; cases e
    | some o =>
      rw [e0] at e
      cases o with
      | dct _ _ => cases e
      | lst es =>
        cases e
        obtain ⟨us, ha, ru⟩ := rm _ _ e0
        exact ⟨a, us, rfl, .inl (SqL.of ha), ru⟩
  | _ => cases e
def wList : RAd := fun xs M Q => ∃ x ds, xs = [x] ∧ seqD M x = some ds ∧ ∀ p, M p = none → Q (.ref p) (updM M p (.lst ds))
def wTuple : RAd := fun xs M Q => ∃ x ds, xs = [x] ∧ seqD M x = some ds ∧ Q (.tup ds) M
theorem mono_list : MonoAr wList := fun _ _ _ _ h ⟨x, ds, e, l, q⟩ => ⟨x, ds, e, l, fun p n => h _ _ (q p n)⟩
theorem mono_tuple : MonoAr wTuple := fun _ _ _ _ h ⟨x, ds, e, l, q⟩ => ⟨x, ds, e, l, h _ _ q⟩
theorem call_list_d : CallR X (.type "list") (lR X.K wList) := by
  refine CallR.of call_list_of fun vs H Q h => ?_
  obtain ⟨ds, M, rm, rs, x, es, rfl, l, q⟩ := h
  obtain ⟨v, rfl, r⟩ := rs.one
  obtain ⟨p, us, rfl, sq, ru⟩ := seq_of rm r l
  exact ⟨p, us, rfl, sq, fun l' n => lay_lst rm ru q n⟩
theorem call_tuple_d : CallR X (.type "tuple") (lR X.K wTuple) := by
  refine CallR.of call_tuple_of fun vs H Q h => ?_
  obtain ⟨ds, M, rm, rs, x, es, rfl, l, q⟩ := h
  obtain ⟨v, rfl, r⟩ := rs.one
  cases x with
  | tup ds' =>
    cases l
    obtain ⟨a, us, rfl, ha, ru⟩ := RD.tup_iff.mp r
    exact ⟨a, us, rfl, .inr ⟨SqT.of ha, q _ H Ext.refl rm r⟩⟩
  | con ds' =>
    cases l
    obtain ⟨a, us, rfl, ha, ru⟩ := RD.con_iff.mp r
    exact ⟨a, us, rfl, .inl ⟨ha.sq, fun l' n => lay_tup rm ru q n⟩⟩
  | ref a =>
    cases RD.ref_iff.mp r
    simp only [seqD] at l
    cases e0 : M a with
    | none => rw [e0] at l; cases l
    | some o =>
      rw [e0] at l
      cases o with
      | dct _ _ => cases l
      | lst es' =>
        cases l
        obtain ⟨us, ha, ru⟩ := rm _ _ e0
        exact ⟨a, us, rfl, .inl ⟨SqL.of ha, fun l' n => lay_tup rm ru q n⟩⟩
  | _ => cases l
end
end Mi
end L2
namespace L2
namespace Mi
open PySem PySem.Spec PyProof.Rows
section
variable {X : Cx}
/-! ### sum -/
def wSum : RAd := fun xs M Q => ∃ (x : D) (ns : List Int), xs = [x] ∧ seqD M x = some (ns.map D.int) ∧ Q (.int ns.sum) M
theorem mono_sum : MonoAr wSum := fun _ _ _ _ h ⟨x, ds, e, l, q⟩ => ⟨x, ds, e, l, h _ _ q⟩
theorem RDs.ints_eq {K : PySem.W.Frag} {H : Hp} : ∀ {ns : List Int} {vs : List V}, RDs K H (ns.map D.int) vs → vs = ns.map V.int
  | [], _, h => RDs.nil_iff.mp h
  | n :: ns, _, h => by
    obtain ⟨v, r, rfl, h1, h2⟩ := RDs.cons_iff.mp h
    rw [RD.int_iff.mp h1, RDs.ints_eq h2]; rfl
theorem sum_walk {pins : List (Addr × Obj)} {σ : St} {H : Hp} {s : Shared} {Q : VK} {p : Addr} {ns : List Int} {its : List Value} (I : Inv X pins σ H s) (hc : X.calm = true) (rv : Vals (ns.map V.int) its) (q : Q (.int ns.sum) H)
    (h : ∀ (R : Value → Shared → Prop), (∀ I' St fp, (∀ b ∈ fp, b < (s.heap.push I').objs.size) → St 0 (s.heap.push I') → Walks X.prog X.w X.A.in1 s.heap.objs.size fp [s.heap.objs.size] its.toArray.size (fun i v => its.toArray[i]? = some v) St → R (.ref s.heap.objs.size) { s with heap := s.heap.push I' }) → wpAny (model X.prog X.w) X.A.in1 (pyIter (.ref p)) R X.xe s) :
    wpAny (model X.prog X.w) X.A (call (.builtin "sum") [.ref p]) (EP X pins σ Q) X.xe s := by
  refine call_sum_walkG (h _ fun ob St fp hfp st W => ⟨_, fp, _, _, _, St, fun i => ns.getD i 0, rfl, W, st, hfp, fun i v hv => ?_, fun h' tk t' hk => ?_⟩)
  · have hv' : its[i]? = some v := by simpa using hv
    have hl := rv.length
    rw [List.length_map] at hl
    have hi : i < its.length := (List.getElem?_eq_some_iff.mp hv').1
    have e1 : (ns.map V.int)[i]? = some (.int (ns.getD i 0)) := by
      rw [List.getElem?_map, List.getElem?_eq_getElem (by omega)]
      simp [List.getD_eq_getElem?_getD, List.getElem?_eq_getElem (show i < ns.length by omega)]
    obtain ⟨u, hu, t, rfl⟩ := rv.get e1
    rw [hv'] at hu; cases hu
    exact ⟨t, rfl⟩
  · have e : preSum (fun i => ns.getD i 0) its.toArray.size = ns.sum := by
      rw [preSum_getD, List.size_toArray, ← rv.length, List.length_map, List.take_length]
    rw [e]
    refine ⟨.int ns.sum, H, I.kept (h' := h') (t' := tk) fun b o eb => ?_, ⟨t', rfl⟩, q⟩
    exact hk b o (by simp; exact Nat.ne_of_lt (Heap.lt_size eb)) (Heap.get?_push_of_some _ eb)
theorem call_sum_d (hc : X.calm = true) : CallR X (.builtin "sum") (lR X.K wSum) := by
  intro pins s σ H xs us Q I rv h
  obtain ⟨ds, M, rm, rs, x, ns, rfl, l, q⟩ := h
  obtain ⟨v, rfl, r⟩ := rs.one
  obtain ⟨u, rfl, ru⟩ := vals1 rv
  obtain ⟨p, vs, rfl, sq, r2⟩ := seq_of rm r l
  cases ru
  have e := RDs.ints_eq r2
  subst e
  have fin := q (.int ns.sum) H Ext.refl rm (RD.int_iff.mpr rfl)
  rcases sq with sq | sq
  · obtain ⟨its, rv, pl, hz⟩ := I.list sq
    have hne : p ≠ s.heap.objs.size := by
      obtain ⟨o, n, e, _⟩ := pl
      exact Nat.ne_of_lt (Heap.lt_size e)
    refine sum_walk I hc rv fin fun R hR => wpAny_pyIter_list pl.isList ?_
    refine hR _ _ [s.heap.objs.size, p] (fun b hb => ?_) ⟨⟨_, Heap.get?_push_size _ rfl, rfl, rfl⟩, pl.isList.at fun o e => Heap.get?_push_of_some _ e⟩ (Walks.list (by rw [Around.in1_handled]; exact I.ok.hd hc) s.heap.objs.size p hne its.toArray)
    rw [Heap.size_push]
    rcases List.mem_cons.mp hb with z | z
    · omega
    · have z' : b = p := by simpa using z
      subst z'
      obtain ⟨o, n, e, _⟩ := pl
      exact Nat.lt_succ_of_lt (Heap.lt_size e)
  · obtain ⟨its, rv, pl, hz⟩ := I.tuple sq
    have hlt : p < s.heap.objs.size := by
      obtain ⟨o, e, _⟩ := pl
      exact Heap.lt_size e
    refine sum_walk I hc rv fin fun R hR => wpAny_pyIter_tuple (show s.heap.IsTuple p its.toArray from pl) ?_
    refine hR _ _ [s.heap.objs.size, p] (fun b hb => ?_) ⟨⟨_, Heap.get?_push_size _ rfl, rfl, rfl⟩, ?_⟩ (Walks.tuple (by rw [Around.in1_handled]; exact I.ok.hd hc) s.heap.objs.size p (Nat.ne_of_lt hlt) its.toArray)
    · rw [Heap.size_push]
      rcases List.mem_cons.mp hb with z | z
      · omega
      · have z' : b = p := by simpa using z
        rw [z']
        exact Nat.lt_succ_of_lt hlt
    · obtain ⟨o, e, c, n, d⟩ := pl
      exact ⟨o, Heap.get?_push_of_some _ e, c, n, d⟩

/-! ### tests, bools -/
def truD (M : Mem) : D → Option Bool
  | .non => some false
  | .bl b => some b
  | .int i => some (i != 0)
  | .tup ds => some (!ds.isEmpty)
  | .con ds => some (!ds.isEmpty)
  | .ref a => match M a with
    | some (.lst ds) => some (!ds.isEmpty)
    | _ => none
  | _ => none
def wTru (t : TEd) : TTd := fun ρ M Q => t ρ M fun x M1 => ∃ b, truD M1 x = some b ∧ Q b M1
theorem mono_tru {t : TEd} (h : MonoE t) : MonoT (wTru t) := fun ρ M Q Q' i q => h _ _ _ _ (fun x M1 ⟨k, e, q1⟩ => ⟨k, e, i _ _ q1⟩) q
theorem tru_of {K : PySem.W.Frag} {M : Mem} {H : Hp} {x : D} {b : Bool} {v : V} (rm : RM K M H) (r : RD K H x v) (e : truD M x = some b) : TruV K v H b := by
  have emp : ∀ {ds : List D} {vs : List V}, RDs K H ds vs → (!ds.isEmpty) = !vs.isEmpty := fun {ds vs} h => by
    have l := h.length
    cases ds <;> cases vs <;> first | rfl | (simp at l)
  cases x with
  | non => cases e; cases RD.non_iff.mp r; rfl
  | bl k => cases e; cases RD.bl_iff.mp r; rfl
  | int i => cases e; cases RD.int_iff.mp r; rfl
  | tup ds =>
    cases e
    obtain ⟨a, vs, rfl, ha, rs⟩ := RD.tup_iff.mp r
    exact .inr (.inl ⟨vs, SqT.of ha, emp rs⟩)
  | con ds =>
    cases e
    obtain ⟨a, vs, rfl, ha, rs⟩ := RD.con_iff.mp r
    exact .inl ⟨vs, ha.sq, emp rs⟩
  | ref a =>
    cases RD.ref_iff.mp r
    simp only [truD] at e
    cases e0 : M a with
    | none => rw [e0] at e; cases e
    | some o =>
      rw [e0] at e
      cases o with
      | dct _ _ => cases e
      | lst ds =>
        cases e
        obtain ⟨vs, ha, rs⟩ := rm _ _ e0
        exact .inl ⟨vs, SqL.of ha, emp rs⟩
  | str _ => cases e
variable {a b : Expr} {ta tb : TEd} {pos : Pos}
theorem lt_tru (m : MonoE ta) (ha : PE X a (lE X.K ta)) (he : ∀ whole, isTrue a X.env whole = (do let v ← whole; standAt a.pos; holding [v] (truthy v))) : PT X a (lT X.K (wTru ta)) := by
  refine PT.imp (pt_truth ha he) fun σ H Q h => ?_
  obtain ⟨ρ, M, rs, rm, q⟩ := h
  exact ⟨ρ, M, rs, rm, m _ _ _ _ (fun x M1 ⟨k, e, q1⟩ v H1 x1 rm1 rd1 => ⟨k, tru_of rm1 rd1 e, q1 H1 x1 rm1⟩) q⟩
def wNotT (t : TTd) : TTd := fun ρ M Q => t ρ M fun c M1 => Q (!c) M1
theorem mono_notT {t : TTd} (h : MonoT t) : MonoT (wNotT t) := fun ρ M Q Q' i q => h _ _ _ _ (fun c M1 q1 => i _ _ q1) q
theorem lt_not {tA : TTd} (m : MonoT tA) (ha : PT X a (lT X.K tA)) : PT X (.UnaryOp .Not a pos) (lT X.K (wNotT tA)) := by
  refine PT.imp (pt_not ha) fun σ H Q h => ?_
  obtain ⟨ρ, M, rs, rm, q⟩ := h
  exact ⟨ρ, M, rs, rm, m _ _ _ _ (fun c M1 q1 => q1) q⟩
def wAndT (t u : TTd) : TTd := fun ρ M Q => t ρ M fun c M1 => if c = true then u ρ M1 Q else Q false M1
def wOrT (t u : TTd) : TTd := fun ρ M Q => t ρ M fun c M1 => if c = true then Q true M1 else u ρ M1 Q
theorem mono_andT {t u : TTd} (h : MonoT t) (k : MonoT u) : MonoT (wAndT t u) := fun ρ M Q Q' i q => h _ _ _ _ (fun c M1 q1 => by
  cases c with
  | true => rw [if_pos rfl] at q1 ⊢; exact k _ _ _ _ i q1
  | false => rw [if_neg Bool.false_ne_true] at q1 ⊢; exact i _ _ q1) q
theorem mono_orT {t u : TTd} (h : MonoT t) (k : MonoT u) : MonoT (wOrT t u) := fun ρ M Q Q' i q => h _ _ _ _ (fun c M1 q1 => by
  cases c with
  | true => rw [if_pos rfl] at q1 ⊢; exact i _ _ q1
  | false => rw [if_neg Bool.false_ne_true] at q1 ⊢; exact k _ _ _ _ i q1) q
theorem lw_and1 {tA : TTd} (ha : PT X a (lT X.K tA)) : PW X (.BoolOp .And [a] pos) (lT X.K tA) := pw_and1 ha
theorem lw_or1 {tA : TTd} (ha : PT X a (lT X.K tA)) : PW X (.BoolOp .Or [a] pos) (lT X.K tA) := pw_or1 ha
theorem lw_and {tA tB : TTd} {rest : List Expr} (mA : MonoT tA) (mB : MonoT tB) (ha : PT X a (lT X.K tA)) (hb : PW X (.BoolOp .And (b :: rest) pos) (lT X.K tB)) : PW X (.BoolOp .And (a :: b :: rest) pos) (lT X.K (wAndT tA tB)) := by
  refine PW.imp (pw_and ha hb) fun σ H Q h => ?_
  obtain ⟨ρ, M, rs, rm, q⟩ := h
  refine ⟨ρ, M, rs, rm, mA _ _ _ _ (fun c M1 q1 H1 x1 rm1 => ?_) q⟩
  cases c with
  | true => rw [if_pos rfl] at q1 ⊢; exact ⟨ρ, M1, rs.mono (x1.stab rm), rm1, mB _ _ _ _ (fun d M2 k => k.ext x1) q1⟩
  | false => rw [if_neg Bool.false_ne_true] at q1 ⊢; exact q1 H1 x1 rm1
theorem lw_or {tA tB : TTd} {rest : List Expr} (mA : MonoT tA) (mB : MonoT tB) (ha : PT X a (lT X.K tA)) (hb : PW X (.BoolOp .Or (b :: rest) pos) (lT X.K tB)) : PW X (.BoolOp .Or (a :: b :: rest) pos) (lT X.K (wOrT tA tB)) := by
  refine PW.imp (pw_or ha hb) fun σ H Q h => ?_
  obtain ⟨ρ, M, rs, rm, q⟩ := h
  refine ⟨ρ, M, rs, rm, mA _ _ _ _ (fun c M1 q1 H1 x1 rm1 => ?_) q⟩
  cases c with
  | true => rw [if_pos rfl] at q1 ⊢; exact q1 H1 x1 rm1
  | false => rw [if_neg Bool.false_ne_true] at q1 ⊢; exact ⟨ρ, M1, rs.mono (x1.stab rm), rm1, mB _ _ _ _ (fun d M2 k => k.ext x1) q1⟩
/-! .. as values -/
def wAndV (ta tb : TEd) : TEd := fun ρ M Q => ta ρ M fun x M1 => ∃ c, x = .bl c ∧ if c = true then tb ρ M1 Q else Q (.bl false) M1
def wOrV (ta tb : TEd) : TEd := fun ρ M Q => ta ρ M fun x M1 => ∃ c, x = .bl c ∧ if c = true then Q (.bl true) M1 else tb ρ M1 Q
def wNotV (ta : TEd) : TEd := fun ρ M Q => ta ρ M fun x M1 => ∃ c, x = .bl c ∧ Q (.bl (!c)) M1
theorem mono_andV (h : MonoE ta) (k : MonoE tb) : MonoE (wAndV ta tb) := fun ρ M Q Q' i q => h _ _ _ _ (fun x M1 ⟨c, e, q1⟩ => ⟨c, e, by
  cases c with
  | true => rw [if_pos rfl] at q1 ⊢; exact k _ _ _ _ i q1
  | false => rw [if_neg Bool.false_ne_true] at q1 ⊢; exact i _ _ q1⟩) q
theorem mono_orV (h : MonoE ta) (k : MonoE tb) : MonoE (wOrV ta tb) := fun ρ M Q Q' i q => h _ _ _ _ (fun x M1 ⟨c, e, q1⟩ => ⟨c, e, by
  cases c with
  | true => rw [if_pos rfl] at q1 ⊢; exact i _ _ q1
  | false => rw [if_neg Bool.false_ne_true] at q1 ⊢; exact k _ _ _ _ i q1⟩) q
theorem mono_notV (h : MonoE ta) : MonoE (wNotV ta) := fun ρ M Q Q' i q => h _ _ _ _ (fun x M1 ⟨c, e, q1⟩ => ⟨c, e, i _ _ q1⟩) q
theorem le_one {op : BoolOp} {t : TEd} (h : PE X a (lE X.K t)) : PE X (.BoolOp op [a] pos) (lE X.K t) := pe_one h
theorem le_and {rest : List Expr} (ma : MonoE ta) (mb : MonoE tb) (ha : PE X a (lE X.K ta)) (hb : PE X (.BoolOp .And (b :: rest) pos) (lE X.K tb)) : PE X (.BoolOp .And (a :: b :: rest) pos) (lE X.K (wAndV ta tb)) := by
  refine PE.imp (pe_and ha hb) fun σ H Q h => ?_
  obtain ⟨ρ, M, rs, rm, q⟩ := h
  refine ⟨ρ, M, rs, rm, ma _ _ _ _ (fun x M1 ⟨c, e, q1⟩ v H1 x1 rm1 rd1 => ?_) q⟩
  subst e
  refine ⟨c, RD.bl_iff.mp rd1, ?_⟩
  cases c with
  | true => rw [if_pos rfl] at q1 ⊢; exact ⟨ρ, M1, rs.mono (x1.stab rm), rm1, mb _ _ _ _ (fun d M2 k => k.ext x1) q1⟩
  | false => rw [if_neg Bool.false_ne_true] at q1 ⊢; exact q1 _ H1 x1 rm1 (RD.bl_iff.mpr rfl)
theorem le_or {rest : List Expr} (ma : MonoE ta) (mb : MonoE tb) (ha : PE X a (lE X.K ta)) (hb : PE X (.BoolOp .Or (b :: rest) pos) (lE X.K tb)) : PE X (.BoolOp .Or (a :: b :: rest) pos) (lE X.K (wOrV ta tb)) := by
  refine PE.imp (pe_or ha hb) fun σ H Q h => ?_
  obtain ⟨ρ, M, rs, rm, q⟩ := h
  refine ⟨ρ, M, rs, rm, ma _ _ _ _ (fun x M1 ⟨c, e, q1⟩ v H1 x1 rm1 rd1 => ?_) q⟩
  subst e
  refine ⟨c, RD.bl_iff.mp rd1, ?_⟩
  cases c with
  | true => rw [if_pos rfl] at q1 ⊢; exact q1 _ H1 x1 rm1 (RD.bl_iff.mpr rfl)
  | false => rw [if_neg Bool.false_ne_true] at q1 ⊢; exact ⟨ρ, M1, rs.mono (x1.stab rm), rm1, mb _ _ _ _ (fun d M2 k => k.ext x1) q1⟩
theorem le_not (ma : MonoE ta) (ha : PE X a (lE X.K ta)) : PE X (.UnaryOp .Not a pos) (lE X.K (wNotV ta)) := by
  refine PE.imp (pe_not ha) fun σ H Q h => ?_
  obtain ⟨ρ, M, rs, rm, q⟩ := h
  refine ⟨ρ, M, rs, rm, ma _ _ _ _ (fun x M1 ⟨c, e, q1⟩ v H1 x1 rm1 rd1 => ?_) q⟩
  subst e
  exact ⟨c, RD.bl_iff.mp rd1, q1 _ H1 x1 rm1 (RD.bl_iff.mpr rfl)⟩
def wIf (t : TTd) (ta tb : TEd) : TEd := fun ρ M Q => t ρ M fun c M1 => if c = true then ta ρ M1 Q else tb ρ M1 Q
theorem mono_if {t : TTd} (h : MonoT t) (ha : MonoE ta) (hb : MonoE tb) : MonoE (wIf t ta tb) := fun ρ M Q Q' i q => h _ _ _ _ (fun c M1 q1 => by
  cases c with
  | true => rw [if_pos rfl] at q1 ⊢; exact ha _ _ _ _ i q1
  | false => rw [if_neg Bool.false_ne_true] at q1 ⊢; exact hb _ _ _ _ i q1) q
theorem le_if {c : Expr} {t : TTd} (mt : MonoT t) (ma : MonoE ta) (mb : MonoE tb) (hc : PT X c (lT X.K t)) (ha : PE X a (lE X.K ta)) (hb : PE X b (lE X.K tb)) : PE X (.IfExp c a b pos) (lE X.K (wIf t ta tb)) := by
  refine PE.imp (pe_ifExp hc ha hb) fun σ H Q h => ?_
  obtain ⟨ρ, M, rs, rm, q⟩ := h
  refine ⟨ρ, M, rs, rm, mt _ _ _ _ (fun x M1 q1 H1 x1 rm1 => ?_) q⟩
  cases x with
  | true => rw [if_pos rfl] at q1 ⊢; exact ⟨ρ, M1, rs.mono (x1.stab rm), rm1, ma _ _ _ _ (fun d M2 k => k.ext x1) q1⟩
  | false => rw [if_neg Bool.false_ne_true] at q1 ⊢; exact ⟨ρ, M1, rs.mono (x1.stab rm), rm1, mb _ _ _ _ (fun d M2 k => k.ext x1) q1⟩

/-! ### slices -/
def cutD (xs : List D) (lo hi : Option Int) : List D := (xs.drop (HT.sIx xs.length 0 lo)).take (HT.sIx xs.length xs.length hi - HT.sIx xs.length 0 lo)
theorem cut_rd {K : PySem.W.Frag} {H : Hp} {ds : List D} {vs : List V} (r : RDs K H ds vs) (lo hi : Option Int) : RDs K H (cutD ds lo hi) (cutV vs lo hi) := by
  unfold cutD cutV
  rw [r.length]
  exact (r.drop _).take _
abbrev TOd := EnvD → Mem → (Option Int → Mem → Prop) → Prop
def MonoO (T : TOd) : Prop := ∀ ρ M Q Q', (∀ d M', Q d M' → Q' d M') → T ρ M Q → T ρ M Q'
def wNoPart : TOd := fun _ M Q => Q none M
def wPart (t : TEd) : TOd := fun ρ M Q => t ρ M fun x M1 => ∃ i, x = .int i ∧ Q (some i) M1
theorem mono_noPart : MonoO wNoPart := fun _ _ _ _ h q => h _ _ q
theorem mono_part (h : MonoE ta) : MonoO (wPart ta) := fun ρ M Q Q' i q => h _ _ _ _ (fun x M1 ⟨c, e, q1⟩ => ⟨c, e, i _ _ q1⟩) q
def lO (K : PySem.W.Frag) (T : TOd) : TO := fun σ H Q => ∃ ρ M, RS K H σ ρ ∧ RM K M H ∧ T ρ M (fun o M' => ∀ H', Ext M H M' H' → RM K M' H' → Q o H')
theorem lo_none : PO X none (lO X.K wNoPart) := fun pins s σ H Q I h => by
  obtain ⟨ρ, M, rs, rm, q⟩ := h
  exact po_none pins s σ H Q I (q H Ext.refl rm)
theorem lo_some {e : Expr} (m : MonoE ta) (h : PE X e (lE X.K ta)) : PO X (some e) (lO X.K (wPart ta)) := fun pins s σ H Q I hq => by
  obtain ⟨ρ, M, rs, rm, q⟩ := hq
  refine po_some h pins s σ H Q I ⟨ρ, M, rs, rm, m _ _ _ _ (fun x M1 ⟨i, e, q1⟩ v H1 x1 rm1 rd1 => ?_) q⟩
  subst e
  exact ⟨i, RD.int_iff.mp rd1, q1 H1 x1 rm1⟩
def wSlice : D → Option Int → Option Int → Mem → QD → Prop := fun x lo hi M Q => match x with
  | .tup ds => ¬ (HT.sIx ds.length 0 lo = 0 ∧ HT.sIx ds.length ds.length hi = ds.length) ∧ Q (.tup (cutD ds lo hi)) M
  | .ref a => ∃ ds, M a = some (.lst ds) ∧ ∀ p, M p = none → Q (.ref p) (updM M p (.lst (cutD ds lo hi)))
  | .con ds => ∀ p, M p = none → Q (.ref p) (updM M p (.lst (cutD ds lo hi)))
  | _ => False
def wSl (te : TEd) (tl th : TOd) : TEd := fun ρ M Q => te ρ M fun x M1 => tl ρ M1 fun l M2 => th ρ M2 fun u M3 => wSlice x l u M3 Q
theorem mono_slice {x : D} {lo hi : Option Int} {M : Mem} {Q Q' : QD} (h : ∀ d M', Q d M' → Q' d M') (q : wSlice x lo hi M Q) : wSlice x lo hi M Q' := by
  cases x with
  | tup ds => exact ⟨q.1, h _ _ q.2⟩
  | ref a => obtain ⟨ds, e, q⟩ := q; exact ⟨ds, e, fun p n => h _ _ (q p n)⟩
  | con ds => exact fun p n => h _ _ (q p n)
  | _ => exact q.elim
theorem mono_sl {tl th : TOd} (m : MonoE ta) (ml : MonoO tl) (mh : MonoO th) : MonoE (wSl ta tl th) := fun ρ M Q Q' i q =>
  m _ _ _ _ (fun x M1 q1 => ml _ _ _ _ (fun l M2 q2 => mh _ _ _ _ (fun u M3 q3 => mono_slice i q3) q2) q1) q
theorem le_sl {e : Expr} {lo hi : Option Expr} {tl th : TOd} {p2 : Pos} (m : MonoE ta) (ml : MonoO tl) (mh : MonoO th) (he : PE X e (lE X.K ta)) (hl : PO X lo (lO X.K tl)) (hu : PO X hi (lO X.K th)) :
    PE X (.Subscript e (.Slice lo hi none p2) pos) (lE X.K (wSl ta tl th)) := by
  refine PE.imp (pe_slice (sl_tup.or sl_list) he hl hu) fun σ H Q h => ?_
  obtain ⟨ρ, M, rs, rm, q⟩ := h
  refine ⟨ρ, M, rs, rm, m _ _ _ _ (fun x M1 q1 v H1 x1 rm1 rd1 => ?_) q⟩
  refine ⟨ρ, M1, rs.mono (x1.stab rm), rm1, ml _ _ _ _ (fun l M2 q2 H2 x2 rm2 => ?_) q1⟩
  refine ⟨ρ, M2, (rs.mono (x1.stab rm)).mono (x2.stab rm1), rm2, mh _ _ _ _ (fun u M3 q3 H3 x3 rm3 => ?_) q2⟩
  have x13 := x1.trans (x2.trans x3)
  have rd3 := (rd1.mono (x2.stab rm1)).mono (x3.stab rm2)
  cases x with
  | tup ds =>
    obtain ⟨a, vs, rfl, ha, r⟩ := RD.tup_iff.mp rd3
    refine .inl ⟨a, vs, rfl, SqT.of ha, by rw [r.length]; exact q3.1, fun p n => lay_tup rm3 (cut_rd r l u) (q3.2.ext x13) n⟩
  | ref a =>
    cases RD.ref_iff.mp rd3
    obtain ⟨ds, e, q3⟩ := q3
    obtain ⟨vs, ha, r⟩ := rm3 _ _ e
    exact .inr ⟨a, vs, rfl, SqL.of ha, fun p n => lay_lst rm3 (cut_rd r l u) (fun p' n' => (q3 p' n').ext x13) n⟩
  | con ds =>
    obtain ⟨a, vs, rfl, ha, r⟩ := RD.con_iff.mp rd3
    exact .inr ⟨a, vs, rfl, ha.sq, fun p n => lay_lst rm3 (cut_rd r l u) (fun p' n' => (q3 p' n').ext x13) n⟩
  | _ => exact q3.elim
end
end Mi
end L2
namespace L2
namespace Mi
open PySem PySem.Spec PyProof.Rows
section
variable {X : Cx}
/-! ### isinstance -/
def tyN (M : Mem) : D → Option String
  | .non => some "NoneType"
  | .bl _ => some "bool"
  | .int _ => some "int"
  | .str _ => some "str"
  | .tup _ => some "tuple"
  | .ref a => match M a with
    | some (.lst _) => some "list"
    | some (.dct _ _) => some "dict"
    | none => none
  | .con _ => none
def isTy (T t : String) : Bool := t == T || (t == "bool" && T == "int")
theorem ty_of {K : PySem.W.Frag} {M : Mem} {H : Hp} {x : D} {t : String} {v : V} (rm : RM K M H) (r : RD K H x v) (e : tyN M x = some t) : TyOf K H v (.type t) := by
  cases x with
  | non => cases e; cases RD.non_iff.mp r; exact .non
  | bl k => cases e; cases RD.bl_iff.mp r; exact .bl k
  | int i => cases e; cases RD.int_iff.mp r; exact .int i
  | str i => cases e; cases RD.str_iff.mp r; exact .str i
  | tup ds =>
    cases e
    obtain ⟨a, vs, rfl, ha, rs⟩ := RD.tup_iff.mp r
    exact .tup ha
  | con ds => cases e
  | ref a =>
    cases RD.ref_iff.mp r
    simp only [tyN] at e
    cases e0 : M a with
    | none => rw [e0] at e; cases e
    | some o =>
      rw [e0] at e
      cases o with
      | lst ds =>
        cases e
        obtain ⟨vs, ha, rs⟩ := rm _ _ e0
        exact .lst ha
      | dct t kvs =>
        cases e
        have ro := rm _ _ e0
        cases t with
        | false => obtain ⟨ps, ha, _⟩ := ro; exact .dK ha
        | true => obtain ⟨ps, ha, _⟩ := ro; exact .dT ha
def tyNames : List String := ["NoneType", "bool", "int", "str", "tuple", "list", "dict"]
theorem kit_one (K : PySem.W.Frag) : ∀ T ∈ ["bool", "int", "str", "tuple", "list", "dict"], ∀ t ∈ tyNames, PySem.W.kitOne K (.type t) (.type T) = some (isTy T t) := by
  intro T hT t ht
  simp only [tyNames, List.mem_cons, List.not_mem_nil, or_false] at hT ht
  rcases hT with rfl | rfl | rfl | rfl | rfl | rfl <;> rcases ht with rfl | rfl | rfl | rfl | rfl | rfl | rfl <;> rfl

def wIsin (T : String) (ta : TEd) : TEd := fun ρ M Q => ta ρ M fun x M1 => ∃ t, tyN M1 x = some t ∧ Q (.bl (isTy T t)) M1
theorem mono_isin {T : String} {ta : TEd} (h : MonoE ta) : MonoE (wIsin T ta) := fun ρ M Q Q' i q => h _ _ _ _ (fun x M1 ⟨t, e, q1⟩ => ⟨t, e, i _ _ q1⟩) q
theorem tyN_mem {M : Mem} {x : D} {t : String} (e : tyN M x = some t) : t ∈ tyNames := by
  cases x with
  | ref a =>
    simp only [tyN] at e
    cases e0 : M a with
    | none => rw [e0] at e; cases e
    | some o => rw [e0] at e; cases o <;> (cases e; simp [tyNames])
  | con _ => cases e
  | _ => cases e; simp [tyNames]
theorem call_isin (T : String) (hT : T ∈ ["bool", "int", "str", "tuple", "list", "dict"]) : CallR X (.builtin "isinstance") (fun vs H Q => ∃ v t, vs = [v, .ty T] ∧ TyOf X.K H v (.type t) ∧ t ∈ tyNames ∧ Q (.bl (isTy T t)) H) := by
  intro pins s σ H xs us Q I r h
  obtain ⟨v, t, rfl, ty, ht, q⟩ := h
  obtain ⟨u, c, rfl, ru, rc⟩ := vals2 r
  cases rc
  exact isinst_ok I ru ty (kit_one X.K T hT t ht) fun tk => ⟨.bl _, H, I.tok tk, rfl, q⟩
theorem le_isin {e : Expr} {ta : TEd} {T : String} {y : Str} {p p2 pos : Pos} (hT : T ∈ ["bool", "int", "str", "tuple", "list", "dict"]) (m : MonoE ta) (he : PE X e (lE X.K ta)) (hg : Gl X "isinstance") (hm : X.mg "isinstance" = none)
    (hg2 : Gl X y) (hm2 : X.mg y = none) (hv : bootBuiltins y = some (.type T)) (hn : y ≠ "__name__") (hdb : (y == ("__debug__" : Str)) = false)
    (hs : starEach [e, .Name y p2] X.env = (false, eval e X.env) :: starEach [.Name y p2] X.env) (hpl : (backTo pos (starEach [.Name y p2] X.env)).any (·.1) = false) :
    PE X (.Call (.Name "isinstance" p) [e, .Name y p2] [] pos) (lE X.K (wIsin T ta)) := by
  have h2 : PE X (.Name y p2) (tC (.ty T)) := pe_bltn hg2 hm2 hv rfl hn hdb
  refine PE.imp (pe_callB (call_isin T hT) hg hm (by decide +kernel) (pa_cons he (pa_cons h2 pa_nil rfl) hs) (by decide) (by decide) hs hpl) fun σ H Q h => ?_
  obtain ⟨ρ, M, rs, rm, q⟩ := h
  exact ⟨ρ, M, rs, rm, m _ _ _ _ (fun x M1 ⟨t, e, q1⟩ v H1 x1 rm1 rd1 => ⟨v, t, rfl, ty_of rm1 rd1 e, tyN_mem e, q1 _ H1 x1 rm1 (RD.bl_iff.mpr rfl)⟩) q⟩

/-! ### methods of lists -/
def wBM (rd : D → List D → Mem → QD → Prop) (to : TEd) (t : TAd) : TEd := fun ρ M Q => to ρ M fun x M1 => (∃ a xs, x = .ref a ∧ M1 a = some (.lst xs)) ∧ t ρ M1 fun ds M2 => rd x ds M2 Q
def MonoM (rd : D → List D → Mem → QD → Prop) : Prop := ∀ x ds M Q Q', (∀ d M', Q d M' → Q' d M') → rd x ds M Q → rd x ds M Q'
theorem mono_bm {rd : D → List D → Mem → QD → Prop} {to : TEd} {t : TAd} (hr : MonoM rd) (mo : MonoE to) (mt : MonoA t) : MonoE (wBM rd to t) := fun ρ M Q Q' i q =>
  mo _ _ _ _ (fun x M1 ⟨e, q1⟩ => ⟨e, mt _ _ _ _ (fun ds M2 q2 => hr _ _ _ _ _ i q2) q1⟩) q
theorem bm_ty {K : PySem.W.Frag} {M : Mem} {H : Hp} {x : D} {v : V} (rm : RM K M H) (r : RD K H x v) (h : ∃ a xs, x = .ref a ∧ M a = some (.lst xs)) : tyV K "list" v H := by
  obtain ⟨a, xs, rfl, e⟩ := h
  cases RD.ref_iff.mp r
  obtain ⟨vs, ha, _⟩ := rm _ _ e
  exact .inl ⟨rfl, vs, SqL.of ha⟩
theorem bm_lift {K : PySem.W.Frag} {rd : D → List D → Mem → QD → Prop} {r : V → List V → Hp → VK → Prop} {to : TEd} {t : TAd} (hr : MonoM rd) (mo : MonoE to) (mt : MonoA t)
    (hh : ∀ v vs H Q, lMt K rd v vs H Q → r v vs H Q) (σ : St) (H : Hp) (Q : VK) (h : lE K (wBM rd to t) σ H Q) : tBM K "list" r (lE K to) (lA K t) σ H Q := by
  obtain ⟨ρ, M, rs, rm, q⟩ := h
  refine ⟨ρ, M, rs, rm, mo _ _ _ _ (fun x M1 ⟨e, q1⟩ v H1 x1 rm1 rd1 => ⟨bm_ty rm1 rd1 e, ?_⟩) q⟩
  refine ⟨ρ, M1, rs.mono (x1.stab rm), rm1, mt _ _ _ _ (fun ds M2 q2 vs H2 x2 rm2 rd2 => ?_) q1⟩
  exact hh v vs H2 Q ⟨x, ds, M2, rm2, rd1.mono (x2.stab rm1), rd2, hr _ _ _ _ _ (fun d M' k => k.ext (x1.trans x2)) q2⟩
theorem bm0_lift {K : PySem.W.Frag} {rd : D → List D → Mem → QD → Prop} {r : V → List V → Hp → VK → Prop} {to : TEd} (hr : MonoM rd) (mo : MonoE to)
    (hh : ∀ v vs H Q, lMt K rd v vs H Q → r v vs H Q) (σ : St) (H : Hp) (Q : VK) (h : lE K (wBM rd to wNil) σ H Q) : tBM0 K "list" r (lE K to) σ H Q := by
  obtain ⟨ρ, M, rs, rm, q⟩ := h
  refine ⟨ρ, M, rs, rm, mo _ _ _ _ (fun x M1 ⟨e, q1⟩ v H1 x1 rm1 rd1 => ⟨bm_ty rm1 rd1 e, ?_⟩) q⟩
  exact hh v [] H1 Q ⟨x, [], M1, rm1, rd1, RDs.nil, hr _ _ _ _ _ (fun d M' k => k.ext x1) q1⟩
def mAppend : D → List D → Mem → QD → Prop := fun x ds M Q => ∃ a xs y, x = .ref a ∧ ds = [y] ∧ M a = some (.lst xs) ∧ xs.length < sizeLine ∧ Q .non (updM M a (.lst (xs ++ [y])))
def mExtend : D → List D → Mem → QD → Prop := fun x ds M Q => ∃ a b xs ys, x = .ref a ∧ ds = [.ref b] ∧ M a = some (.lst xs) ∧ M b = some (.lst ys) ∧ xs.length + ys.length ≤ sizeLine ∧ Q .non (updM M a (.lst (xs ++ ys)))
def mClear : D → List D → Mem → QD → Prop := fun x ds M Q => ∃ a xs, x = .ref a ∧ ds = [] ∧ M a = some (.lst xs) ∧ Q .non (updM M a (.lst []))
def mReverse : D → List D → Mem → QD → Prop := fun x ds M Q => ∃ a xs, x = .ref a ∧ ds = [] ∧ M a = some (.lst xs) ∧ Q .non (updM M a (.lst xs.reverse))
theorem mono_append : MonoM mAppend := fun _ _ _ _ _ h ⟨a, xs, y, e1, e2, e3, z, q⟩ => ⟨a, xs, y, e1, e2, e3, z, h _ _ q⟩
theorem mono_extend : MonoM mExtend := fun _ _ _ _ _ h ⟨a, b, xs, y, e1, e2, e3, e4, z, q⟩ => ⟨a, b, xs, y, e1, e2, e3, e4, z, h _ _ q⟩
theorem mono_clear : MonoM mClear := fun _ _ _ _ _ h ⟨a, xs, e1, e2, e3, q⟩ => ⟨a, xs, e1, e2, e3, h _ _ q⟩
theorem mono_reverse : MonoM mReverse := fun _ _ _ _ _ h ⟨a, xs, e1, e2, e3, q⟩ => ⟨a, xs, e1, e2, e3, h _ _ q⟩
theorem put_lst {K : PySem.W.Frag} {M : Mem} {H : Hp} {Q : VK} {d : D} {v : V} {a : Addr} {o0 : O} {ds : List D} {vs : List V} (rm : RM K M H) (m : M a = some o0) (rd : RDs K H ds vs) (r : RD K H d v) (q : KE' K M H Q d (updM M a (.lst ds))) :
    Q v (upd H a (.lst vs)) := by
  have st : Stab H (upd H a (.lst vs)) := rm.stabPut m
  exact q v _ (Ext.put m) (rm.put m ⟨vs, upd_same, rd.mono st⟩) (r.mono st)
theorem h_append {K : PySem.W.Frag} (v : V) (vs : List V) (H : Hp) (Q : VK) (h : lMt K mAppend v vs H Q) : rAppend v vs H Q := by
  obtain ⟨x, ds, M, rm, rx, rs, a, xs, y, rfl, rfl, e, z, q⟩ := h
  cases RD.ref_iff.mp rx
  obtain ⟨w, rfl, rw'⟩ := rs.one
  obtain ⟨us, ha, ru⟩ := rm _ _ e
  exact ⟨a, us, w, rfl, rfl, ha, by rw [ru.length]; exact z, put_lst rm e (ru.append (RDs.cons rw' RDs.nil)) (RD.non_iff.mpr rfl) q⟩
theorem h_extend {K : PySem.W.Frag} (v : V) (vs : List V) (H : Hp) (Q : VK) (h : lMt K mExtend v vs H Q) : rExtend v vs H Q := by
  obtain ⟨x, ds, M, rm, rx, rs, a, b, xs, y, rfl, rfl, e, e2, z, q⟩ := h
  cases RD.ref_iff.mp rx
  obtain ⟨w, rfl, rw'⟩ := rs.one
  cases RD.ref_iff.mp rw'
  obtain ⟨us, ha, ru⟩ := rm _ _ e
  obtain ⟨ws, hb, rw2⟩ := rm _ _ e2
  have l1 := ru.length
  have l2 := rw2.length
  exact ⟨a, b, us, ws, rfl, rfl, ha, hb, by omega, put_lst rm e (ru.append rw2) (RD.non_iff.mpr rfl) q⟩
theorem h_clear {K : PySem.W.Frag} (v : V) (vs : List V) (H : Hp) (Q : VK) (h : lMt K mClear v vs H Q) : rClear v vs H Q := by
  obtain ⟨x, ds, M, rm, rx, rs, a, xs, rfl, rfl, e, q⟩ := h
  cases RD.ref_iff.mp rx
  obtain ⟨us, ha, ru⟩ := rm _ _ e
  exact ⟨a, us, rfl, RDs.nil_iff.mp rs, ha, put_lst rm e RDs.nil (RD.non_iff.mpr rfl) q⟩
theorem h_reverse {K : PySem.W.Frag} (v : V) (vs : List V) (H : Hp) (Q : VK) (h : lMt K mReverse v vs H Q) : rReverse v vs H Q := by
  obtain ⟨x, ds, M, rm, rx, rs, a, xs, rfl, rfl, e, q⟩ := h
  cases RD.ref_iff.mp rx
  obtain ⟨us, ha, ru⟩ := rm _ _ e
  exact ⟨a, us, rfl, RDs.nil_iff.mp rs, ha, put_lst rm e ru.reverse (RD.non_iff.mpr rfl) q⟩

/-! ### targets: names and tuples of names -/
abbrev BT := D → EnvD → Option EnvD
abbrev BTs := List D → EnvD → Option EnvD
def bName (i : Nat) : BT := fun d ρ => some (ρ.set i (some d))
def bNil : BTs := fun ds ρ => match ds with | [] => some ρ | _ => none
def bCons (b : BT) (bs : BTs) : BTs := fun ds ρ => match ds with | d :: r => (b d ρ).bind fun ρ' => bs r ρ' | [] => none
def bTup (bs : BTs) : BT := fun d ρ => match d with | .tup ds => bs ds ρ | _ => none
def lG (K : PySem.W.Frag) (b : BT) : TG := fun v σ H Q => ∃ d ρ ρ', RD K H d v ∧ RS K H σ ρ ∧ b d ρ = some ρ' ∧ ∀ σ', RS K H σ' ρ' → Q σ' H
def lGs (K : PySem.W.Frag) (b : BTs) : TGs := fun vs σ H Q => ∃ ds ρ ρ', RDs K H ds vs ∧ RS K H σ ρ ∧ b ds ρ = some ρ' ∧ ∀ σ', RS K H σ' ρ' → Q σ' H
theorem PG.imp {e : Expr} {t t' : TG} (h : PG X e t) (i : ∀ v σ H Q, t' v σ H Q → t v σ H Q) : PG X e t' := fun pins s σ H v u Q I r q => h pins s σ H v u Q I r (i _ _ _ _ q)
theorem PGs.imp {e : List Expr} {t t' : TGs} (h : PGs X e t) (i : ∀ v σ H Q, t' v σ H Q → t v σ H Q) : PGs X e t' := fun pins s σ H v u Q I r q => h pins s σ H v u Q I r (i _ _ _ _ q)
theorem lg_name {i : Nat} {x : Str} {pos : Pos} (hN : X.N.Nodup) (hi : X.N[i]? = some x) (hx : Loc X.env.scope x) (hf : X.fn x = true ∨ X.env.scope.names.lookup x = some .local) : PG X (.Name x pos) (lG X.K (bName i)) :=
  PG.imp (pg_name hN hi hx hf) fun v σ H Q ⟨d, ρ, ρ', r, rs, e, q⟩ => by
    cases e
    exact q _ (rs.set i r)
theorem lgs_nil : PGs X [] (lGs X.K bNil) := PGs.imp pgs_nil fun vs σ H Q ⟨ds, ρ, ρ', r, rs, e, q⟩ => by
  cases ds with
  | nil => cases e; exact ⟨RDs.nil_iff.mp r, q σ rs⟩
  | cons _ _ => cases e
theorem lgs_cons {e : Expr} {es : List Expr} {b : BT} {bs : BTs} (h1 : PG X e (lG X.K b)) (h2 : PGs X es (lGs X.K bs)) (hs : (assignEach (e :: es) X.env).map (·.2) = assign e X.env :: (assignEach es X.env).map (·.2)) :
    PGs X (e :: es) (lGs X.K (bCons b bs)) := PGs.imp (pgs_cons h1 h2 hs) fun vs σ H Q ⟨ds, ρ, ρ', r, rs, e, q⟩ => by
  cases ds with
  | nil => cases e
  | cons d ds =>
    obtain ⟨v, vr, rfl, r1, r2⟩ := RDs.cons_iff.mp r
    simp only [bCons] at e
    cases e1 : b d ρ with
    | none => rw [e1] at e; cases e
    | some ρ1 =>
      rw [e1] at e
      exact ⟨v, vr, rfl, d, ρ, ρ1, r1, rs, e1, fun σ' rs' => ⟨ds, ρ1, ρ', r2, rs', e, q⟩⟩
theorem lg_tup {es : List Expr} {k : Nat} {bs : BTs} {n : Nat} {pos : Pos} (hc : X.calm = true) (hlen : ∀ ds ρ ρ', bs ds ρ = some ρ' → ds.length = n) (h : PGs X es (lGs X.K bs)) (hn : (assignEach es X.env).length = n) (hst : (assignEach es X.env).findIdx? (·.1) = none) :
    PG X (.Tuple es k pos) (lG X.K (bTup bs)) := PG.imp (pg_tup hc h hn hst) fun v σ H Q ⟨d, ρ, ρ', r, rs, e, q⟩ => by
  cases d with
  | tup ds =>
    obtain ⟨a, vs, rfl, ha, rv⟩ := RD.tup_iff.mp r
    exact ⟨a, vs, rfl, SqT.of ha, by rw [rv.length]; exact hlen _ _ _ e, ds, ρ, ρ', rv, rs, e, q⟩
  | _ => cases e

/-! ### what is walked -/
abbrev TId := EnvD → Mem → (List D → (Mem → Prop) → Mem → Prop) → Prop
def MonoI (T : TId) : Prop := ∀ ρ M Q Q', (∀ xs c M', Q xs c M' → Q' xs c M') → T ρ M Q → T ρ M Q'
def Yl (H H' : Hp) : Prop := H' = H ∨ ∃ q vs, H q = none ∧ H' = upd H q (.tup vs)
def ItOk (K : PySem.W.Frag) (H1 : Hp) (xs : List D) (chk : Mem → Prop) (J : It) : Prop := ∀ M H, Stab H1 H → RM K M H → chk M → ∀ i, (xs.length ≤ i → J.stop i H) ∧ (i < xs.length → J.go i H ∧
  ∀ x H', J.yld i H x H' → Yl H H' ∧ ∃ d, xs[i]? = some d ∧ RD K H' d x)
def lI (K : PySem.W.Frag) (T : TId) : TI := fun σ H R => ∃ ρ M, RS K H σ ρ ∧ RM K M H ∧ T ρ M (fun xs chk M1 => ∀ J H1, Ext M H M1 H1 → RM K M1 H1 → ItOk K H1 xs chk J → R J H1)
theorem PI.imp {tg e : Expr} {t t' : TI} (h : PI X tg e t) (i : ∀ σ H Q, t' σ H Q → t σ H Q) : PI X tg e t' := fun pins s σ H Q I q => h pins s σ H Q I (i _ _ _ q)
theorem Yl.ext {K : PySem.W.Frag} {M : Mem} {H H' : Hp} (rm : RM K M H) (y : Yl H H') : Ext M H M H' ∧ RM K M H' := by
  rcases y with rfl | ⟨q, vs, n, rfl⟩
  · exact ⟨Ext.refl, rm⟩
  · exact ⟨Ext.new' n, rm.new n⟩
/-- a list or a tuple -/
def iSeq (K : PySem.W.Frag) (tl : TE) : TI := fun σ H R => tl σ H fun x H1 => ∃ a, x = .ref a ∧ (((∃ xs, SqL K H1 a xs) ∧ R (Itl K a) H1) ∨ ((∃ xs, SqT K H1 a xs) ∧ R (Itt K a) H1))
theorem pi_seq {tg l : Expr} {tl : TE} (hl : PE X l tl) : PI X tg l (iSeq X.K tl) := by
  intro pins s σ H R I h
  refine thn (hl pins s σ H _ I h) fun v s1 ⟨x, H1, I1, r1, q1⟩ => ?_
  obtain ⟨a, e, q⟩ := q1
  subst e
  cases r1
  rcases q with ⟨⟨xs, hq⟩, q⟩ | ⟨⟨xs, hq⟩, q⟩
  · obtain ⟨its, rv, p, hz⟩ := I1.list hq
    refine wpAny_pyIter_list p.isList ?_
    refine ⟨s1.heap.objs.size, [s1.heap.objs.size], _, _, H1, rfl, I1.kept (t' := s1.toks) fun b o e => Heap.get?_push_of_some _ e, turn_list a _, ⟨_, Heap.get?_push_size _ rfl, rfl, rfl⟩, fun b hb => ?_, q⟩
    have e : b = s1.heap.objs.size := by simpa using hb
    subst e
    exact I1.fpOk (Nat.le_refl _) (I1.hok.fresh (Nat.le_refl _))
  · obtain ⟨its, rv, p, hz⟩ := I1.tuple hq
    refine wpAny_pyIter_tuple (show s1.heap.IsTuple a its.toArray from p) ?_
    refine ⟨s1.heap.objs.size, [s1.heap.objs.size], _, _, H1, rfl, I1.kept (t' := s1.toks) fun b o e => Heap.get?_push_of_some _ e, turn_tuple a _, ⟨_, Heap.get?_push_size _ rfl, rfl, rfl⟩, fun b hb => ?_, q⟩
    have e : b = s1.heap.objs.size := by simpa using hb
    subst e
    exact I1.fpOk (Nat.le_refl _) (I1.hok.fresh (Nat.le_refl _))
def wSeq (ta : TEd) : TId := fun ρ M R => ta ρ M fun x M1 => ∃ ds, seqD M1 x = some ds ∧ R ds (fun M => seqD M x = some ds) M1
theorem mono_seq {ta : TEd} (h : MonoE ta) : MonoI (wSeq ta) := fun ρ M Q Q' i q => h _ _ _ _ (fun x M1 ⟨ds, e, q1⟩ => ⟨ds, e, i _ _ _ q1⟩) q
theorem itl_ok {K : PySem.W.Frag} {H1 : Hp} {a : Addr} {ds : List D} {chk : Mem → Prop} (h : ∀ M H, Stab H1 H → RM K M H → chk M → ∃ vs, SqL K H a vs ∧ RDs K H ds vs) : ItOk K H1 ds chk (Itl K a) := fun M H st rm c i => by
  obtain ⟨vs, sq, r⟩ := h M H st rm c
  have l := r.length
  refine ⟨fun hi => ⟨vs, sq, by omega⟩, fun hi => ⟨⟨vs, vs[i]'(by omega), sq, List.getElem?_eq_getElem (by omega)⟩, fun x H' y => ?_⟩⟩
  obtain ⟨e, y⟩ := y
  subst e
  exact ⟨.inl rfl, r.getV (y vs sq)⟩
theorem itt_ok {K : PySem.W.Frag} {H1 : Hp} {a : Addr} {ds : List D} {chk : Mem → Prop} (h : ∀ M H, Stab H1 H → RM K M H → chk M → ∃ vs, SqT K H a vs ∧ RDs K H ds vs) : ItOk K H1 ds chk (Itt K a) := fun M H st rm c i => by
  obtain ⟨vs, sq, r⟩ := h M H st rm c
  have l := r.length
  refine ⟨fun hi => ⟨vs, sq, by omega⟩, fun hi => ⟨⟨vs, vs[i]'(by omega), sq, List.getElem?_eq_getElem (by omega)⟩, fun x H' y => ?_⟩⟩
  obtain ⟨e, y⟩ := y
  subst e
  exact ⟨.inl rfl, r.getV (y vs sq)⟩
theorem li_seq {tg l : Expr} {ta : TEd} (m : MonoE ta) (hl : PE X l (lE X.K ta)) : PI X tg l (lI X.K (wSeq ta)) := by
  refine PI.imp (pi_seq hl) fun σ H R h => ?_
  obtain ⟨ρ, M, rs, rm, q⟩ := h
  refine ⟨ρ, M, rs, rm, m _ _ _ _ (fun x M1 ⟨ds, e, q1⟩ v H1 x1 rm1 rd1 => ?_) q⟩
  cases x with
  | tup es =>
    cases e
    obtain ⟨a, vs, rfl, ha, rv⟩ := RD.tup_iff.mp rd1
    exact ⟨a, rfl, .inr ⟨⟨vs, SqT.of ha⟩, q1 _ H1 x1 rm1 (itt_ok fun M' H' st _ _ => ⟨vs, SqT.of (st.tup _ _ ha), rv.mono st⟩)⟩⟩
  | con es =>
    cases e
    obtain ⟨a, vs, rfl, ha, rv⟩ := RD.con_iff.mp rd1
    exact ⟨a, rfl, .inl ⟨⟨vs, ha.sq⟩, q1 _ H1 x1 rm1 (itl_ok fun M' H' st _ _ => ⟨vs, (st.sqF ha).sq, rv.mono st⟩)⟩⟩
  | ref a =>
    cases RD.ref_iff.mp rd1
    have get : ∀ {M' : Mem} {es : List D}, seqD M' (.ref a) = some es → M' a = some (.lst es) := fun {M' es} e => by
      simp only [seqD] at e
      cases e0 : M' a with
      | none => rw [e0] at e; cases e
      | some o =>
        rw [e0] at e
        cases o with
        | dct _ _ => cases e
        | lst es' => cases e; rfl
    obtain ⟨vs, ha, rv⟩ := rm1 _ _ (get e)
    exact ⟨a, rfl, .inl ⟨⟨vs, SqL.of ha⟩, q1 _ H1 x1 rm1 (itl_ok fun M' H' st rm' c => by
      obtain ⟨us, hb, ru⟩ := rm' _ _ (get c)
      exact ⟨us, SqL.of hb, ru⟩)⟩⟩
  | _ => cases e
def rangeD (lo : Int) (n : Nat) : List D := (List.range n).map fun i => .int (lo + (i : Nat))
theorem itr_ok {K : PySem.W.Frag} {H1 : Hp} {lo : Int} {n : Nat} : ItOk K H1 (rangeD lo n) (fun _ => True) (Itr lo n) := fun M H st rm c i => by
  have l : (rangeD lo n).length = n := by simp [rangeD]
  refine ⟨fun hi => by show n ≤ i; omega, fun hi => ⟨by show i < n; omega, fun x H' y => ?_⟩⟩
  obtain ⟨e, y⟩ := y
  subst e y
  refine ⟨.inl rfl, .int (lo + i), ?_, RD.int_iff.mpr rfl⟩
  simp only [rangeD, List.getElem?_map, List.getElem?_range (show i < n by omega), Option.map_some]
def wRng1 (ta : TAd) : TId := fun ρ M R => ta ρ M fun ds M1 => ∃ j : Int, ds = [.int j] ∧ -(2 ^ 62) ≤ j ∧ j < 2 ^ 62 ∧ R (rangeD 0 j.toNat) (fun _ => True) M1
def wRng2 (ta : TAd) : TId := fun ρ M R => ta ρ M fun ds M1 => ∃ i j : Int, ds = [.int i, .int j] ∧ (-(2 ^ 62) ≤ i ∧ i < 2 ^ 62 ∧ -(2 ^ 62) ≤ j ∧ j < 2 ^ 62) ∧ R (rangeD i (j - i).toNat) (fun _ => True) M1
theorem mono_rng1 {ta : TAd} (h : MonoA ta) : MonoI (wRng1 ta) := fun ρ M Q Q' i q => h _ _ _ _ (fun x M1 ⟨j, e, a, b, q1⟩ => ⟨j, e, a, b, i _ _ _ q1⟩) q
theorem mono_rng2 {ta : TAd} (h : MonoA ta) : MonoI (wRng2 ta) := fun ρ M Q Q' i q => h _ _ _ _ (fun x M1 ⟨k, j, e, a, q1⟩ => ⟨k, j, e, a, i _ _ _ q1⟩) q
theorem li_rng1 {tg a : Expr} {ta : TAd} {p pos : Pos} (m : MonoA ta) (hg : Gl X "range") (hm : X.mg "range" = none) (ha : PA X [a] (lA X.K ta)) (hs : starEach [a] X.env = [(false, eval a X.env)]) : PI X tg (.Call (.Name "range" p) [a] [] pos) (lI X.K (wRng1 ta)) := by
  refine PI.imp (pi_range1 hg hm ha hs) fun σ H R h => ?_
  obtain ⟨ρ, M, rs, rm, q⟩ := h
  refine ⟨ρ, M, rs, rm, m _ _ _ _ (fun ds M1 ⟨j, e, z1, z2, q1⟩ vs H1 x1 rm1 rd1 => ?_) q⟩
  subst e
  obtain ⟨v, rfl, r⟩ := rd1.one
  cases RD.int_iff.mp r
  exact ⟨j, rfl, z1, z2, q1 _ H1 x1 rm1 itr_ok⟩
theorem li_rng2 {tg a b : Expr} {ta : TAd} {p pos : Pos} (m : MonoA ta) (hg : Gl X "range") (hm : X.mg "range" = none) (ha : PA X [a, b] (lA X.K ta)) (hs : starEach [a, b] X.env = [(false, eval a X.env), (false, eval b X.env)]) (hs2 : starEach [b] X.env = [(false, eval b X.env)]) :
    PI X tg (.Call (.Name "range" p) [a, b] [] pos) (lI X.K (wRng2 ta)) := by
  refine PI.imp (pi_range2 hg hm ha hs hs2) fun σ H R h => ?_
  obtain ⟨ρ, M, rs, rm, q⟩ := h
  refine ⟨ρ, M, rs, rm, m _ _ _ _ (fun ds M1 ⟨i, j, e, z, q1⟩ vs H1 x1 rm1 rd1 => ?_) q⟩
  subst e
  obtain ⟨v, u, rfl, r1, r2⟩ := rd1.two
  cases RD.int_iff.mp r1
  cases RD.int_iff.mp r2
  exact ⟨i, j, rfl, z, q1 _ H1 x1 rm1 itr_ok⟩
end
end Mi
end L2
namespace L2
namespace Mi
open PySem PySem.Spec PyProof.Rows
section
variable {X : Cx}
/-! ### zip -/
def isT : D → Bool | .tup _ => true | _ => false
theorem sqv_of {K : PySem.W.Frag} {M : Mem} {H : Hp} {x : D} {ds : List D} {v : V} (rm : RM K M H) (r : RD K H x v) (e : seqD M x = some ds) : ∃ p vs, v = .ref p ∧ SqV K (isT x) H p vs ∧ RDs K H ds vs := by
  cases x with
  | tup es =>
    cases e
    obtain ⟨a, vs, rfl, ha, rv⟩ := RD.tup_iff.mp r
    exact ⟨a, vs, rfl, SqT.of ha, rv⟩
  | con es =>
    cases e
    obtain ⟨a, vs, rfl, ha, rv⟩ := RD.con_iff.mp r
    exact ⟨a, vs, rfl, ha.sq, rv⟩
  | ref a =>
    cases RD.ref_iff.mp r
    simp only [seqD] at e
    cases e0 : M a with
    | none => rw [e0] at e; cases e
    | some o =>
      rw [e0] at e
      cases o with
      | dct _ _ => cases e
      | lst es =>
        cases e
        obtain ⟨vs, ha, rv⟩ := rm _ _ e0
        exact ⟨a, vs, rfl, SqL.of ha, rv⟩
  | _ => cases e
def pairD (x y : D) : D := .tup [x, y]
def wZip (ta tb : TEd) : TId := fun ρ M R => wCons ta (wCons tb wNil) ρ M fun ds M1 => ∃ x y xs ys, ds = [x, y] ∧ seqD M1 x = some xs ∧ seqD M1 y = some ys ∧ R (List.zipWith pairD xs ys) (fun M => seqD M x = some xs ∧ seqD M y = some ys) M1
theorem mono_zip {ta tb : TEd} (ha : MonoE ta) (hb : MonoE tb) : MonoI (wZip ta tb) := fun ρ M Q Q' i q => mono_cons ha (mono_cons hb mono_nil) _ _ _ _ (fun ds M1 ⟨x, y, xs, ys, e, e1, e2, q1⟩ => ⟨x, y, xs, ys, e, e1, e2, i _ _ _ q1⟩) q
theorem stab_new {H : Hp} {p : Addr} {o : HO} (n : H p = none) : Stab H (upd H p o) := ⟨fun a xs e => by rw [upd_ne (fun z => by rw [z, n] at e; cases e)]; exact e, fun a o u e => by rw [upd_ne (fun z => by rw [z, n] at e; cases e)]; exact e⟩
theorem itz_ok {K : PySem.W.Frag} {H1 : Hp} {x y : D} {xs ys : List D} {a b : Addr} (rx : RD K H1 x (.ref a)) (ry : RD K H1 y (.ref b)) : ItOk K H1 (List.zipWith pairD xs ys) (fun M => seqD M x = some xs ∧ seqD M y = some ys) (Itz K (isT x) (isT y) a b) := fun M H st rm c i => by
  obtain ⟨p1, vs, e1, q1, r1⟩ := sqv_of rm (rx.mono st) c.1
  obtain ⟨p2, us, e2, q2, r2⟩ := sqv_of rm (ry.mono st) c.2
  cases e1
  cases e2
  have l1 := r1.length
  have l2 := r2.length
  have lz : (List.zipWith pairD xs ys).length = min xs.length ys.length := List.length_zipWith
  refine ⟨fun hi => ⟨vs, us, q1, q2, by omega⟩, fun hi => ⟨⟨vs, us, vs[i]'(by omega), us[i]'(by omega), q1, q2, List.getElem?_eq_getElem (by omega), List.getElem?_eq_getElem (by omega)⟩, fun v H' hy => ?_⟩⟩
  obtain ⟨p, v1, v2, n, rfl, rfl, g⟩ := hy
  obtain ⟨g1, g2⟩ := g vs us q1 q2
  obtain ⟨d1, hd1, rd1⟩ := r1.getV g1
  obtain ⟨d2, hd2, rd2⟩ := r2.getV g2
  have sb := stab_new (o := .tup [v1, v2]) n
  refine ⟨.inr ⟨p, [v1, v2], n, rfl⟩, .tup [d1, d2], ?_, RD.tup_iff.mpr ⟨p, [v1, v2], rfl, upd_same, RDs.cons (rd1.mono sb) (RDs.cons (rd2.mono sb) RDs.nil)⟩⟩
  rw [List.getElem?_zipWith, hd1, hd2]; rfl
theorem li_zip {elts : List Expr} {cx} {pos p pos' : Pos} {a b : Expr} {ta tb : TEd} (ma : MonoE ta) (mb : MonoE tb) (hg : Gl X "zip") (hm : X.mg "zip" = none) (ha : PA X [a, b] (lA X.K (wCons ta (wCons tb wNil)))) (hs : starEach [a, b] X.env = [(false, eval a X.env), (false, eval b X.env)]) (hs2 : starEach [b] X.env = [(false, eval b X.env)]) :
    PI X (.Tuple elts cx pos) (.Call (.Name "zip" p) [a, b] [] pos') (lI X.K (wZip ta tb)) := by
  refine PI.imp (pi_zip hg hm ha hs hs2) fun σ H R h => ?_
  obtain ⟨ρ, M, rs, rm, q⟩ := h
  refine ⟨ρ, M, rs, rm, mono_cons ma (mono_cons mb mono_nil) _ _ _ _ (fun ds M1 ⟨x, y, xs, ys, e, e1, e2, q1⟩ vs H1 x1 rm1 rd1 => ?_) q⟩
  subst e
  obtain ⟨v, u, rfl, r1, r2⟩ := rd1.two
  obtain ⟨p1, vs, rfl, s1, _⟩ := sqv_of rm1 r1 e1
  obtain ⟨p2, us, rfl, s2, _⟩ := sqv_of rm1 r2 e2
  exact ⟨p1, p2, isT x, isT y, vs, us, rfl, s1, s2, q1 _ H1 x1 rm1 (itz_ok r1 r2)⟩
end
end Mi
end L2
namespace L2
namespace Mi
open PySem PySem.Spec PyProof.Rows
section
variable {X : Cx}
/-! ### enumerate -/
def enumD (xs : List D) : List D := xs.mapIdx fun i x => .tup [.int (i : Nat), x]
def wEnum (ta : TEd) : TId := fun ρ M R => ta ρ M fun x M1 => ∃ xs, seqD M1 x = some xs ∧ R (enumD xs) (fun M => seqD M x = some xs) M1
theorem mono_enum {ta : TEd} (h : MonoE ta) : MonoI (wEnum ta) := fun ρ M Q Q' i q => h _ _ _ _ (fun x M1 ⟨ds, e, q1⟩ => ⟨ds, e, i _ _ _ q1⟩) q
theorem ite_ok {K : PySem.W.Frag} {H1 : Hp} {x : D} {xs : List D} {a : Addr} (rx : RD K H1 x (.ref a)) : ItOk K H1 (enumD xs) (fun M => seqD M x = some xs) (Ite K (isT x) a) := fun M H st rm c i => by
  obtain ⟨p1, vs, e1, q1, r1⟩ := sqv_of rm (rx.mono st) c
  cases e1
  have l1 := r1.length
  have lz : (enumD xs).length = xs.length := by simp [enumD]
  refine ⟨fun hi => ⟨vs, q1, by omega⟩, fun hi => ⟨⟨vs, vs[i]'(by omega), q1, List.getElem?_eq_getElem (by omega)⟩, fun v H' hy => ?_⟩⟩
  obtain ⟨p, v1, n, rfl, rfl, g⟩ := hy
  obtain ⟨d1, hd1, rd1⟩ := r1.getV (g vs q1)
  have sb := stab_new (o := .tup [.int (i : Nat), v1]) n
  refine ⟨.inr ⟨p, [.int (i : Nat), v1], n, rfl⟩, .tup [.int (i : Nat), d1], ?_, RD.tup_iff.mpr ⟨p, [.int (i : Nat), v1], rfl, upd_same, RDs.cons (RD.int_iff.mpr rfl) (RDs.cons (rd1.mono sb) RDs.nil)⟩⟩
  simp [enumD, List.getElem?_mapIdx, hd1]
theorem li_enum {elts : List Expr} {cx} {pos p pos' : Pos} {a : Expr} {ta : TEd} (ma : MonoE ta) (hg : Gl X "enumerate") (hm : X.mg "enumerate" = none) (ha : PA X [a] (lA X.K (wCons ta wNil))) (hs : starEach [a] X.env = [(false, eval a X.env)]) :
    PI X (.Tuple elts cx pos) (.Call (.Name "enumerate" p) [a] [] pos') (lI X.K (wEnum ta)) := by
  refine PI.imp (pi_enum hg hm ha hs) fun σ H R h => ?_
  obtain ⟨ρ, M, rs, rm, q⟩ := h
  refine ⟨ρ, M, rs, rm, ma _ _ _ _ (fun x M1 ⟨xs, e1, q1⟩ vs H1 x1 rm1 rd1 => ?_) q⟩
  obtain ⟨v, rfl, r1⟩ := rd1.one
  obtain ⟨p1, us, rfl, s1, _⟩ := sqv_of rm1 r1 e1
  exact ⟨p1, isT x, us, rfl, s1, q1 _ H1 x1 rm1 (ite_ok r1)⟩
end
end Mi
end L2
namespace L2
namespace Mi
open PySem PySem.Spec PyProof.Rows

/-! ### comprehensions -/
abbrev NC := EnvD → Mem → List D → Prop
abbrev TCd := EnvD → Mem → List D → NC → Prop
def MonoC (T : TCd) : Prop := ∀ ρ M acc N N', (∀ ρ' M' acc', N ρ' M' acc' → N' ρ' M' acc') → T ρ M acc N → T ρ M acc N'
structure ExtP (p : Addr) (M : Mem) (H : Hp) (M' : Mem) (H' : Hp) : Prop where
  keep : ∀ a o, a ≠ p → M a = none → H a = some o → H' a = some o
  new : ∀ a o, M a = none → H a = some o → M' a = none
section
variable {K : PySem.W.Frag} {M M' M'' : Mem} {H H' H'' : Hp} {p : Addr}
theorem Ext.toP (x : Ext M H M' H') : ExtP p M H M' H' := ⟨fun a o _ => x.keep a o, x.new⟩
theorem ExtP.refl : ExtP p M H M H := ⟨fun _ _ _ _ h => h, fun _ _ h _ => h⟩
theorem ExtP.trans {vs : List V} (a : ExtP p M H M' H') (hp : H p = some (.lst vs)) (hp' : ∃ vs', H' p = some (.lst vs')) (b : ExtP p M' H' M'' H'') : ExtP p M H M'' H'' :=
  ⟨fun c o ne n h => b.keep c o ne (a.new c o n h) (a.keep c o ne n h), fun c o n h => by
    by_cases z : c = p
    · subst z
      obtain ⟨vs', e⟩ := hp'
      exact b.new c _ (a.new c o n h) e
    · exact b.new c o (a.new c o n h) (a.keep c o z n h)⟩
theorem ExtP.stab {vs : List V} (r : RM K M H) (hp : H p = some (.lst vs)) (x : ExtP p M H M' H') : Stab H H' where
  tup := fun a xs e => by
    refine x.keep a _ (fun z => by subst z; rw [hp] at e; cases e) ?_ e
    cases q : M a with
    | none => rfl
    | some o =>
      obtain ⟨ho, q1, _, q2, _⟩ := r.mut q
      rw [e] at q1; cases q1
      exact absurd rfl (q2 xs)
  frz := fun a o u e => by
    refine x.keep a _ (fun z => by subst z; rw [hp] at e; cases e) ?_ e
    cases q : M a with
    | none => rfl
    | some o' =>
      obtain ⟨ho, q1, _, _, q2⟩ := r.mut q
      rw [e] at q1; cases q1
      exact absurd rfl (q2 o u)
theorem stab_lst {vs : List V} {ho : HO} (hp : H p = some (.lst vs)) : Stab H (upd H p ho) :=
  ⟨fun a xs e => by rw [upd_ne (fun z => by subst z; rw [hp] at e; cases e)]; exact e, fun a o u e => by rw [upd_ne (fun z => by subst z; rw [hp] at e; cases e)]; exact e⟩
theorem RM.side {vs : List V} {ho : HO} (r : RM K M H) (n : M p = none) (hp : H p = some (.lst vs)) : RM K M (upd H p ho) := fun a o e => by
  have ne : a ≠ p := fun z => by subst z; rw [n] at e; cases e
  exact (r a o e).mono (stab_lst hp) fun ho' q => by rw [upd_ne ne]; exact q
end
def AccOk (K : PySem.W.Frag) (H : Hp) (p : Addr) (acc : List D) : Prop := ∃ vs, H p = some (.lst vs) ∧ RDs K H acc vs
def KC (K : PySem.W.Frag) (p : Addr) (M : Mem) (H : Hp) (N : St → Hp → Prop) : NC := fun ρ' M' acc' => ∀ σ' H', ExtP p M H M' H' → RS K H' σ' ρ' → RM K M' H' → AccOk K H' p acc' → N σ' H'
def lC (K : PySem.W.Frag) (p : Addr) (T : TCd) : TC := fun σ H N => ∃ ρ M acc, RS K H σ ρ ∧ RM K M H ∧ M p = none ∧ AccOk K H p acc ∧ T ρ M acc (KC K p M H N)
theorem KC.ext {K : PySem.W.Frag} {p : Addr} {M M2 M' : Mem} {H H2 : Hp} {N : St → Hp → Prop} {ρ : EnvD} {acc : List D} {vs : List V} (hp : H p = some (.lst vs)) (hp' : ∃ vs', H2 p = some (.lst vs')) (x : ExtP p M H M2 H2) (h : KC K p M H N ρ M' acc) : KC K p M2 H2 N ρ M' acc :=
  fun σ' H' y => h σ' H' (x.trans hp hp' y)
def wEmit (te : TEd) : TCd := fun ρ M acc N => te ρ M fun x M1 => acc.length < sizeLine ∧ N ρ M1 (acc ++ [x])
def wTests : List TTd → TCd → TCd
  | [], tb => tb
  | t :: r, tb => fun ρ M acc N => t ρ M fun b M1 => if b = true then wTests r tb ρ M1 acc N else N ρ M1 acc
def loopD (b : BT) (tb : TCd) (chk : Mem → Prop) (N : NC) : List D → NC
  | [] => fun ρ M acc => chk M ∧ N ρ M acc
  | x :: xs => fun ρ M acc => chk M ∧ ∃ ρ', b x ρ = some ρ' ∧ tb ρ' M acc (loopD b tb chk N xs)
def wClause (src : TId) (b : BT) (tb : TCd) : TCd := fun ρ M acc N => src ρ M fun xs chk M1 => loopD b tb chk N xs ρ M1 acc
def wComp (fr : List (Option Nat)) (src : TId) (b : BT) (tb : TCd) : TEd := fun ρ M Q => src ρ M fun xs chk M1 => loopD b tb chk (fun _ M' acc => ∀ p, M' p = none → Q (.ref p) (updM M' p (.lst acc))) xs (inhD fr ρ) M1 []
theorem mono_emit {te : TEd} (h : MonoE te) : MonoC (wEmit te) := fun ρ M acc N N' i q => h _ _ _ _ (fun x M1 ⟨z, q1⟩ => ⟨z, i _ _ _ q1⟩) q
theorem mono_tests {tb : TCd} (hb : MonoC tb) : ∀ {ts : List TTd}, (∀ t ∈ ts, MonoT t) → MonoC (wTests ts tb)
  | [], _ => hb
  | t :: r, h => fun ρ M acc N N' i q => h t List.mem_cons_self _ _ _ _ (fun b M1 q1 => by
    cases b with
    | true => rw [if_pos rfl] at q1 ⊢; exact mono_tests hb (fun t' ht => h t' (List.mem_cons_of_mem _ ht)) _ _ _ _ _ i q1
    | false => rw [if_neg Bool.false_ne_true] at q1 ⊢; exact i _ _ _ q1) q
theorem mono_loop {b : BT} {tb : TCd} (hb : MonoC tb) {chk : Mem → Prop} {N N' : NC} (i : ∀ ρ' M' acc', N ρ' M' acc' → N' ρ' M' acc') : ∀ (xs : List D) (ρ : EnvD) (M : Mem) (acc : List D), loopD b tb chk N xs ρ M acc → loopD b tb chk N' xs ρ M acc
  | [], ρ, M, acc, h => ⟨h.1, i _ _ _ h.2⟩
  | x :: xs, ρ, M, acc, ⟨c, ρ', e, q⟩ => ⟨c, ρ', e, hb _ _ _ _ _ (fun ρ2 M2 acc2 q2 => mono_loop hb i xs ρ2 M2 acc2 q2) q⟩
theorem mono_clause {src : TId} {b : BT} {tb : TCd} (hs : MonoI src) (hb : MonoC tb) : MonoC (wClause src b tb) := fun ρ M acc N N' i q => hs _ _ _ _ (fun xs c M1 q1 => mono_loop hb i xs _ _ _ q1) q
theorem mono_comp {fr : List (Option Nat)} {src : TId} {b : BT} {tb : TCd} (hs : MonoI src) (hb : MonoC tb) : MonoE (wComp fr src b tb) := fun ρ M Q Q' i q =>
  hs _ _ _ _ (fun xs c M1 q1 => mono_loop hb (fun _ M' acc q2 p n => i _ _ (q2 p n)) xs _ _ _ q1) q
section
variable {K : PySem.W.Frag} {p : Addr}
theorem emit_lift {te : TEd} (m : MonoE te) (σ : St) (H : Hp) (N : St → Hp → Prop) (h : lC K p (wEmit te) σ H N) : tEmit p (lE K te) σ H N := by
  obtain ⟨ρ, M, acc, rs, rm, n, ⟨vs, hp, ra⟩, q⟩ := h
  refine ⟨ρ, M, rs, rm, m _ _ _ _ (fun x M1 ⟨z, q1⟩ v H1 x1 rm1 rd1 => ?_) q⟩
  have hp1 := x1.keep p _ n hp
  have n1 := x1.new p _ n hp
  have st := x1.stab rm
  have st2 : Stab H1 (upd H1 p (.lst (vs ++ [v]))) := stab_lst hp1
  refine ⟨vs, hp1, by rw [ra.length]; exact z, q1 σ _ ⟨fun a o ne m' e => ?_, x1.new⟩ ((rs.mono st).mono st2) (rm1.side n1 hp1) ⟨vs ++ [v], upd_same, ((ra.mono st).mono st2).append (RDs.cons (rd1.mono st2) RDs.nil)⟩⟩
  rw [upd_ne ne]
  exact x1.keep a o m' e
theorem tests_lift {tb : TCd} (mb : MonoC tb) : ∀ {ts : List TTd}, (∀ t ∈ ts, MonoT t) → ∀ (σ : St) (H : Hp) (N : St → Hp → Prop), lC K p (wTests ts tb) σ H N → tTests (ts.map (lT K)) (lC K p tb) σ H N
  | [], _, σ, H, N, h => h
  | t :: r, hm, σ, H, N, h => by
    obtain ⟨ρ, M, acc, rs, rm, n, ⟨vs, hp, ra⟩, q⟩ := h
    refine ⟨ρ, M, rs, rm, hm t List.mem_cons_self _ _ _ _ (fun b M1 q1 H1 x1 rm1 => ?_) q⟩
    have hp1 := x1.keep p _ n hp
    have n1 := x1.new p _ n hp
    have st := x1.stab rm
    cases b with
    | false =>
      rw [if_neg Bool.false_ne_true] at q1
      dsimp only
      rw [if_neg Bool.false_ne_true]
      exact q1 σ H1 x1.toP (rs.mono st) rm1 ⟨vs, hp1, ra.mono st⟩
    | true =>
      rw [if_pos rfl] at q1
      dsimp only
      rw [if_pos rfl]
      exact tests_lift mb (fun t' ht => hm t' (List.mem_cons_of_mem _ ht)) σ H1 N ⟨ρ, M1, acc, rs.mono st, rm1, n1, ⟨vs, hp1, ra.mono st⟩,
        mono_tests mb (fun t' ht => hm t' (List.mem_cons_of_mem _ ht)) _ _ _ _ _ (fun ρ' M' acc' k => k.ext hp ⟨vs, hp1⟩ x1.toP) q1⟩
theorem loop_lift {b : BT} {tb : TCd} (mb : MonoC tb) {xs : List D} {chk : Mem → Prop} {J : It} {H1 : Hp} {M1 : Mem} {Nd : NC} {N : St → Hp → Prop} {σ : St} {ρ : EnvD} {acc : List D} (it : ItOk K H1 xs chk J) (rs : RS K H1 σ ρ) (rm : RM K M1 H1) (n : M1 p = none)
    (ac : AccOk K H1 p acc) (q : loopD b tb chk Nd xs ρ M1 acc) (hN : ∀ ρ' M' acc' σ' H', ExtP p M1 H1 M' H' → RS K H' σ' ρ' → RM K M' H' → AccOk K H' p acc' → Nd ρ' M' acc' → N σ' H') :
    loopW J (lG K b) (lC K p tb) N σ H1 := by
  obtain ⟨vs1, hp1, _⟩ := id ac
  refine ⟨fun i m σ H => m = xs.length - i ∧ i ≤ xs.length ∧ ∃ ρ M acc, RS K H σ ρ ∧ RM K M H ∧ M p = none ∧ AccOk K H p acc ∧ ExtP p M1 H1 M H ∧ loopD b tb chk Nd (xs.drop i) ρ M acc, ⟨xs.length, by simp, Nat.zero_le _, ρ, M1, acc, rs, rm, n, ac, ExtP.refl, q⟩, ?_⟩
  rintro i m σ H ⟨rfl, hi, ρ, M, acc, rs, rm2, n, ac, x, q⟩
  have st := x.stab rm hp1
  obtain ⟨vs, hp, ra⟩ := id ac
  by_cases hlt : i < xs.length
  · rw [List.drop_eq_getElem_cons hlt] at q
    obtain ⟨c, ρ', hb, q⟩ := q
    obtain ⟨go, yl⟩ := (it M H st rm2 c i).2 hlt
    refine .inr ⟨go, fun σ' H' => ∃ m', m' < xs.length - i ∧ (m' = xs.length - (i + 1) ∧ i + 1 ≤ xs.length ∧ ∃ ρ M acc, RS K H' σ' ρ ∧ RM K M H' ∧ M p = none ∧ AccOk K H' p acc ∧ ExtP p M1 H1 M H' ∧ loopD b tb chk Nd (xs.drop (i + 1)) ρ M acc), fun σ' H' h => h, fun x' H' y => ?_⟩
    obtain ⟨yy, d, hd, rd⟩ := yl x' H' y
    rw [List.getElem?_eq_getElem hlt] at hd
    cases hd
    obtain ⟨xy, rmy⟩ := yy.ext rm2
    have sty := xy.stab rm2
    have hpy := xy.keep p _ n hp
    refine ⟨_, ρ, ρ', rd, rs.mono sty, hb, fun σ2 rs2 => ?_⟩
    refine ⟨ρ', M, acc, rs2, rmy, n, ⟨vs, hpy, ra.mono sty⟩, mb _ _ _ _ _ (fun ρ3 M3 acc3 q3 σ3 H3 x3 rs3 rm3 ac3 => ?_) q⟩
    have n3 : M3 p = none := x3.new p _ n hpy
    exact ⟨xs.length - (i + 1), by omega, rfl, hlt, ρ3, M3, acc3, rs3, rm3, n3, ac3, (x.trans hp1 ⟨vs, hp⟩ xy.toP).trans hp1 ⟨vs, hpy⟩ x3, q3⟩
  · have e : i = xs.length := by omega
    subst e
    rw [List.drop_length] at q
    exact .inl ⟨(it M H st rm2 q.1 _).1 (Nat.le_refl _), hN ρ M acc σ H x rs rm2 ac q.2⟩
theorem clause_lift {src : TId} {b : BT} {tb : TCd} (ms : MonoI src) (mb : MonoC tb) (σ : St) (H : Hp) (N : St → Hp → Prop) (h : lC K p (wClause src b tb) σ H N) : (lI K src) σ H fun J H1 => loopW J (lG K b) (lC K p tb) N σ H1 := by
  obtain ⟨ρ, M, acc, rs, rm, n, ⟨vs, hp, ra⟩, q⟩ := h
  refine ⟨ρ, M, rs, rm, ms _ _ _ _ (fun xs chk M1 q1 J H1 x1 rm1 it => ?_) q⟩
  have hp1 := x1.keep p _ n hp
  have n1 := x1.new p _ n hp
  have st := x1.stab rm
  exact loop_lift mb it (rs.mono st) rm1 n1 ⟨vs, hp1, ra.mono st⟩ q1 fun ρ' M' acc' σ' H' x2 rs' rm' ac' k => k σ' H' (x1.toP.trans hp ⟨vs, hp1⟩ x2) rs' rm' ac'
theorem comp_lift {fr : List (Option Nat)} {src : TId} {b : BT} {tb : TCd} (ms : MonoI src) (mb : MonoC tb) (σ : St) (H : Hp) (Q : VK) (h : lE K (wComp fr src b tb) σ H Q) : tComp (lI K src) (lG K b) (fun p => lC K p tb) fr σ H Q := by
  obtain ⟨ρ, M, rs, rm, q⟩ := h
  refine ⟨ρ, M, rs, rm, ms _ _ _ _ (fun xs chk M1 q1 J H1 x1 rm1 it p n => ?_) q⟩
  have st := x1.stab rm
  have xn : Ext M1 H1 M1 (upd H1 p (.lst [])) := Ext.new' n
  have stn := xn.stab rm1
  have n1 : M1 p = none := rm1.out n
  refine loop_lift (p := p) mb (xs := xs) (chk := chk) (fun M' H' st' => it M' H' ⟨fun a xs e => st'.tup _ _ (stn.tup _ _ e), fun a o u e => st'.frz _ _ _ (stn.frz _ _ _ e)⟩) (((rs.mono st).mono stn).inh fr) (rm1.new n) n1 ⟨[], upd_same, RDs.nil⟩ q1 fun ρ' M' acc' σ' H' x2 rs' rm' ac' k => ?_
  obtain ⟨vs, hp, ra⟩ := ac'
  have n' : M' p = none := x2.new p _ n1 upd_same
  refine k p n' (.ref p) H' ⟨fun a o m e => ?_, fun a o m e => ?_⟩ (fun a o e => ?_) (RD.ref_iff.mpr rfl)
  · have e1 := x1.keep a o m e
    have ne : a ≠ p := fun z => by subst z; rw [n] at e1; cases e1
    exact x2.keep a o ne (x1.new a o m e) (by rw [upd_ne ne]; exact e1)
  · have e1 := x1.keep a o m e
    have ne : a ≠ p := fun z => by subst z; rw [n] at e1; cases e1
    rw [updM_ne ne]
    exact x2.new a o (x1.new a o m e) (by rw [upd_ne ne]; exact e1)
  · by_cases z : a = p
    · subst z
      rw [updM_same] at e; cases e
      exact ⟨vs, hp, ra⟩
    · rw [updM_ne z] at e
      exact rm' a o e
end
end Mi
end L2
namespace L2
namespace Mi
open PySem PySem.Spec PyProof.Rows

/-! ### statements -/
def sNext : TSd := fun D ρ M => D.nx ρ M
def sSeq (t u : TSd) : TSd := fun D ρ M => t { D with nx := u D } ρ M
def sBreak : TSd := fun D ρ M => D.bk ρ M
def sCont : TSd := fun D ρ M => D.ct ρ M
def sDrop (te : TEd) : TSd := fun D ρ M => te ρ M fun _ M1 => D.nx ρ M1
def sRet (te : TEd) : TSd := fun D ρ M => te ρ M D.rt
def sIf (c : TTd) (t u : TSd) : TSd := fun D ρ M => c ρ M fun b M1 => if b = true then t D ρ M1 else u D ρ M1
def sAsg (te : TEd) (b : BT) : TSd := fun D ρ M => te ρ M fun x M1 => ∃ ρ', b x ρ = some ρ' ∧ D.nx ρ' M1
def sPar (ta : TAd) (bs : BTs) : TSd := fun D ρ M => ta ρ M fun xs M1 => ∃ ρ', bs xs ρ = some ρ' ∧ D.nx ρ' M1
def forD (b : BT) (tb : TSd) (chk : Mem → Prop) (D : EndsD) : List Mi.D → EnvD → Mem → Prop
  | [] => fun ρ M => chk M ∧ D.nx ρ M
  | x :: xs => fun ρ M => chk M ∧ ∃ ρ', b x ρ = some ρ' ∧ tb { D with nx := forD b tb chk D xs, ct := forD b tb chk D xs, bk := D.nx } ρ' M
def sFor (src : TId) (b : BT) (tb : TSd) : TSd := fun D ρ M => src ρ M fun xs chk M1 => forD b tb chk D xs ρ M1
def whileD (c : TTd) (tb : TSd) (D : EndsD) : Nat → EnvD → Mem → Prop
  | 0 => fun _ _ => False
  | n + 1 => fun ρ M => c ρ M fun b M1 => if b = true then tb { D with nx := whileD c tb D n, ct := whileD c tb D n, bk := D.nx } ρ M1 else D.nx ρ M1
def sWhile (c : TTd) (tb : TSd) : TSd := fun D ρ M => ∃ n, whileD c tb D n ρ M
theorem LeD.refl (a : EndsD) : LeD a a := ⟨fun _ _ h => h, fun _ _ h => h, fun _ _ h => h, fun _ _ h => h⟩
theorem mono_next : MonoS sNext := fun _ _ _ _ h q => h.nx _ _ q
theorem mono_break : MonoS sBreak := fun _ _ _ _ h q => h.bk _ _ q
theorem mono_cont : MonoS sCont := fun _ _ _ _ h q => h.ct _ _ q
theorem mono_sseq {t u : TSd} (ht : MonoS t) (hu : MonoS u) : MonoS (sSeq t u) := fun a b ρ M h q => ht { a with nx := u a } { b with nx := u b } _ _ ⟨fun ρ' M' q' => hu _ _ _ _ h q', h.rt, h.bk, h.ct⟩ q
theorem mono_drop {te : TEd} (h : MonoE te) : MonoS (sDrop te) := fun a b ρ M i q => h _ _ _ _ (fun _ M1 q1 => i.nx _ _ q1) q
theorem mono_ret {te : TEd} (h : MonoE te) : MonoS (sRet te) := fun a b ρ M i q => h _ _ _ _ (fun d M1 q1 => i.rt _ _ q1) q
theorem mono_sif {c : TTd} {t u : TSd} (hc : MonoT c) (ht : MonoS t) (hu : MonoS u) : MonoS (sIf c t u) := fun a b ρ M i q => hc _ _ _ _ (fun k M1 q1 => by
  cases k with
  | true => rw [if_pos rfl] at q1 ⊢; exact ht _ _ _ _ i q1
  | false => rw [if_neg Bool.false_ne_true] at q1 ⊢; exact hu _ _ _ _ i q1) q
theorem mono_asg {te : TEd} {bt : BT} (h : MonoE te) : MonoS (sAsg te bt) := fun a b ρ M i q => h _ _ _ _ (fun d M1 ⟨ρ', e, q1⟩ => ⟨ρ', e, i.nx _ _ q1⟩) q
theorem mono_par {ta : TAd} {bs : BTs} (h : MonoA ta) : MonoS (sPar ta bs) := fun a b ρ M i q => h _ _ _ _ (fun d M1 ⟨ρ', e, q1⟩ => ⟨ρ', e, i.nx _ _ q1⟩) q
theorem mono_forD {bt : BT} {tb : TSd} (hb : MonoS tb) {chk : Mem → Prop} {a b : EndsD} (i : LeD a b) : ∀ (xs : List D) (ρ : EnvD) (M : Mem), forD bt tb chk a xs ρ M → forD bt tb chk b xs ρ M
  | [], ρ, M, h => ⟨h.1, i.nx _ _ h.2⟩
  | x :: xs, ρ, M, ⟨c, ρ', e, q⟩ => ⟨c, ρ', e, hb { a with nx := forD bt tb chk a xs, ct := forD bt tb chk a xs, bk := a.nx } { b with nx := forD bt tb chk b xs, ct := forD bt tb chk b xs, bk := b.nx } _ _ ⟨fun ρ2 M2 q2 => mono_forD hb i xs ρ2 M2 q2, i.rt, i.nx, fun ρ2 M2 q2 => mono_forD hb i xs ρ2 M2 q2⟩ q⟩
theorem mono_for {src : TId} {bt : BT} {tb : TSd} (hs : MonoI src) (hb : MonoS tb) : MonoS (sFor src bt tb) := fun a b ρ M i q => hs _ _ _ _ (fun xs c M1 q1 => mono_forD hb i xs _ _ q1) q
theorem mono_whileD {c : TTd} {tb : TSd} (hc : MonoT c) (hb : MonoS tb) {a b : EndsD} (i : LeD a b) : ∀ (n : Nat) (ρ : EnvD) (M : Mem), whileD c tb a n ρ M → whileD c tb b n ρ M
  | 0, ρ, M, h => h
  | n + 1, ρ, M, h => hc _ _ _ _ (fun k M1 q1 => by
    cases k with
    | true => rw [if_pos rfl] at q1 ⊢; exact hb { a with nx := whileD c tb a n, ct := whileD c tb a n, bk := a.nx } { b with nx := whileD c tb b n, ct := whileD c tb b n, bk := b.nx } _ _ ⟨fun ρ2 M2 q2 => mono_whileD hc hb i n ρ2 M2 q2, i.rt, i.nx, fun ρ2 M2 q2 => mono_whileD hc hb i n ρ2 M2 q2⟩ q1
    | false => rw [if_neg Bool.false_ne_true] at q1 ⊢; exact i.nx _ _ q1) h
theorem mono_while {c : TTd} {tb : TSd} (hc : MonoT c) (hb : MonoS tb) : MonoS (sWhile c tb) := fun a b ρ M i ⟨n, q⟩ => ⟨n, mono_whileD hc hb i n _ _ q⟩

section
variable {K : PySem.W.Frag}
theorem next_lift (D : Ends) (σ : St) (H : Hp) (h : lS K sNext D σ H) : tNext D σ H := by
  obtain ⟨ρ, M, A, rs, rm, l, q⟩ := h
  exact l.nx ρ M σ H Ext.refl rs rm q
theorem break_lift (D : Ends) (σ : St) (H : Hp) (h : lS K sBreak D σ H) : tBreak D σ H := by
  obtain ⟨ρ, M, A, rs, rm, l, q⟩ := h
  exact l.bk ρ M σ H Ext.refl rs rm q
theorem cont_lift (D : Ends) (σ : St) (H : Hp) (h : lS K sCont D σ H) : tCont D σ H := by
  obtain ⟨ρ, M, A, rs, rm, l, q⟩ := h
  exact l.ct ρ M σ H Ext.refl rs rm q
theorem seq_lift {t u : TSd} (mt : MonoS t) (mu : MonoS u) (D : Ends) (σ : St) (H : Hp) (h : lS K (sSeq t u) D σ H) : tSeq (lS K t) (lS K u) D σ H := by
  obtain ⟨ρ, M, A, rs, rm, l, q⟩ := h
  exact ⟨ρ, M, { A with nx := u A }, rs, rm, ⟨fun ρ' M' σ' H' x rs' rm' q' => ⟨ρ', M', A, rs', rm', l.ext x, q'⟩, l.rt, l.bk, l.ct⟩, q⟩
theorem drop_lift {te : TEd} (m : MonoE te) (D : Ends) (σ : St) (H : Hp) (h : lS K (sDrop te) D σ H) : tDrop (lE K te) D σ H := by
  obtain ⟨ρ, M, A, rs, rm, l, q⟩ := h
  exact ⟨ρ, M, rs, rm, m _ _ _ _ (fun d M1 q1 v H1 x1 rm1 rd1 => l.nx ρ M1 σ H1 x1 (rs.mono (x1.stab rm)) rm1 q1) q⟩
theorem ret_lift {te : TEd} (m : MonoE te) (D : Ends) (σ : St) (H : Hp) (h : lS K (sRet te) D σ H) : tRet (lE K te) D σ H := by
  obtain ⟨ρ, M, A, rs, rm, l, q⟩ := h
  exact ⟨ρ, M, rs, rm, m _ _ _ _ (fun d M1 q1 v H1 x1 rm1 rd1 => l.rt d M1 v H1 x1 rm1 rd1 q1) q⟩
theorem if_lift {c : TTd} {t u : TSd} (mc : MonoT c) (D : Ends) (σ : St) (H : Hp) (h : lS K (sIf c t u) D σ H) : tIfS (lT K c) (lS K t) (lS K u) D σ H := by
  obtain ⟨ρ, M, A, rs, rm, l, q⟩ := h
  refine ⟨ρ, M, rs, rm, mc _ _ _ _ (fun k M1 q1 H1 x1 rm1 => ?_) q⟩
  cases k with
  | true => rw [if_pos rfl] at q1 ⊢; exact ⟨ρ, M1, A, rs.mono (x1.stab rm), rm1, l.ext x1, q1⟩
  | false => rw [if_neg Bool.false_ne_true] at q1 ⊢; exact ⟨ρ, M1, A, rs.mono (x1.stab rm), rm1, l.ext x1, q1⟩
theorem asg_lift {te : TEd} {b : BT} (m : MonoE te) (D : Ends) (σ : St) (H : Hp) (h : lS K (sAsg te b) D σ H) : tAsg (lE K te) (lG K b) D σ H := by
  obtain ⟨ρ, M, A, rs, rm, l, q⟩ := h
  refine ⟨ρ, M, rs, rm, m _ _ _ _ (fun d M1 ⟨ρ', e, q1⟩ v H1 x1 rm1 rd1 => ?_) q⟩
  exact ⟨d, ρ, ρ', rd1, rs.mono (x1.stab rm), e, fun σ' rs' => l.nx ρ' M1 σ' H1 x1 rs' rm1 q1⟩
theorem asgN_lift {te : TEd} {i : Nat} (m : MonoE te) (D : Ends) (σ : St) (H : Hp) (h : lS K (sAsg te (bName i)) D σ H) : tAsg (lE K te) (gName i) D σ H := by
  obtain ⟨ρ, M, A, rs, rm, l, q⟩ := h
  refine ⟨ρ, M, rs, rm, m _ _ _ _ (fun d M1 ⟨ρ', e, q1⟩ v H1 x1 rm1 rd1 => ?_) q⟩
  cases e
  exact l.nx _ M1 _ H1 x1 ((rs.mono (x1.stab rm)).set i rd1) rm1 q1
theorem for_lift {src : TId} {b : BT} {tb : TSd} (ms : MonoI src) (mb : MonoS tb) (D : Ends) (σ : St) (H : Hp) (h : lS K (sFor src b tb) D σ H) : tFor (lI K src) (lG K b) (lS K tb) D σ H := by
  obtain ⟨ρ, M, A, rs, rm, l, q⟩ := h
  refine ⟨ρ, M, rs, rm, ms _ _ _ _ (fun xs chk M1 q1 J H1 x1 rm1 it => ?_) q⟩
  refine ⟨fun i m σ H' => m = xs.length - i ∧ i ≤ xs.length ∧ ∃ ρ M2, RS K H' σ ρ ∧ RM K M2 H' ∧ Ext M1 H1 M2 H' ∧ forD b tb chk A (xs.drop i) ρ M2, ⟨xs.length, by simp, Nat.zero_le _, ρ, M1, rs.mono (x1.stab rm), rm1, Ext.refl, q1⟩, ?_⟩
  rintro i m σ2 H2 ⟨rfl, hi, ρ2, M2, rs2, rm2, x2, q2⟩
  have st2 := x2.stab rm1
  by_cases hlt : i < xs.length
  · rw [List.drop_eq_getElem_cons hlt] at q2
    obtain ⟨c, ρ', hb, q3⟩ := q2
    obtain ⟨go, yl⟩ := (it M2 H2 st2 rm2 c i).2 hlt
    refine .inr ⟨go, fun σ' H' => ∃ m', m' < xs.length - i ∧ (m' = xs.length - (i + 1) ∧ i + 1 ≤ xs.length ∧ ∃ ρ M, RS K H' σ' ρ ∧ RM K M H' ∧ Ext M1 H1 M H' ∧ forD b tb chk A (xs.drop (i + 1)) ρ M), fun σ' H' h => h, fun x' H' y => ?_⟩
    obtain ⟨yy, d, hd, rd⟩ := yl x' H' y
    rw [List.getElem?_eq_getElem hlt] at hd
    cases hd
    obtain ⟨xy, rmy⟩ := yy.ext rm2
    have x12 := x1.trans (x2.trans xy)
    refine ⟨_, ρ2, ρ', rd, rs2.mono (xy.stab rm2), hb, fun σ3 rs3 => ?_⟩
    have nx : ∀ ρ5 M5 σ5 H5, Ext M2 H' M5 H5 → RS K H5 σ5 ρ5 → RM K M5 H5 → forD b tb chk A (xs.drop (i + 1)) ρ5 M5 → ∃ m', m' < xs.length - i ∧ (m' = xs.length - (i + 1) ∧ i + 1 ≤ xs.length ∧ ∃ ρ M, RS K H5 σ5 ρ ∧ RM K M H5 ∧ Ext M1 H1 M H5 ∧ forD b tb chk A (xs.drop (i + 1)) ρ M) :=
      fun ρ5 M5 σ5 H5 x5 rs5 rm5 q5 => ⟨xs.length - (i + 1), by omega, rfl, hlt, ρ5, M5, rs5, rm5, (x2.trans xy).trans x5, q5⟩
    refine ⟨ρ', M2, { A with nx := forD b tb chk A (xs.drop (i + 1)), ct := forD b tb chk A (xs.drop (i + 1)), bk := A.nx }, rs3, rmy, ⟨nx, fun d M5 v H5 x5 => l.rt d M5 v H5 (x12.trans x5), fun ρ5 M5 σ5 H5 x5 => l.nx ρ5 M5 σ5 H5 (x12.trans x5), nx⟩, q3⟩
  · have e : i = xs.length := by omega
    subst e
    rw [List.drop_length] at q2
    exact .inl ⟨(it M2 H2 st2 rm2 q2.1 _).1 (Nat.le_refl _), l.nx ρ2 M2 σ2 H2 (x1.trans x2) rs2 rm2 q2.2⟩
theorem while_lift {c : TTd} {tb : TSd} (mc : MonoT c) (mb : MonoS tb) (D : Ends) (σ : St) (H : Hp) (h : lS K (sWhile c tb) D σ H) : tWhile (lT K c) (lS K tb) D σ H := by
  obtain ⟨ρ, M, A, rs, rm, l, n, q⟩ := h
  refine ⟨fun m σ' H' => ∃ ρ' M', RS K H' σ' ρ' ∧ RM K M' H' ∧ Ext M H M' H' ∧ whileD c tb A m ρ' M', ⟨n, ρ, M, rs, rm, Ext.refl, q⟩, ?_⟩
  rintro m σ1 H1 ⟨ρ1, M1, rs1, rm1, x1, q1⟩
  cases m with
  | zero => exact q1.elim
  | succ m =>
    refine ⟨ρ1, M1, rs1, rm1, mc _ _ _ _ (fun k M2 q2 H2 x2 rm2 => ?_) q1⟩
    have x12 := x1.trans x2
    have rs2 := rs1.mono (x2.stab rm1)
    cases k with
    | false => rw [if_neg Bool.false_ne_true] at q2; dsimp only; rw [if_neg Bool.false_ne_true]; exact l.nx ρ1 M2 σ1 H2 x12 rs2 rm2 q2
    | true =>
      rw [if_pos rfl] at q2
      dsimp only
      rw [if_pos rfl]
      refine ⟨fun σ' H' => ∃ ρ' M', RS K H' σ' ρ' ∧ RM K M' H' ∧ Ext M H M' H' ∧ whileD c tb A m ρ' M', fun σ' H' h => ⟨m, Nat.lt_succ_self m, h⟩, ρ1, M2, { A with nx := whileD c tb A m, ct := whileD c tb A m, bk := A.nx }, rs2, rm2, ⟨?_, fun d M5 v H5 x5 => l.rt d M5 v H5 (x12.trans x5), fun ρ5 M5 σ5 H5 x5 => l.nx ρ5 M5 σ5 H5 (x12.trans x5), ?_⟩, q2⟩
      · exact fun ρ5 M5 σ5 H5 x5 rs5 rm5 q5 => ⟨ρ5, M5, rs5, rm5, x12.trans x5, q5⟩
      · exact fun ρ5 M5 σ5 H5 x5 rs5 rm5 q5 => ⟨ρ5, M5, rs5, rm5, x12.trans x5, q5⟩
end
/-! ### stores into lists and dicts -/
def wSetI : D → D → D → Mem → (Mem → Prop) → Prop := fun o i v M Q => ∃ a, o = .ref a ∧
  ((∃ xs k j, i = .int k ∧ M a = some (.lst xs) ∧ ixN xs.length k = some j ∧ Q (updM M a (.lst (xs.set j v)))) ∨
   ∃ t kvs, M a = some (.dct t kvs) ∧ keyOk t i = true ∧ kvs.length < sizeLine ∧ Q (updM M a (.dct t (dput kvs i v))))
def sPut (te to ti : TEd) : TSd := fun D ρ M => te ρ M fun v M1 => to ρ M1 fun o M2 => ti ρ M2 fun i M3 => wSetI o i v M3 fun M4 => D.nx ρ M4
theorem mono_setI {o i v : D} {M : Mem} {Q Q' : Mem → Prop} (h : ∀ M', Q M' → Q' M') (q : wSetI o i v M Q) : wSetI o i v M Q' := by
  obtain ⟨a, e, ⟨xs, k, j, e1, e2, e3, q⟩ | ⟨t, kvs, e1, e2, e3, q⟩⟩ := q
  · exact ⟨a, e, .inl ⟨xs, k, j, e1, e2, e3, h _ q⟩⟩
  · exact ⟨a, e, .inr ⟨t, kvs, e1, e2, e3, h _ q⟩⟩
theorem mono_put {te to ti : TEd} (he : MonoE te) (ho : MonoE to) (hi : MonoE ti) : MonoS (sPut te to ti) := fun a b ρ M i q =>
  he _ _ _ _ (fun v M1 q1 => ho _ _ _ _ (fun o M2 q2 => hi _ _ _ _ (fun k M3 q3 => mono_setI (fun M' q' => i.nx _ _ q') q3) q2) q1) q
section
variable {X : Cx} {K : PySem.W.Frag}
theorem set_dict (hu : X.A.units + 1 < cLine) : PSet X (fun o i v H Q => ∃ a H', o = .ref a ∧ DPut H a i v H' ∧ Q H') := by
  intro pins s σ H o i v ov iv u Q I ro ri rv h
  obtain ⟨a, H', rfl, g, q⟩ := h
  cases ro
  exact d_setItem hu I g ri rv fun s' I' => ⟨H', I', q⟩
theorem PSet.or {t t' : TSet} (h : PSet X t) (h' : PSet X t') : PSet X (fun o i v H Q => t o i v H Q ∨ t' o i v H Q) := by
  intro pins s σ H o i v ov iv u Q I ro ri rv q
  rcases q with q | q
  · exact h pins s σ H o i v ov iv u Q I ro ri rv q
  · exact h' pins s σ H o i v ov iv u Q I ro ri rv q
section
variable {κ : Type} [DecidableEq κ] {H : Hp} {RK : D → κ → Prop} (inj : ∀ {d e : D} {k : κ}, RK d k → RK e k → d = e) (fn : ∀ {d : D} {k k' : κ}, RK d k → RK d k' → k = k')
include inj fn
theorem has_rel {k : D} {q : κ} (hk : RK k q) : ∀ {kvs : List (D × D)} {ps : List (κ × V)}, Paired (fun p r => RK p.1 r.1 ∧ RD K H p.2 r.2) kvs ps →
    (kvs.any fun p => decide (p.1 = k)) = (ps.any fun p => decide (p.1 = q))
  | _, _, .nil => rfl
  | _, _, .cons (a := p) (b := r) hr t => by
    rw [List.any_cons, List.any_cons, has_rel hk t]
    congr 1
    by_cases e : p.1 = k
    · have e' : r.1 = q := by have h1 := hr.1; rw [e] at h1; exact fn h1 hk
      rw [decide_eq_true e, decide_eq_true e']
    · have e' : ¬ r.1 = q := fun z => e (by have h1 := hr.1; rw [z] at h1; exact inj h1 hk)
      rw [decide_eq_false e, decide_eq_false e']
theorem map_rel {k : D} {q : κ} (hk : RK k q) {d : D} {v : V} (hv : RD K H d v) : ∀ {kvs : List (D × D)} {ps : List (κ × V)}, Paired (fun p r => RK p.1 r.1 ∧ RD K H p.2 r.2) kvs ps →
    Paired (fun p r => RK p.1 r.1 ∧ RD K H p.2 r.2) (kvs.map fun p => if p.1 = k then (p.1, d) else p) (ps.map fun p => if p.1 = q then (p.1, v) else p)
  | _, _, .nil => .nil
  | _, _, .cons (a := p) (b := r) hr t => by
    refine .cons ?_ (map_rel hk hv t)
    by_cases e : p.1 = k
    · have e' : r.1 = q := by have h1 := hr.1; rw [e] at h1; exact fn h1 hk
      dsimp only
      rw [if_pos e, if_pos e']
      exact ⟨hr.1, hv⟩
    · have e' : ¬ r.1 = q := fun z => e (by have h1 := hr.1; rw [z] at h1; exact inj h1 hk)
      dsimp only
      rw [if_neg e, if_neg e']
      exact hr
theorem dput_rel {k : D} {q : κ} (hk : RK k q) {d : D} {v : V} (hv : RD K H d v) {kvs : List (D × D)} {ps : List (κ × V)} (r : Paired (fun p r => RK p.1 r.1 ∧ RD K H p.2 r.2) kvs ps) :
    Paired (fun p r => RK p.1 r.1 ∧ RD K H p.2 r.2) (dput kvs k d) (putK ps q v) := by
  unfold dput putK
  rw [has_rel (K := K) (H := H) (RK := RK) inj fn hk r]
  by_cases e : (ps.any fun p => decide (p.1 = q)) = true
  · rw [if_pos e, if_pos e]
    exact map_rel (RK := RK) inj fn hk hv r
  · rw [if_neg e, if_neg e]
    exact r.snoc ⟨hk, hv⟩
end
theorem put_lift {M : Mem} {H : Hp} {o i v : D} {ov iv vv : V} {Qd : Mem → Prop} {Q : Hp → Prop} (rm : RM K M H) (ro : RD K H o ov) (ri : RD K H i iv) (rv : RD K H v vv) (h : wSetI o i v M Qd) (hQ : ∀ M' H', Ext M H M' H' → RM K M' H' → Qd M' → Q H') :
    rSetL ov iv vv H Q ∨ ∃ a H', ov = .ref a ∧ DPut H a iv vv H' ∧ Q H' := by
  obtain ⟨a, rfl, ⟨xs, k, j, rfl, e2, e3, q⟩ | ⟨t, kvs, e1, e2, e3, q⟩⟩ := h
  · cases RD.ref_iff.mp ro
    cases RD.int_iff.mp ri
    obtain ⟨vs, ha, rs⟩ := rm _ _ e2
    have st : Stab H (upd H a (.lst (vs.set j vv))) := rm.stabPut e2
    exact .inl ⟨a, vs, k, j, rfl, rfl, ha, by rw [rs.length]; exact e3, hQ _ _ (Ext.put e2) (rm.put (o := .lst (xs.set j v)) e2 ⟨_, upd_same, (rs.set j rv).mono st⟩) q⟩
  · cases RD.ref_iff.mp ro
    have ro' := rm _ _ e1
    cases t with
    | false =>
      obtain ⟨ps, hp, pr⟩ := ro'
      obtain ⟨kq, hk⟩ := key_ex (show isKey i = true from e2)
      have st : Stab H (upd H a (.dK (putK ps kq vv))) := rm.stabPut e1
      have pr2 := dput_rel (RK := RKey) RKey.inj RKey.fun hk rv pr
      rw [rkey_kV hk ri]
      refine .inr ⟨a, _, rfl, DPut.k hp (by rw [← Paired.length pr]; exact e3), hQ _ _ (Ext.put e1) (rm.put (o := .dct false (dput kvs i v)) e1 ⟨_, upd_same, Paired.mapP pr2 fun _ _ z => ⟨z.1, z.2.mono st⟩⟩) q⟩
    | true =>
      obtain ⟨ps, hp, pr⟩ := ro'
      obtain ⟨kq, hk⟩ := keyT_ex (show isKeyT i = true from e2)
      have st : Stab H (upd H a (.dT (putK ps kq vv))) := rm.stabPut e1
      have pr2 := dput_rel (RK := RKeys) RKeys.inj RKeys.fun hk rv pr
      cases i <;> first
        | exact hk.elim
        | (obtain ⟨b, us, rfl, hb, ru⟩ := RD.tup_iff.mp ri
           rw [rkeys_kV hk ru] at hb
           exact .inr ⟨a, _, rfl, DPut.t hp hb (by rw [← Paired.length pr]; exact e3), hQ _ _ (Ext.put e1) (rm.put (o := .dct true (dput kvs _ v)) e1 ⟨_, upd_same, Paired.mapP pr2 fun _ _ z => ⟨z.1, z.2.mono st⟩⟩) q⟩)
theorem ls_put {o i e : Expr} {te to ti : TEd} {pos tpos : Pos} (hu : X.A.units + 1 < cLine) (me : MonoE te) (mo : MonoE to) (mi : MonoE ti) (he : PE X e (lE X.K te)) (ho : PE X o (lE X.K to)) (hi : PE X i (lE X.K ti))
    (hs : swapsWithSole [.Subscript o i tpos] e pos.line X.env = pure false) (hw : swappedStores [.Subscript o i tpos] e X.env = pure none)
    (ha : ∀ v, assign (.Subscript o i tpos) X.env v = (do
      let ov ← holding [v] (eval o X.env)
      let iv ← holding [v, ov] (eval i X.env)
      standAt tpos
      holding [v, ov, iv] (setItem ov iv v)
      release [v, ov, iv] [])) : PS X (.Assign [.Subscript o i tpos] e pos) (lS X.K (sPut te to ti)) := by
  refine PS.imp (ps_asg he (pg_sub ho hi (PSet.or set_list (set_dict hu)) ha) hs hw rfl) fun D σ H h => ?_
  obtain ⟨ρ, M, A, rs, rm, l, q⟩ := h
  refine ⟨ρ, M, rs, rm, me _ _ _ _ (fun v M1 q1 vv H1 x1 rm1 rd1 => ?_) q⟩
  refine ⟨ρ, M1, rs.mono (x1.stab rm), rm1, mo _ _ _ _ (fun ov M2 q2 vo H2 x2 rm2 rd2 => ?_) q1⟩
  refine ⟨ρ, M2, (rs.mono (x1.stab rm)).mono (x2.stab rm1), rm2, mi _ _ _ _ (fun iv M3 q3 vi H3 x3 rm3 rd3 => ?_) q2⟩
  have x13 := x1.trans (x2.trans x3)
  exact put_lift rm3 (rd2.mono (x3.stab rm2)) rd3 ((rd1.mono (x2.stab rm1)).mono (x3.stab rm2)) q3 fun M' H' x4 rm4 q4 => l.nx ρ M' σ H' (x13.trans x4) (rs.mono ((x13.trans x4).stab rm)) rm4 q4
/-! name += e, o[i] += e: ints -/
def wIAdd : R2d
  | .int i, .int j, M, Q => Q (.int (i + j)) M
  | _, _, _, _ => False
def wISub : R2d
  | .int i, .int j, M, Q => Q (.int (i - j)) M
  | _, _, _, _ => False
def wIMul : R2d
  | .int i, .int j, M, Q => MulOk i j ∧ Q (.int (i * j)) M
  | _, _, _, _ => False
theorem mono_iadd : Mono2 wIAdd := by
  intro x y M Q Q' h q
  cases x <;> cases y <;> first | exact q.elim | exact h _ _ q
theorem mono_isub : Mono2 wISub := by
  intro x y M Q Q' h q
  cases x <;> cases y <;> first | exact q.elim | exact h _ _ q
theorem mono_imul : Mono2 wIMul := by
  intro x y M Q Q' h q
  cases x <;> cases y <;> first | exact q.elim | exact ⟨q.1, h _ _ q.2⟩
theorem iop_add_d : OpR X (inplaceOp .Add) (l2 X.K wIAdd) := by
  refine OpR.of iop_add fun v u H Q h => ?_
  obtain ⟨x, y, M, rm, rx, ry, q⟩ := h
  cases x <;> cases y <;> first
    | exact q.elim
    | (cases RD.int_iff.mp rx; cases RD.int_iff.mp ry; exact ⟨_, _, rfl, rfl, q _ H Ext.refl rm (RD.int_iff.mpr rfl)⟩)
theorem iop_sub_d : OpR X (inplaceOp .Sub) (l2 X.K wISub) := by
  refine OpR.of iop_sub fun v u H Q h => ?_
  obtain ⟨x, y, M, rm, rx, ry, q⟩ := h
  cases x <;> cases y <;> first
    | exact q.elim
    | (cases RD.int_iff.mp rx; cases RD.int_iff.mp ry; exact ⟨_, _, rfl, rfl, q _ H Ext.refl rm (RD.int_iff.mpr rfl)⟩)
theorem iop_mul_i : OpR X (inplaceOp .Mult) (rI MulOk fun i j => .int (i * j)) := opI fun _ _ _ _ _ _ _ hc q => imul_int q hc.ok
theorem iop_mul_d : OpR X (inplaceOp .Mult) (l2 X.K wIMul) := by
  refine OpR.of iop_mul_i fun v u H Q h => ?_
  obtain ⟨x, y, M, rm, rx, ry, q⟩ := h
  cases x <;> cases y <;> first
    | exact q.elim
    | (cases RD.int_iff.mp rx; cases RD.int_iff.mp ry; exact ⟨_, _, rfl, rfl, q.1, q.2 _ H Ext.refl rm (RD.int_iff.mpr rfl)⟩)
def sAug (i : Nat) (rd : R2d) (te : TEd) : TSd := fun D ρ M => ∃ x, ρ[i]? = some (some x) ∧ te ρ M fun y M1 => rd x y M1 fun z M2 => D.nx (ρ.set i (some z)) M2
theorem mono_aug {i : Nat} {rd : R2d} {te : TEd} (hr : Mono2 rd) (he : MonoE te) : MonoS (sAug i rd te) := fun a b ρ M l ⟨x, e, q⟩ => ⟨x, e, he _ _ _ _ (fun y M1 q1 => hr _ _ _ _ _ (fun z M2 q2 => l.nx _ _ q2) q1) q⟩
theorem ls_aug {i : Nat} {x : Str} {e : Expr} {te : TEd} {op : Operator} {rd : R2d} {pos pos' : Pos} (hN : X.N.Nodup) (hi : X.N[i]? = some x) (hx : Loc X.env.scope x) (he : PE X e (lE X.K te)) (ho : OpR X (inplaceOp op) (l2 X.K rd)) (hr : Mono2 rd) (me : MonoE te)
    (hf : X.fn x = true ∨ X.env.scope.names.lookup x = some .local) : PS X (.AugAssign (.Name x pos') op e pos) (lS X.K (sAug i rd te)) := by
  refine PS.imp (ps_aug hN hi hx he (ti := l2 X.K rd) ho hf) fun D σ H h => ?_
  obtain ⟨ρ, M, A, rs, rm, l, d, e, q⟩ := h
  obtain ⟨v, hv, rd0⟩ := rs.2 i d e
  refine ⟨v, hv, ρ, M, rs, rm, me _ _ _ _ (fun y M1 q1 u H1 x1 rm1 rd1 => ?_) q⟩
  refine ⟨d, y, M1, rm1, rd0.mono (x1.stab rm), rd1, hr _ _ _ _ _ (fun z M2 q2 w H2 x2 rm2 rd2 => ?_) q1⟩
  exact l.nx _ M2 _ H2 (x1.trans x2) ((rs.mono ((x1.trans x2).stab rm)).set i rd2) rm2 q2
end
end Mi
end L2
namespace L2
open PySem PySem.Spec PyProof.Rows
section
variable {X : Cx} {pos : Pos}
/-- a, b, c = x, y, z with plain local names -/
def tPar3 (i j l : Nat) (ta : TA) : TS := fun D σ H => ta σ H fun vs H1 => ∃ u v w, vs = [u, v, w] ∧ D.nx (((σ.set i (some u)).set j (some v)).set l (some w)) H1
theorem ps_par3 {i j l : Nat} {x y z : Str} {a b c : Expr} {ta : TA} {px py pz pt : Pos} {kt k2 pt2} (hc : X.calm = true) (hN : X.N.Nodup) (hi : X.N[i]? = some x) (hj : X.N[j]? = some y) (hl : X.N[l]? = some z) (hij : i ≠ j) (hil : i ≠ l) (hjl : j ≠ l)
    (hx : X.env.scope.names.lookup x = some .local) (hy : X.env.scope.names.lookup y = some .local) (hz : X.env.scope.names.lookup z = some .local) (ha : PA X [a, b, c] ta)
    (hw : swappedStores [.Tuple [.Name x px, .Name y py, .Name z pz] kt pt] (.Tuple [a, b, c] k2 pt2) X.env = pure (some [x, y, z]))
    (hs : swapsWithSole [.Tuple [.Name x px, .Name y py, .Name z pz] kt pt] (.Tuple [a, b, c] k2 pt2) pos.line X.env = pure false := by rfl) :
    PS X (.Assign [.Tuple [.Name x px, .Name y py, .Name z pz] kt pt] (.Tuple [a, b, c] k2 pt2) pos) (tPar3 i j l ta) := by
  intro pins s σ H D I h
  rw [exec_Assign_arm]
  refine wpAny_bind (wpAny_standAt ?_)
  rw [hs]
  refine wpAny_bind (wpAny_pure ?_)
  rw [if_neg (by decide)]
  refine wpAny_bind (Tuple_ (thn (ha _ pins s σ H _ I h) fun us s1 ⟨vs, H1, I1, r1, q1⟩ => ?_))
  obtain ⟨v1, v2, v3, e1, q1⟩ := q1
  subst e1
  obtain ⟨u1, u2, u3, rfl, w1, w2, w3⟩ : ∃ u1 u2 u3, us = [u1, u2, u3] ∧ RelV v1 u1 ∧ RelV v2 u2 ∧ RelV v3 u3 := by
    cases r1 with
    | cons p q => cases q with
      | cons p' q' => cases q' with
        | cons p'' q'' => cases q''; exact ⟨_, _, _, rfl, p, p', p''⟩
  refine wpAny_newObj_type ?_ (by show 3 ≤ sizeLine; decide)
  have I2 : Inv X pins σ H1 { s1 with heap := s1.heap.push { cls := .type "tuple", data := .seq [u1, u2, u3].toArray } } := I1.kept (t' := s1.toks) fun b o e => Heap.get?_push_of_some _ e
  rw [hw]
  refine wpAny_bind (wpAny_pure ?_)
  show wpAny (model X.prog X.w) X.A (do rule "assign.swapped-stores"; let items ← unpackItems (.ref s1.heap.objs.size) 3 none; assignInOrder [fun v => bindName X.env z v, fun v => bindName X.env y v, fun v => bindName X.env x v] items.reverse; pure Flow.next) _ _ _
  refine wpAny_bind (wpAny_rule (wpAny_bind (unpackItems_tuple (items := #[u1, u2, u3]) (I.ok.hd hc) (IsTup.new s1.heap _) fun h' hx' => ?_)))
  have I3 := I2.kept (h' := h') (t' := s1.toks) fun b o e => hx' b o (Nat.ne_of_lt (Heap.lt_size e)) e
  show wpAny _ _ (assignInOrder [fun v => bindName X.env z v, fun v => bindName X.env y v, fun v => bindName X.env x v] [u3, u2, u1] >>= fun _ => pure Flow.next) _ _ _
  refine wpAny_bind (assignInOrder_cons (wpAny_bindName (store_ok I3 hN hl (.inl hz) w3 (fun s2 I4 => ?_) (.inr hz))))
  refine assignInOrder_cons (wpAny_bindName (store_ok I4 hN hj (.inl hy) w2 (fun s3 I5 => ?_) (.inr hy)))
  refine assignInOrder_cons (wpAny_bindName (store_ok I5 hN hi (.inl hx) w1 (fun s4 I6 => assignInOrder_nil (wpAny_pure ?_)) (.inr hx)))
  have e : (((σ.set l (some v3)).set j (some v2)).set i (some v1)) = ((σ.set i (some v1)).set j (some v2)).set l (some v3) := by
    rw [List.set_comm _ _ (Ne.symm hjl), List.set_comm _ _ (Ne.symm hil), List.set_comm _ _ (Ne.symm hij)]
  rw [e] at I6
  exact ⟨_, H1, I6, q1⟩
end
namespace Mi
variable {K : PySem.W.Frag}
theorem par2_lift {ta : TAd} {i j : Nat} (m : MonoA ta) (D : Ends) (σ : St) (H : Hp) (h : lS K (sPar ta (bCons (bName i) (bCons (bName j) bNil))) D σ H) : tPar i j (lA K ta) D σ H := by
  obtain ⟨ρ, M, A, rs, rm, l, q⟩ := h
  refine ⟨ρ, M, rs, rm, m _ _ _ _ (fun ds M1 ⟨ρ', e, q1⟩ vs H1 x1 rm1 rd1 => ?_) q⟩
  match ds, e, rd1 with
  | [d1, d2], e, rd1 =>
    obtain ⟨v, u, rfl, r1, r2⟩ := rd1.two
    simp only [bCons, bName, bNil, Option.bind_some, Option.some.injEq] at e
    subst e
    exact ⟨v, u, rfl, l.nx _ M1 _ H1 x1 (((rs.mono (x1.stab rm)).set i r1).set j r2) rm1 q1⟩
theorem par3_lift {ta : TAd} {i j k : Nat} (m : MonoA ta) (D : Ends) (σ : St) (H : Hp) (h : lS K (sPar ta (bCons (bName i) (bCons (bName j) (bCons (bName k) bNil)))) D σ H) : tPar3 i j k (lA K ta) D σ H := by
  obtain ⟨ρ, M, A, rs, rm, l, q⟩ := h
  refine ⟨ρ, M, rs, rm, m _ _ _ _ (fun ds M1 ⟨ρ', e, q1⟩ vs H1 x1 rm1 rd1 => ?_) q⟩
  match ds, e, rd1 with
  | [d1, d2, d3], e, rd1 =>
    obtain ⟨v, r, rfl, r1, rd2⟩ := RDs.cons_iff.mp rd1
    obtain ⟨u, w, rfl, r2, r3⟩ := rd2.two
    simp only [bCons, bName, bNil, Option.bind_some, Option.some.injEq] at e
    subst e
    exact ⟨v, u, w, rfl, l.nx _ M1 _ H1 x1 ((((rs.mono (x1.stab rm)).set i r1).set j r2).set k r3) rm1 q1⟩
end Mi
end L2
namespace L2
open PySem PySem.Spec PyProof.Rows
section
variable {X : Cx}
theorem get_list : PGet X (fun o i H Q => ∃ a xs k x, o = .ref a ∧ i = .int k ∧ SqL X.K H a xs ∧ atI xs k = some x ∧ Q x H) := by
  intro pins s σ H o i ov iv Q I ro ri h
  obtain ⟨a, xs, k, x, rfl, rfl, sq, he, q⟩ := h
  cases ro
  obtain ⟨t, rfl⟩ := ri
  obtain ⟨its, r, pl, hz⟩ := I.list sq
  obtain ⟨j, h1, h2, h3, h4, h5⟩ := atI_get he
  obtain ⟨w, ew, rw'⟩ := r.get h2
  have hl := r.length
  have hn := line63
  have fin : EP X pins σ Q w s := ⟨x, H, I, rw', q⟩
  by_cases h0 : 0 ≤ k
  · have hj : k.toNat = j := Option.some.inj (by rw [← h1, seqIndex_of h0 h5])
    exact wpAny_getItem_list pl.isList h0 (by omega) (by rw [hj]; simpa using ew) fin
  · have hj : (k + (its.toArray.size : Int)).toNat = j := by
      rw [List.size_toArray, ← hl]
      exact Option.some.inj (by rw [← h1, seqIndex_neg (by omega) h4])
    exact wpAny_getItem_list_neg pl.isList (by omega) (by rw [List.size_toArray]; omega) (by omega) (by rw [hj]; simpa using ew) fin
end
namespace Mi
section
variable {X : Cx}
def wGetL : R2d := fun x y M Q => ∃ a ds k d, x = .ref a ∧ y = .int k ∧ M a = some (.lst ds) ∧ atI ds k = some d ∧ Q d M
theorem mono_getL : Mono2 wGetL := fun _ _ _ _ _ h ⟨a, ds, k, d, e1, e2, e3, e4, q⟩ => ⟨a, ds, k, d, e1, e2, e3, e4, h _ _ q⟩
/-- o[i] op= e, o a list -/
def sAugI (to ti te : TEd) (rd : R2d) : TSd := fun D ρ M => to ρ M fun o M1 => ti ρ M1 fun i M2 => wGetL o i M2 fun x M3 => te ρ M3 fun y M4 => rd x y M4 fun z M5 => wSetI o i z M5 fun M6 => D.nx ρ M6
theorem mono_augI {to ti te : TEd} {rd : R2d} (ho : MonoE to) (hi : MonoE ti) (he : MonoE te) (hr : Mono2 rd) : MonoS (sAugI to ti te rd) := fun a b ρ M l q =>
  ho _ _ _ _ (fun o M1 q1 => hi _ _ _ _ (fun i M2 q2 => mono_getL _ _ _ _ _ (fun x M3 q3 => he _ _ _ _ (fun y M4 q4 => hr _ _ _ _ _ (fun z M5 q5 => mono_setI (fun M6 q6 => l.nx _ _ q6) q5) q4) q3) q2) q1) q
theorem ls_augI {o i e : Expr} {to ti te : TEd} {op : Operator} {rd : R2d} {pos tpos : Pos} (hu : X.A.units + 1 < cLine) (mo : MonoE to) (mi : MonoE ti) (me : MonoE te) (hr : Mono2 rd) (ho : PE X o (lE X.K to)) (hi : PE X i (lE X.K ti)) (he : PE X e (lE X.K te)) (hop : OpR X (inplaceOp op) (l2 X.K rd))
    (ha : ∀ ov iv new, augStore i ov iv new = (do holding [new, ov, iv] (setItem ov iv new); release [new, ov, iv] []; pure .next)) : PS X (.AugAssign (.Subscript o i tpos) op e pos) (lS X.K (sAugI to ti te rd)) := by
  refine PS.imp (ps_augS ho hi get_list he (tip := l2 X.K rd) hop (PSet.or set_list (set_dict hu)) ha) fun D σ H h => ?_
  obtain ⟨ρ, M, A, rs, rm, l, q⟩ := h
  refine ⟨ρ, M, rs, rm, mo _ _ _ _ (fun d1 M1 q1 v1 H1 x1 rm1 rd1 => ?_) q⟩
  have rs1 := rs.mono (x1.stab rm)
  refine ⟨ρ, M1, rs1, rm1, mi _ _ _ _ (fun d2 M2 q2 v2 H2 x2 rm2 rd2 => ?_) q1⟩
  have rs2 := rs1.mono (x2.stab rm1)
  have rd1' := rd1.mono (x2.stab rm1)
  obtain ⟨a, ds, k, d, rfl, rfl, e3, e4, q3⟩ := q2
  cases RD.ref_iff.mp rd1'
  cases RD.int_iff.mp rd2
  obtain ⟨vs, hva, rv⟩ := rm2 _ _ e3
  obtain ⟨v3, ev3, rd3⟩ := atI_rd rv e4
  refine ⟨a, vs, k, v3, rfl, rfl, SqL.of hva, ev3, ?_⟩
  refine ⟨ρ, M2, rs2, rm2, me _ _ _ _ (fun d4 M4 q4 v4 H4 x4 rm4 rd4 => ?_) q3⟩
  refine ⟨d, d4, M4, rm4, rd3.mono (x4.stab rm2), rd4, hr _ _ _ _ _ (fun d5 M5 q5 v5 H5 x5 rm5 rd5 => ?_) q4⟩
  have x15 := ((x1.trans x2).trans x4).trans x5
  exact put_lift rm5 (RD.ref_iff.mpr rfl) (RD.int_iff.mpr rfl) rd5 q5 fun M' H' x6 rm6 q6 => l.nx ρ M' σ H' (x15.trans x6) (rs.mono ((x15.trans x6).stab rm)) rm6 q6
end
end Mi
end L2
namespace L2
namespace Mi
open PySem PySem.Spec PyProof.Rows
section
variable {X : Cx}
/-! ### is None, True, False -/
def isD : D → D → Option Bool
  | x, .non => some (match x with | .non => true | _ => false)
  | x, .bl b => some (match x with | .bl c => c == b | _ => false)
  | _, _ => none
def wIs : R2d := fun x y M Q => ∃ k, isD x y = some k ∧ Q (.bl k) M
def wIsn : R2d := fun x y M Q => ∃ k, isD x y = some k ∧ Q (.bl (!k)) M
theorem mono_is : Mono2 wIs := fun _ _ _ _ _ h ⟨k, e, q⟩ => ⟨k, e, h _ _ q⟩
theorem mono_isn : Mono2 wIsn := fun _ _ _ _ _ h ⟨k, e, q⟩ => ⟨k, e, h _ _ q⟩
theorem is_bool {M : Model} {A : Around} {E : Value → Shared → Prop} {s : Shared} {Q : Value → Shared → Prop} {v : Value} {b : Bool} (hv : ∀ id, v ≠ .builtin id) (h : Q (.bool (v == .bool b)) s) : wpAny M A (compareOp .Is v (.bool b)) Q E s := by
  cases v <;> first | exact wpAny_pure h | exact absurd rfl (hv _)
theorem isn_bool {M : Model} {A : Around} {E : Value → Shared → Prop} {s : Shared} {Q : Value → Shared → Prop} {v : Value} {b : Bool} (hv : ∀ id, v ≠ .builtin id) (h : Q (.bool (!(v == .bool b))) s) : wpAny M A (compareOp .IsNot v (.bool b)) Q E s := by
  cases v <;> first | exact wpAny_pure h | exact absurd rfl (hv _)
theorem is_val {K : PySem.W.Frag} {H : Hp} {x y : D} {v w : V} {u t : Value} {k : Bool} (e : isD x y = some k) (rx : RD K H x v) (ry : RD K H y w) (ru : RelV v u) (rt : RelV w t) : (t = .none ∧ (u == .none) = k) ∨ ∃ b, t = .bool b ∧ (u == .bool b) = k ∧ ∀ id, u ≠ .builtin id := by
  cases y with
  | non =>
    cases RD.non_iff.mp ry
    cases rt
    refine .inl ⟨rfl, ?_⟩
    cases x with
    | non => cases RD.non_iff.mp rx; cases ru; cases e; rfl
    | bl c => cases RD.bl_iff.mp rx; cases ru; cases e; rfl
    | int i => cases RD.int_iff.mp rx; obtain ⟨tk, rfl⟩ := ru; cases e; rfl
    | str z => cases RD.str_iff.mp rx; obtain ⟨tk, rfl⟩ := ru; cases e; rfl
    | tup ds => obtain ⟨a, vs, rfl, _⟩ := RD.tup_iff.mp rx; cases ru; cases e; rfl
    | con ds => obtain ⟨a, vs, rfl, _⟩ := RD.con_iff.mp rx; cases ru; cases e; rfl
    | ref a => cases RD.ref_iff.mp rx; cases ru; cases e; rfl
  | bl b =>
    cases RD.bl_iff.mp ry
    cases rt
    refine .inr ⟨b, rfl, ?_⟩
    cases x with
    | non => cases RD.non_iff.mp rx; cases ru; cases e; exact ⟨rfl, fun _ z => by cases z⟩
    | bl c => cases RD.bl_iff.mp rx; cases ru; cases e; exact ⟨by cases b <;> cases c <;> rfl, fun _ z => by cases z⟩
    | int i => cases RD.int_iff.mp rx; obtain ⟨tk, rfl⟩ := ru; cases e; exact ⟨rfl, fun _ z => by cases z⟩
    | str z => cases RD.str_iff.mp rx; obtain ⟨tk, rfl⟩ := ru; cases e; exact ⟨rfl, fun _ z => by cases z⟩
    | tup ds => obtain ⟨a, vs, rfl, _⟩ := RD.tup_iff.mp rx; cases ru; cases e; exact ⟨rfl, fun _ z => by cases z⟩
    | con ds => obtain ⟨a, vs, rfl, _⟩ := RD.con_iff.mp rx; cases ru; cases e; exact ⟨rfl, fun _ z => by cases z⟩
    | ref a => cases RD.ref_iff.mp rx; cases ru; cases e; exact ⟨rfl, fun _ z => by cases z⟩
  | _ => cases e
theorem op_is_d : OpR X (compareOp .Is) (l2 X.K wIs) := by
  intro pins s σ H v w u t Q I ru rt h
  obtain ⟨x, y, M, rm, rx, ry, k, e, q⟩ := h
  have fin : EP X pins σ Q (.bool k) s := ⟨.bl k, H, I, rfl, q _ H Ext.refl rm (RD.bl_iff.mpr rfl)⟩
  rcases is_val e rx ry ru rt with ⟨rfl, e2⟩ | ⟨b, rfl, e2, nb⟩
  · exact is_none_gen (by rw [e2]; exact fin)
  · exact is_bool nb (by rw [e2]; exact fin)
theorem op_isn_d : OpR X (compareOp .IsNot) (l2 X.K wIsn) := by
  intro pins s σ H v w u t Q I ru rt h
  obtain ⟨x, y, M, rm, rx, ry, k, e, q⟩ := h
  have fin : EP X pins σ Q (.bool (!k)) s := ⟨.bl (!k), H, I, rfl, q _ H Ext.refl rm (RD.bl_iff.mpr rfl)⟩
  rcases is_val e rx ry ru rt with ⟨rfl, e2⟩ | ⟨b, rfl, e2, nb⟩
  · exact isnot_none_gen (by rw [e2]; exact fin)
  · exact isn_bool nb (by rw [e2]; exact fin)
/-! ### a op b op c -/
def wChain (r r' : R2d) (ta tb tc : TEd) : TEd := fun ρ M Q => ta ρ M fun x M1 => tb ρ M1 fun y M2 => r x y M2 fun z M3 => ∃ k, z = .bl k ∧ (if k = true then tc ρ M3 fun w M4 => r' y w M4 Q else Q (.bl false) M3)
theorem mono_chain {r r' : R2d} {ta tb tc : TEd} (hr : Mono2 r) (hr' : Mono2 r') (ha : MonoE ta) (hb : MonoE tb) (hc : MonoE tc) : MonoE (wChain r r' ta tb tc) := fun ρ M Q Q' i q =>
  ha _ _ _ _ (fun x M1 q1 => hb _ _ _ _ (fun y M2 q2 => hr _ _ _ _ _ (fun z M3 ⟨k, e, q3⟩ => ⟨k, e, by
    cases k with
    | true => rw [if_pos rfl] at q3 ⊢; exact hc _ _ _ _ (fun w M4 q4 => hr' _ _ _ _ _ i q4) q3
    | false => rw [if_neg Bool.false_ne_true] at q3 ⊢; exact i _ _ q3⟩) q2) q1) q
theorem chain_lift {r r' : R2d} {ta tb tc : TEd} (hr : Mono2 r) (hr' : Mono2 r') (ma : MonoE ta) (mb : MonoE tb) (mc : MonoE tc) (σ : St) (H : Hp) (Q : VK) (h : lE X.K (wChain r r' ta tb tc) σ H Q) : tChain (l2 X.K r) (l2 X.K r') (lE X.K ta) (lE X.K tb) (lE X.K tc) σ H Q := by
  obtain ⟨ρ, M, rs, rm, q⟩ := h
  refine ⟨ρ, M, rs, rm, ma _ _ _ _ (fun x M1 q1 v H1 x1 rm1 rd1 => ?_) q⟩
  refine ⟨ρ, M1, rs.mono (x1.stab rm), rm1, mb _ _ _ _ (fun y M2 q2 w H2 x2 rm2 rd2 => ?_) q1⟩
  refine ⟨x, y, M2, rm2, rd1.mono (x2.stab rm1), rd2, hr _ _ _ _ _ (fun z M3 ⟨k, e, q3⟩ v3 H3 x3 rm3 rd3 => ?_) q2⟩
  subst e
  refine ⟨k, RD.bl_iff.mp rd3, ?_⟩
  cases k with
  | true =>
    rw [if_pos rfl] at q3 ⊢
    refine ⟨ρ, M3, (((rs.mono (x1.stab rm)).mono (x2.stab rm1)).mono (x3.stab rm2)), rm3, mc _ _ _ _ (fun w4 M4 q4 v4 H4 x4 rm4 rd4 => ?_) q3⟩
    exact ⟨y, w4, M4, rm4, (rd2.mono (x3.stab rm2)).mono (x4.stab rm3), rd4, hr' _ _ _ _ _ (fun d M5 k5 => k5.ext (((x1.trans x2).trans x3).trans x4)) q4⟩
  | false =>
    rw [if_neg Bool.false_ne_true] at q3 ⊢
    exact q3 (.bl false) H3 ((x1.trans x2).trans x3) rm3 (RD.bl_iff.mpr rfl)
/-! ### all, any -/
def tru1 : D → Option Bool
  | .bl b => some b
  | .int i => some (i != 0)
  | _ => none
def wAll : RAd := fun xs M Q => ∃ x ds ts, xs = [x] ∧ seqD M x = some ds ∧ mapO tru1 ds = some ts ∧ Q (.bl (ts.all id)) M
def wAny : RAd := fun xs M Q => ∃ x ds ts, xs = [x] ∧ seqD M x = some ds ∧ mapO tru1 ds = some ts ∧ Q (.bl (ts.any id)) M
theorem mono_all : MonoAr wAll := fun _ _ _ _ h ⟨x, ds, ts, e, e1, e2, q⟩ => ⟨x, ds, ts, e, e1, e2, h _ _ q⟩
theorem mono_any : MonoAr wAny := fun _ _ _ _ h ⟨x, ds, ts, e, e1, e2, q⟩ => ⟨x, ds, ts, e, e1, e2, h _ _ q⟩
theorem mapO_get {α β : Type} {f : α → Option β} : ∀ {xs : List α} {ys : List β}, mapO f xs = some ys → ys.length = xs.length ∧ ∀ (i : Nat) x, xs[i]? = some x → ∃ y, ys[i]? = some y ∧ f x = some y
  | [], ys, h => by cases h; exact ⟨rfl, fun i x e => by simp at e⟩
  | x :: xs, ys, h => by
    simp only [mapO] at h
    cases e1 : f x with
    | none => rw [e1] at h; cases h
    | some y =>
      rw [e1] at h
      simp only [Option.bind_some] at h
      cases e2 : mapO f xs with
      | none => rw [e2] at h; cases h
      | some r =>
        rw [e2] at h; cases h
        obtain ⟨l, g⟩ := mapO_get e2
        refine ⟨by simp [l], fun i z e => ?_⟩
        cases i with
        | zero => simp at e; subst e; exact ⟨y, rfl, e1⟩
        | succ i => simp at e; simpa using g i z e
theorem tru_val {P : Program} {w : World} {A : Around} {E : Value → Shared → Prop} {s : Shared} {K : PySem.W.Frag} {H : Hp} {d : D} {v : V} {u : Value} {b : Bool} {Q : Bool → Shared → Prop} (e : tru1 d = some b) (rd : RD K H d v) (ru : RelV v u) (q : Q b s) : wpAny (model P w) A (truthy u) Q E s := by
  cases d with
  | bl c => cases RD.bl_iff.mp rd; cases ru; cases e; exact wpAny_truthy_bool q
  | int i => cases RD.int_iff.mp rd; obtain ⟨t, rfl⟩ := ru; cases e; exact PyProof.Rows.truthy_int q
  | _ => cases e
theorem range_all {ts : List Bool} : (List.range ts.length).all (fun i => ts.getD i false) = ts.all id ∧ (List.range ts.length).any (fun i => ts.getD i false) = ts.any id := by
  have e : (List.range ts.length).map (fun i => ts.getD i false) = ts := by
    apply List.ext_getElem
    · simp
    · intro i h1 h2; simp [List.getD_eq_getElem?_getD, List.getElem?_eq_getElem h2]
  constructor
  · conv => rhs; rw [← e]
    rw [List.all_map]; rfl
  · conv => rhs; rw [← e]
    rw [List.any_map]; rfl
/-- what all and any have in common -/
theorem walk_all (hc : X.calm = true) {pins : List (Addr × Obj)} {s : Shared} {σ : St} {H : Hp} {M : Mem} {x : D} {ds : List D} {ts : List Bool} {v : V} {u : Value} {Q : Value → Shared → Prop} {g : List Bool → Bool} (I : Inv X pins σ H s) (rm : RM X.K M H) (rd : RD X.K H x v) (ru : RelV v u) (e1 : seqD M x = some ds) (e2 : mapO tru1 ds = some ts)
    (fin : ∀ h' tk, Inv X pins σ H { s with heap := h', toks := tk } → Q (.bool (g ts)) { s with heap := h', toks := tk })
    (gg : Nat → (Nat → Bool) → Bool) (hg : gg ts.length (fun i => ts.getD i false) = g ts) :
    wpAny (model X.prog X.w) X.A.in1 (pyIter u) (fun it s₂ => ∃ I fp wr n P St tr, it = .ref I ∧ Walks X.prog X.w X.A.in1 I fp wr n P St ∧ St 0 s₂.heap ∧ TruthOf X.prog X.w X.A.in1 P tr ∧
      ∀ h' tk, (∀ b o, b ∉ wr → s₂.heap.get? b = some o → h'.get? b = some o) → Q (.bool (gg n tr)) { s₂ with heap := h', toks := tk }) X.xe s := by
  obtain ⟨p, vs, rfl, sq, r2⟩ := seq_of rm rd e1
  cases ru
  obtain ⟨lt, get⟩ := mapO_get e2
  have lv := r2.length
  have tr : ∀ (its : List Value), Vals vs its → TruthOf X.prog X.w X.A.in1 (fun i w => its.toArray[i]? = some w) (fun i => ts.getD i false) := by
    intro its rv i w s' Q' E' hP hQ
    have hP' : its[i]? = some w := by simpa using hP
    have li := rv.length
    have hi : i < its.length := (List.getElem?_eq_some_iff.mp hP').1
    obtain ⟨d, hd⟩ : ∃ d, ds[i]? = some d := ⟨ds[i]'(by omega), List.getElem?_eq_getElem (by omega)⟩
    obtain ⟨v', hv', rd'⟩ := r2.get hd
    obtain ⟨u', hu', ru'⟩ := rv.get hv'
    rw [hP'] at hu'; cases hu'
    obtain ⟨b, hb, eb⟩ := get i d hd
    have : ts.getD i false = b := by rw [List.getD_eq_getElem?_getD, hb]; rfl
    have hQ : Q' (ts.getD i false) s' := hQ
    rw [this] at hQ
    exact tru_val eb rd' ru' hQ
  rcases sq with sq | sq
  · obtain ⟨its, rv, pl, hz⟩ := I.list sq
    have li := rv.length
    have hlt : p < s.heap.objs.size := by obtain ⟨o, n, e, _⟩ := pl; exact Heap.lt_size e
    refine wpAny_pyIter_list pl.isList ⟨s.heap.objs.size, _, _, _, _, _, _, rfl, Walks.list (by rw [Around.in1_handled]; exact I.ok.hd hc) s.heap.objs.size p (Nat.ne_of_lt hlt) its.toArray, ⟨⟨_, Heap.get?_push_size _ rfl, rfl, rfl⟩, pl.isList.at fun o e => Heap.get?_push_of_some _ e⟩, tr its rv, fun h' tk k => ?_⟩
    have hn : its.toArray.size = ts.length := by rw [List.size_toArray]; omega
    rw [hn, hg]
    exact fin h' tk (I.kept (t' := tk) fun b o e => k b o (by simp; exact Nat.ne_of_lt (Heap.lt_size e)) (Heap.get?_push_of_some _ e))
  · obtain ⟨its, rv, pl, hz⟩ := I.tuple sq
    have li := rv.length
    have hlt : p < s.heap.objs.size := by obtain ⟨o, e, _⟩ := pl; exact Heap.lt_size e
    have pt : s.heap.IsTuple p its.toArray := pl
    refine wpAny_pyIter_tuple pt ⟨s.heap.objs.size, _, _, _, _, _, _, rfl, Walks.tuple (by rw [Around.in1_handled]; exact I.ok.hd hc) s.heap.objs.size p (Nat.ne_of_lt hlt) its.toArray, ⟨⟨_, Heap.get?_push_size _ rfl, rfl, rfl⟩, pt.push _⟩, tr its rv, fun h' tk k => ?_⟩
    have hn : its.toArray.size = ts.length := by rw [List.size_toArray]; omega
    rw [hn, hg]
    exact fin h' tk (I.kept (t' := tk) fun b o e => k b o (by simp; exact Nat.ne_of_lt (Heap.lt_size e)) (Heap.get?_push_of_some _ e))
theorem call_all_d (hc : X.calm = true) : CallR X (.builtin "all") (lR X.K wAll) := by
  intro pins s σ H xs us Q I rv h
  obtain ⟨ds, M, rm, rs, x, es, ts, rfl, e1, e2, q⟩ := h
  obtain ⟨v, rfl, r⟩ := rs.one
  obtain ⟨u, rfl, ru⟩ := vals1 rv
  exact call_all_walk (walk_all hc I rm r ru e1 e2 (g := fun ts => ts.all id) (fun h' tk I' => ⟨.bl _, H, I', rfl, q _ H Ext.refl rm (RD.bl_iff.mpr rfl)⟩) (fun n tr => (List.range n).all tr) range_all.1)
theorem call_any_d (hc : X.calm = true) : CallR X (.builtin "any") (lR X.K wAny) := by
  intro pins s σ H xs us Q I rv h
  obtain ⟨ds, M, rm, rs, x, es, ts, rfl, e1, e2, q⟩ := h
  obtain ⟨v, rfl, r⟩ := rs.one
  obtain ⟨u, rfl, ru⟩ := vals1 rv
  exact call_any_walk (walk_all hc I rm r ru e1 e2 (g := fun ts => ts.any id) (fun h' tk I' => ⟨.bl _, H, I', rfl, q _ H Ext.refl rm (RD.bl_iff.mpr rfl)⟩) (fun n tr => (List.range n).any tr) range_all.2)
/-! ### {} -/
def wDnew (t : Bool) : TEd := fun _ M Q => ∀ p, M p = none → Q (.ref p) (updM M p (.dct t []))
theorem mono_dnew {t : Bool} : MonoE (wDnew t) := fun _ _ _ _ i q p n => i _ _ (q p n)
theorem le_dnew {t : Bool} {pos : Pos} : PE X (.Dict [] [] pos) (lE X.K (wDnew t)) := by
  cases t with
  | false =>
    refine PE.imp pe_dnewK fun σ H Q ⟨ρ, M, rs, rm, q⟩ p n => ?_
    exact q p (rm.out n) (.ref p) _ (Ext.lay n) (rm.lay n ⟨[], upd_same, .nil⟩) (RD.ref_iff.mpr rfl)
  | true =>
    refine PE.imp pe_dnewT fun σ H Q ⟨ρ, M, rs, rm, q⟩ p n => ?_
    exact q p (rm.out n) (.ref p) _ (Ext.lay n) (rm.lay n ⟨[], upd_same, .nil⟩) (RD.ref_iff.mpr rfl)
theorem le_chain {op op' : CmpOp} {r r' : R2d} {a b c : Expr} {ta tb tc : TEd} {pos : Pos} (ho : OpR X (compareOp op) (l2 X.K r)) (ho' : OpR X (compareOp op') (l2 X.K r')) (hr : Mono2 r) (hr' : Mono2 r') (ma : MonoE ta) (mb : MonoE tb) (mc : MonoE tc) (ha : PE X a (lE X.K ta)) (hb : PE X b (lE X.K tb)) (hc : PE X c (lE X.K tc)) (hm : lastMarks [op, op'] [b, c] = false) :
    PE X (.Compare a [op, op'] [b, c] pos) (lE X.K (wChain r r' ta tb tc)) := PE.imp (pe_chain ho ho' ha hb hc hm) (chain_lift hr hr' ma mb mc)
theorem lt_chain {op op' : CmpOp} {r r' : R2d} {a b c : Expr} {ta tb tc : TEd} {pos : Pos} (ho : OpR X (compareOp op) (l2 X.K r)) (ho' : OpR X (compareOp op') (l2 X.K r')) (hr : Mono2 r) (hr' : Mono2 r') (ma : MonoE ta) (mb : MonoE tb) (mc : MonoE tc) (ha : PE X a (lE X.K ta)) (hb : PE X b (lE X.K tb)) (hc : PE X c (lE X.K tc)) (hm : lastMarks [op, op'] [b, c] = false) :
    PT X (.Compare a [op, op'] [b, c] pos) (lT X.K (wTst (wChain r r' ta tb tc))) := PT.imp (pt_chain ho ho' ha hb hc hm) fun σ H Q h => chain_lift hr hr' ma mb mc σ H _ (tst_lift (mono_chain hr hr' ma mb mc) σ H Q h)
end
end Mi
end L2
namespace L2
namespace Mi
open PySem PySem.Spec PyProof.Rows

/-! ### the small language -/
inductive BOp where | add | sub | mul | fdiv | mod | pow
inductive COp where | eq | ne | lt | le | gt | ge | is | isn
inductive BF where | len | abs | max2 | min2 | int | list | tuple | sum | all | any
inductive MF where | append | extend
inductive MF0 where | clear | reverse
mutual
inductive MG where
  | name (i : Nat)
  | tup (gs : MGs)
inductive MGs where
  | nil
  | cons (g : MG) (r : MGs)
end
mutual
inductive ME where
  | var (i : Nat)
  | int (i : Int)
  | bl (b : Bool)
  | non
  | str (x : Str)
  | bin (op : BOp) (a b : ME)
  | neg (a : ME)
  | cmp (op : COp) (a b : ME)
  | and (es : MEs)
  | or (es : MEs)
  | not (a : ME)
  | ite (c : MT) (a b : ME)
  | tup (es : MEs)
  | lst (es : MEs)
  | ix (a b : ME)
  | sl (a : ME) (lo hi : MO)
  | call (f : Nat) (es : MEs)
  | blt (f : BF) (es : MEs)
  | isin (a : ME) (T : String)
  | lrev (a : ME)
  | chain (op op' : COp) (a b c : ME)
  | glob (x : Str) (k : Int)
  | dnew (t : Bool)
  | meth (m : MF) (o a : ME)
  | meth0 (m : MF0) (o : ME)
  | comp (fr : List (Option Nat)) (N : List Str) (c : MC)
inductive MEs where
  | nil
  | cons (e : ME) (r : MEs)
inductive MO where
  | none
  | some (e : ME)
inductive MT where
  | tru (e : ME)
  | cmp (op : COp) (a b : ME)
  | chain (op op' : COp) (a b c : ME)
  | and (ts : MTs)
  | or (ts : MTs)
  | not (t : MT)
inductive MTs where
  | nil
  | cons (t : MT) (r : MTs)
inductive MI where
  | seq (e : ME)
  | rng1 (a : ME)
  | rng2 (a b : ME)
  | zip (a b : ME)
  | enum (a : ME)
inductive MC where
  | last (src : MI) (g : MG) (ifs : MTs) (elt : ME)
  | more (src : MI) (g : MG) (ifs : MTs) (rest : MC)
end
mutual
inductive MS where
  | asg (g : MG) (e : ME)
  | par (gs : MGs) (es : MEs)
  | put (o i e : ME)
  | aug (i : Nat) (op : BOp) (e : ME)
  | augI (o i : ME) (op : BOp) (e : ME)
  | drop (e : ME)
  | ret (e : ME)
  | ite (c : MT) (a b : MSs)
  | for (g : MG) (src : MI) (b : MSs)
  | while (c : MT) (b : MSs)
  | pass | brk | cnt
inductive MSs where
  | nil
  | cons (s : MS) (r : MSs)
end

def opB : BOp → R2d
  | .add => wAdd | .sub => wSub | .mul => wMul | .fdiv => wFdiv | .mod => wMod | .pow => wPow
def opC : COp → R2d
  | .eq => wEq | .ne => wNe | .lt => wLt | .le => wLe | .gt => wGt | .ge => wGe | .is => wIs | .isn => wIsn
def opF : BF → RAd
  | .len => wLen | .abs => wAbs | .max2 => wMax2 | .min2 => wMin2 | .int => wInt | .list => wList | .tuple => wTuple | .sum => wSum | .all => wAll | .any => wAny
def opM : MF → D → List D → Mem → QD → Prop
  | .append => mAppend | .extend => mExtend
def opM0 : MF0 → D → List D → Mem → QD → Prop
  | .clear => mClear | .reverse => mReverse
def opI : BOp → R2d
  | .add => wIAdd | .sub => wISub | .mul => wIMul | _ => fun _ _ _ _ => False
theorem mono_opB : ∀ o, Mono2 (opB o)
  | .add => mono_add | .sub => mono_sub | .mul => mono_mul | .fdiv => mono_fdiv | .mod => mono_mod | .pow => mono_pow
theorem mono_opC : ∀ o, Mono2 (opC o)
  | .eq => mono_eq | .ne => mono_ne | .lt => mono_lt | .le => mono_le | .gt => mono_gt | .ge => mono_ge | .is => mono_is | .isn => mono_isn
theorem mono_opF : ∀ o, MonoAr (opF o)
  | .len => mono_len | .abs => mono_abs | .max2 => mono_max2 | .min2 => mono_min2 | .int => mono_int | .list => mono_list | .tuple => mono_tuple | .sum => mono_sum | .all => mono_all | .any => mono_any
theorem mono_opM : ∀ o, MonoM (opM o)
  | .append => mono_append | .extend => mono_extend
theorem mono_opM0 : ∀ o, MonoM (opM0 o)
  | .clear => mono_clear | .reverse => mono_reverse
theorem mono_opI : ∀ o, Mono2 (opI o)
  | .add => mono_iadd | .sub => mono_isub | .mul => mono_imul
  | .fdiv => fun _ _ _ _ _ _ q => q.elim | .mod => fun _ _ _ _ _ _ q => q.elim | .pow => fun _ _ _ _ _ _ q => q.elim

/-- what the defs do -/
abbrev Phi := Nat → RAd
mutual
def bG : MG → BT
  | .name i => bName i
  | .tup gs => bTup (bGs gs)
def bGs : MGs → BTs
  | .nil => bNil
  | .cons g r => bCons (bG g) (bGs r)
end
mutual
def wE (Φ : Phi) : ME → TEd
  | .var i => wVar i
  | .int i => wC (.int i)
  | .bl b => wC (.bl b)
  | .non => wC .non
  | .str x => wC (.str x)
  | .bin op a b => wOp (opB op) (wE Φ a) (wE Φ b)
  | .neg a => wUn wNeg (wE Φ a)
  | .cmp op a b => wOp (opC op) (wE Φ a) (wE Φ b)
  | .and es => wAnds Φ es
  | .or es => wOrs Φ es
  | .not a => wNotV (wE Φ a)
  | .ite c a b => wIf (wT Φ c) (wE Φ a) (wE Φ b)
  | .tup es => wAr rTup (wA Φ es)
  | .lst es => wAr rLst (wA Φ es)
  | .ix a b => wOp wIx (wE Φ a) (wE Φ b)
  | .sl a lo hi => wSl (wE Φ a) (wO Φ lo) (wO Φ hi)
  | .call f es => wAr (Φ f) (wA Φ es)
  | .blt f es => wAr (opF f) (wA Φ es)
  | .isin a T => wIsin T (wE Φ a)
  | .lrev a => wLrev (wE Φ a)
  | .chain op op' a b c => wChain (opC op) (opC op') (wE Φ a) (wE Φ b) (wE Φ c)
  | .glob _ k => wC (.int k)
  | .dnew t => wDnew t
  | .meth m o a => wBM (opM m) (wE Φ o) (wCons (wE Φ a) wNil)
  | .meth0 m o => wBM (opM0 m) (wE Φ o) wNil
  | .comp fr _ c => wCmp Φ fr c
def wA (Φ : Phi) : MEs → TAd
  | .nil => wNil
  | .cons e r => wCons (wE Φ e) (wA Φ r)
def wAnds (Φ : Phi) : MEs → TEd
  | .nil => fun _ _ _ => False
  | .cons e .nil => wE Φ e
  | .cons e (.cons f r) => wAndV (wE Φ e) (wAnds Φ (.cons f r))
def wOrs (Φ : Phi) : MEs → TEd
  | .nil => fun _ _ _ => False
  | .cons e .nil => wE Φ e
  | .cons e (.cons f r) => wOrV (wE Φ e) (wOrs Φ (.cons f r))
def wO (Φ : Phi) : MO → TOd
  | .none => wNoPart
  | .some e => wPart (wE Φ e)
def wT (Φ : Phi) : MT → TTd
  | .tru e => wTru (wE Φ e)
  | .cmp op a b => wTst (wOp (opC op) (wE Φ a) (wE Φ b))
  | .chain op op' a b c => wTst (wChain (opC op) (opC op') (wE Φ a) (wE Φ b) (wE Φ c))
  | .and ts => wAndTs Φ ts
  | .or ts => wOrTs Φ ts
  | .not t => wNotT (wT Φ t)
def wAndTs (Φ : Phi) : MTs → TTd
  | .nil => fun _ _ _ => False
  | .cons e .nil => wT Φ e
  | .cons e (.cons f r) => wAndT (wT Φ e) (wAndTs Φ (.cons f r))
def wOrTs (Φ : Phi) : MTs → TTd
  | .nil => fun _ _ _ => False
  | .cons e .nil => wT Φ e
  | .cons e (.cons f r) => wOrT (wT Φ e) (wOrTs Φ (.cons f r))
def wTl (Φ : Phi) : MTs → List TTd
  | .nil => []
  | .cons t r => wT Φ t :: wTl Φ r
def wI (Φ : Phi) : MI → TId
  | .seq e => wSeq (wE Φ e)
  | .rng1 a => wRng1 (wCons (wE Φ a) wNil)
  | .rng2 a b => wRng2 (wCons (wE Φ a) (wCons (wE Φ b) wNil))
  | .zip a b => wZip (wE Φ a) (wE Φ b)
  | .enum a => wEnum (wE Φ a)
def wCl (Φ : Phi) : MC → TCd
  | .last src g ifs elt => wClause (wI Φ src) (bG g) (wTests (wTl Φ ifs) (wEmit (wE Φ elt)))
  | .more src g ifs rest => wClause (wI Φ src) (bG g) (wTests (wTl Φ ifs) (wCl Φ rest))
def wCmp (Φ : Phi) (fr : List (Option Nat)) : MC → TEd
  | .last src g ifs elt => wComp fr (wI Φ src) (bG g) (wTests (wTl Φ ifs) (wEmit (wE Φ elt)))
  | .more src g ifs rest => wComp fr (wI Φ src) (bG g) (wTests (wTl Φ ifs) (wCl Φ rest))
end
mutual
def wS (Φ : Phi) : MS → TSd
  | .asg g e => sAsg (wE Φ e) (bG g)
  | .par gs es => sPar (wA Φ es) (bGs gs)
  | .put o i e => sPut (wE Φ e) (wE Φ o) (wE Φ i)
  | .aug i op e => sAug i (opI op) (wE Φ e)
  | .augI o i op e => sAugI (wE Φ o) (wE Φ i) (wE Φ e) (opI op)
  | .drop e => sDrop (wE Φ e)
  | .ret e => sRet (wE Φ e)
  | .ite c a b => sIf (wT Φ c) (wSs Φ a) (wSs Φ b)
  | .for g src b => sFor (wI Φ src) (bG g) (wSs Φ b)
  | .while c b => sWhile (wT Φ c) (wSs Φ b)
  | .pass => sNext
  | .brk => sBreak
  | .cnt => sCont
def wSs (Φ : Phi) : MSs → TSd
  | .nil => sNext
  | .cons s r => sSeq (wS Φ s) (wSs Φ r)
end
section
variable {Φ : Phi} (hΦ : ∀ f, MonoAr (Φ f))
include hΦ
mutual
theorem mE : ∀ m, MonoE (wE Φ m)
  | .var _ => by rw [wE]; exact mono_var
  | .int _ => by rw [wE]; exact mono_c
  | .bl _ => by rw [wE]; exact mono_c
  | .non => by rw [wE]; exact mono_c
  | .str _ => by rw [wE]; exact mono_c
  | .bin op a b => by rw [wE]; exact mono_op (mono_opB op) (mE a) (mE b)
  | .neg a => by rw [wE]; exact mono_un mono_neg (mE a)
  | .cmp op a b => by rw [wE]; exact mono_op (mono_opC op) (mE a) (mE b)
  | .and es => by rw [wE]; exact mAnds es
  | .or es => by rw [wE]; exact mOrs es
  | .not a => by rw [wE]; exact mono_notV (mE a)
  | .ite c a b => by rw [wE]; exact mono_if (mT c) (mE a) (mE b)
  | .tup es => by rw [wE]; exact mono_ar mono_rTup (mA es)
  | .lst es => by rw [wE]; exact mono_ar mono_rLst (mA es)
  | .ix a b => by rw [wE]; exact mono_op mono_ix (mE a) (mE b)
  | .sl a lo hi => by rw [wE]; exact mono_sl (mE a) (mO lo) (mO hi)
  | .call f es => by rw [wE]; exact mono_ar (hΦ f) (mA es)
  | .blt f es => by rw [wE]; exact mono_ar (mono_opF f) (mA es)
  | .isin a T => by rw [wE]; exact mono_isin (mE a)
  | .lrev a => by rw [wE]; exact mono_lrev (mE a)
  | .chain op op' a b c => by rw [wE]; exact mono_chain (mono_opC op) (mono_opC op') (mE a) (mE b) (mE c)
  | .glob _ _ => by rw [wE]; exact mono_c
  | .dnew _ => by rw [wE]; exact mono_dnew
  | .meth m o a => by rw [wE]; exact mono_bm (mono_opM m) (mE o) (mono_cons (mE a) mono_nil)
  | .meth0 m o => by rw [wE]; exact mono_bm (mono_opM0 m) (mE o) mono_nil
  | .comp fr _ c => by rw [wE]; exact mCmp fr c
theorem mA : ∀ m, MonoA (wA Φ m)
  | .nil => by rw [wA]; exact mono_nil
  | .cons e r => by rw [wA]; exact mono_cons (mE e) (mA r)
theorem mAnds : ∀ m, MonoE (wAnds Φ m)
  | .nil => by rw [wAnds]; exact fun _ _ _ _ _ q => q.elim
  | .cons e .nil => by rw [wAnds]; exact mE e
  | .cons e (.cons f r) => by rw [wAnds]; exact mono_andV (mE e) (mAnds (.cons f r))
theorem mOrs : ∀ m, MonoE (wOrs Φ m)
  | .nil => by rw [wOrs]; exact fun _ _ _ _ _ q => q.elim
  | .cons e .nil => by rw [wOrs]; exact mE e
  | .cons e (.cons f r) => by rw [wOrs]; exact mono_orV (mE e) (mOrs (.cons f r))
theorem mO : ∀ m, MonoO (wO Φ m)
  | .none => by rw [wO]; exact mono_noPart
  | .some e => by rw [wO]; exact mono_part (mE e)
theorem mT : ∀ m, MonoT (wT Φ m)
  | .tru e => by rw [wT]; exact mono_tru (mE e)
  | .cmp op a b => by rw [wT]; exact mono_tst (mono_op (mono_opC op) (mE a) (mE b))
  | .chain op op' a b c => by rw [wT]; exact mono_tst (mono_chain (mono_opC op) (mono_opC op') (mE a) (mE b) (mE c))
  | .and ts => by rw [wT]; exact mAndTs ts
  | .or ts => by rw [wT]; exact mOrTs ts
  | .not t => by rw [wT]; exact mono_notT (mT t)
theorem mAndTs : ∀ m, MonoT (wAndTs Φ m)
  | .nil => by rw [wAndTs]; exact fun _ _ _ _ _ q => q.elim
  | .cons e .nil => by rw [wAndTs]; exact mT e
  | .cons e (.cons f r) => by rw [wAndTs]; exact mono_andT (mT e) (mAndTs (.cons f r))
theorem mOrTs : ∀ m, MonoT (wOrTs Φ m)
  | .nil => by rw [wOrTs]; exact fun _ _ _ _ _ q => q.elim
  | .cons e .nil => by rw [wOrTs]; exact mT e
  | .cons e (.cons f r) => by rw [wOrTs]; exact mono_orT (mT e) (mOrTs (.cons f r))
theorem mTl : ∀ m, ∀ t ∈ wTl Φ m, MonoT t
  | .nil => by rw [wTl]; intro t ht; simp at ht
  | .cons t r => by
    rw [wTl]; intro t' ht
    rcases List.mem_cons.mp ht with e | e
    · rw [e]; exact mT t
    · exact mTl r t' e
theorem mI : ∀ m, MonoI (wI Φ m)
  | .seq e => by rw [wI]; exact mono_seq (mE e)
  | .rng1 a => by rw [wI]; exact mono_rng1 (mono_cons (mE a) mono_nil)
  | .rng2 a b => by rw [wI]; exact mono_rng2 (mono_cons (mE a) (mono_cons (mE b) mono_nil))
  | .zip a b => by rw [wI]; exact mono_zip (mE a) (mE b)
  | .enum a => by rw [wI]; exact mono_enum (mE a)
theorem mCl : ∀ m, MonoC (wCl Φ m)
  | .last src g ifs elt => by rw [wCl]; exact mono_clause (mI src) (mono_tests (mono_emit (mE elt)) (mTl ifs))
  | .more src g ifs rest => by rw [wCl]; exact mono_clause (mI src) (mono_tests (mCl rest) (mTl ifs))
theorem mCmp (fr : List (Option Nat)) : ∀ m, MonoE (wCmp Φ fr m)
  | .last src g ifs elt => by rw [wCmp]; exact mono_comp (mI src) (mono_tests (mono_emit (mE elt)) (mTl ifs))
  | .more src g ifs rest => by rw [wCmp]; exact mono_comp (mI src) (mono_tests (mCl rest) (mTl ifs))
end
mutual
theorem mS : ∀ m, MonoS (wS Φ m)
  | .asg g e => by rw [wS]; exact mono_asg (mE hΦ e)
  | .par gs es => by rw [wS]; exact mono_par (mA hΦ es)
  | .put o i e => by rw [wS]; exact mono_put (mE hΦ e) (mE hΦ o) (mE hΦ i)
  | .aug i op e => by rw [wS]; exact mono_aug (mono_opI op) (mE hΦ e)
  | .augI o i op e => by rw [wS]; exact mono_augI (mE hΦ o) (mE hΦ i) (mE hΦ e) (mono_opI op)
  | .drop e => by rw [wS]; exact mono_drop (mE hΦ e)
  | .ret e => by rw [wS]; exact mono_ret (mE hΦ e)
  | .ite c a b => by rw [wS]; exact mono_sif (mT hΦ c) (mSs a) (mSs b)
  | .for g src b => by rw [wS]; exact mono_for (mI hΦ src) (mSs b)
  | .while c b => by rw [wS]; exact mono_while (mT hΦ c) (mSs b)
  | .pass => by rw [wS]; exact mono_next
  | .brk => by rw [wS]; exact mono_break
  | .cnt => by rw [wS]; exact mono_cont
theorem mSs : ∀ m, MonoS (wSs Φ m)
  | .nil => by rw [wSs]; exact mono_next
  | .cons s r => by rw [wSs]; exact mono_sseq (mS s) (mSs r)
end
end
end Mi
end L2
namespace L2
namespace Mi
open PySem PySem.Spec PyProof.Rows

/-! ### the small language beside the text -/
structure Ctx where
  Γ : List Str
  N : List Str
  sc : Scope
  fn : List Str
  cs : List (Str × Int)
def glB (sc : Scope) (x : Str) : Bool := sc.names.lookup x == some .globalImplicit
def visB (sc : Scope) (x : Str) : Bool := sc.names.lookup x == some .local || sc.names.lookup x == some .cell || sc.names.lookup x == some .free
def locB (sc : Scope) (x : Str) : Bool := sc.names.lookup x == some .local || sc.names.lookup x == some .cell
def noStar : Expr → Bool
  | .Starred .. => false
  | _ => true
def plainT : Expr → Bool
  | .Name .. | .Call .. | .Subscript .. | .Constant .. | .BinOp .. | .Attribute .. => true
  | _ => false
def noSlice : Expr → Bool
  | .Slice .. => false
  | _ => true
def noComp : Expr → Bool
  | .ListComp .. | .SetComp .. | .DictComp .. => false
  | _ => true
def noSet : Expr → Bool
  | .Set .. => false
  | _ => true
def noSuper : Expr → Bool
  | .Call .. => false
  | _ => true
def opO : BOp → Operator
  | .add => .Add | .sub => .Sub | .mul => .Mult | .fdiv => .FloorDiv | .mod => .Mod | .pow => .Pow
def opCm : COp → CmpOp
  | .eq => .Eq | .ne => .NotEq | .lt => .Lt | .le => .LtE | .gt => .Gt | .ge => .GtE | .is => .Is | .isn => .IsNot
def bfName : BF → Str
  | .len => "len" | .abs => "abs" | .max2 => "max" | .min2 => "min" | .int => "int" | .list => "list" | .tuple => "tuple" | .sum => "sum" | .all => "all" | .any => "any"
def mfName : MF → Str
  | .append => "append" | .extend => "extend"
def mf0Name : MF0 → Str
  | .clear => "clear" | .reverse => "reverse"
def bltNames : List Str := ["len", "abs", "max", "min", "int", "list", "tuple", "sum", "isinstance", "range", "bool", "str", "dict", "zip", "enumerate", "reversed", "sorted", "all", "any", "set"]
def relabelS (sc osc : Scope) : Scope :=
  { sc with names := sc.names.map fun (n, k) => if (k == .free && osc.kind == .function && osc.names.lookup n == some .cell) then (n, .cell) else (n, k) }
theorem relabelS_eq (sc : Scope) (env : Env) : relabel sc env = relabelS sc env.scope := rfl
def blkB (sc osc : Scope) (oN N' : List Str) (fr : List (Option Nat)) : Bool :=
  decide (sc.kind = .function) && decide ((sc.names.map (·.1)).Nodup) && decide (N'.Nodup)
    && sc.names.all (fun x => !(x.2 == .free) || osc.names.lookup x.1 == some .cell || osc.names.lookup x.1 == some .free)
    && decide (fr.length = N'.length)
    && (List.range N'.length).all fun i => match fr[i]?, N'[i]? with
      | some (some j), some x => decide (oN[j]? = some x) && sc.names.any (fun y => decide (y = (x, NameKind.free)))
      | _, _ => true
mutual
def okG : MG → Ctx → Expr → Bool
  | .name i, C, e => match e with
    | .Name x _ => decide (C.N[i]? = some x) && locB C.sc x && (C.sc.names.lookup x == some .local || C.fn.contains x)
    | _ => false
  | .tup gs, C, e => match e with
    | .Tuple es _ _ => okGs gs C es
    | _ => false
def okGs : MGs → Ctx → List Expr → Bool
  | .nil, _, es => es.isEmpty
  | .cons g r, C, es => match es with
    | e :: es => noStar e && okG g C e && okGs r C es
    | [] => false
end
mutual
def okE : ME → Ctx → Expr → Bool
  | .var i, C, e => match e with
    | .Name x _ => decide (C.N[i]? = some x) && visB C.sc x && !(x == ("__debug__" : Str)) && !(x == ("__classdict__" : Str))
    | _ => false
  | .int i, _, e => match e with
    | .Constant (.int j) _ _ => decide (i = j)
    | _ => false
  | .bl i, _, e => match e with
    | .Constant (.bool j) _ _ => i == j
    | _ => false
  | .non, _, e => match e with
    | .Constant .none _ _ => true
    | _ => false
  | .str i, _, e => match e with
    | .Constant (.str j) _ _ => decide (i = j)
    | _ => false
  | .bin op a b, C, e => match e with
    | .BinOp l o r _ => decide (o = opO op) && okE a C l && okE b C r
    | _ => false
  | .neg a, C, e => match e with
    | .UnaryOp .USub x _ => okE a C x
    | _ => false
  | .cmp op a b, C, e => match e with
    | .Compare l [o] [r] _ => decide (o = opCm op) && okE a C l && okE b C r
    | _ => false
  | .and es, C, e => match e with
    | .BoolOp .And xs _ => !xs.isEmpty && okEs es C xs
    | _ => false
  | .or es, C, e => match e with
    | .BoolOp .Or xs _ => !xs.isEmpty && okEs es C xs
    | _ => false
  | .not a, C, e => match e with
    | .UnaryOp .Not x _ => okE a C x
    | _ => false
  | .ite c a b, C, e => match e with
    | .IfExp t x y _ => okT c C t && okE a C x && okE b C y
    | _ => false
  | .tup es, C, e => match e with
    | .Tuple xs _ _ => okEs es C xs
    | _ => false
  | .lst es, C, e => match e with
    | .List xs _ => okEs es C xs
    | _ => false
  | .ix a b, C, e => match e with
    | .Subscript x y _ => noSlice y && okE a C x && okE b C y
    | _ => false
  | .sl a lo hi, C, e => match e with
    | .Subscript x (.Slice l u none _) _ => okE a C x && okO lo C l && okO hi C u
    | _ => false
  | .call f es, C, e => match e with
    | .Call (.Name x _) xs [] _ => decide (C.Γ[f]? = some x) && glB C.sc x && !(x == ("__debug__" : Str)) && okEs es C xs
    | _ => false
  | .blt f es, C, e => match e with
    | .Call (.Name x _) xs [] _ => decide (x = bfName f) && glB C.sc x && !xs.isEmpty && okEs es C xs
    | _ => false
  | .isin a T, C, e => match e with
    | .Call (.Name x _) [y, .Name z _] [] _ => decide (x = "isinstance") && glB C.sc x && glB C.sc z && decide (z = Str.ofString T) && decide (T ∈ ["bool", "int", "str", "tuple", "list", "dict"]) && noStar y && okE a C y
    | _ => false
  | .chain op op' a b c, C, e => match e with
    | .Compare l [o, o'] [r, q] _ => decide (o = opCm op) && decide (o' = opCm op') && okE a C l && okE b C r && okE c C q && !(lastMarks [o, o'] [r, q])
    | _ => false
  | .glob x k, C, e => match e with
    | .Name y _ => decide (y = x) && glB C.sc y && decide ((x, k) ∈ C.cs) && !(x == ("__debug__" : Str))
    | _ => false
  | .dnew _, _, e => match e with
    | .Dict [] [] _ => true
    | _ => false
  | .lrev a, C, e => match e with
    | .Call (.Name x _) [.Call (.Name z _) [y] [] _] [] _ => decide (x = "list") && glB C.sc x && decide (z = "reversed") && glB C.sc z && noStar y && okE a C y
    | _ => false
  | .meth m o a, C, e => match e with
    | .Call (.Attribute x n ap) [y] [] cp => decide (n = mfName m) && noSuper x && (ap.endLine == cp.line) && noStar y && okE o C x && okE a C y
    | _ => false
  | .meth0 m o, C, e => match e with
    | .Call (.Attribute x n ap) [] [] cp => decide (n = mf0Name m) && noSuper x && (ap.endLine == cp.line) && okE o C x
    | _ => false
  | .comp fr N' c, C, e => match e with
    | .ListComp elt gens sc _ => blkB sc C.sc C.N N' fr && okC c C ⟨C.Γ, N', relabelS sc C.sc, (sc.names.filter (·.2 == .cell)).map (·.1), C.cs⟩ gens elt
    | _ => false
def okEs : MEs → Ctx → List Expr → Bool
  | .nil, _, es => es.isEmpty
  | .cons m r, C, es => match es with
    | e :: es => noStar e && okE m C e && okEs r C es
    | [] => false
def okO : MO → Ctx → Option Expr → Bool
  | .none, _, e => e.isNone
  | .some m, C, e => match e with
    | some e => okE m C e
    | none => false
def okT : MT → Ctx → Expr → Bool
  | .tru m, C, e => plainT e && okE m C e
  | .cmp op a b, C, e => match e with
    | .Compare l [o] [r] _ => decide (o = opCm op) && okE a C l && okE b C r
    | _ => false
  | .chain op op' a b c, C, e => match e with
    | .Compare l [o, o'] [r, q] _ => decide (o = opCm op) && decide (o' = opCm op') && okE a C l && okE b C r && okE c C q && !(lastMarks [o, o'] [r, q])
    | _ => false
  | .and ts, C, e => match e with
    | .BoolOp .And xs _ => !xs.isEmpty && okTs ts C xs
    | _ => false
  | .or ts, C, e => match e with
    | .BoolOp .Or xs _ => !xs.isEmpty && okTs ts C xs
    | _ => false
  | .not t, C, e => match e with
    | .UnaryOp .Not x _ => okT t C x
    | _ => false
def okTs : MTs → Ctx → List Expr → Bool
  | .nil, _, es => es.isEmpty
  | .cons m r, C, es => match es with
    | e :: es => okT m C e && okTs r C es
    | [] => false
def okI : MI → Ctx → Expr → Expr → Bool
  | .seq m, C, _, e => noSet e && okE m C e
  | .rng1 a, C, _, e => match e with
    | .Call (.Name x _) [y] [] _ => decide (x = "range") && glB C.sc x && noStar y && okE a C y
    | _ => false
  | .rng2 a b, C, _, e => match e with
    | .Call (.Name x _) [y, z] [] _ => decide (x = "range") && glB C.sc x && noStar y && noStar z && okE a C y && okE b C z
    | _ => false
  | .enum a, C, t, e => match t, e with
    | .Tuple _ _ _, .Call (.Name x _) [y] [] _ => decide (x = "enumerate") && glB C.sc x && noStar y && okE a C y
    | _, _ => false
  | .zip a b, C, t, e => match t, e with
    | .Tuple _ _ _, .Call (.Name x _) [y, z] [] _ => decide (x = "zip") && glB C.sc x && noStar y && noStar z && okE a C y && okE b C z
    | _, _ => false
def okC : MC → Ctx → Ctx → List Comprehension → Expr → Bool
  | .last src g ifs m, Cs, C, gens, elt => match gens with
    | [⟨t, it, fs, a⟩] => decide (a = 0) && okI src Cs t it && okG g C t && okTs ifs C fs && okE m C elt
    | _ => false
  | .more src g ifs rest, Cs, C, gens, elt => match gens with
    | ⟨t, it, fs, a⟩ :: g2 :: gs => decide (a = 0) && okI src Cs t it && okG g C t && okTs ifs C fs && okC rest C C (g2 :: gs) elt
    | _ => false
end
/-! names of a tuple's targets, for the stores that are exchanged -/
def swNames (sc : Scope) (ts : List Expr) : List Str := ts.filterMap fun
  | .Name id pos => if sc.names.lookup id == some .local && pos.line == (ts.head?.map (·.pos.line)).getD 0 then some id else none
  | _ => none
def swNo (sc : Scope) (ts vs : List Expr) : Bool := !(ts.length == 2 || ts.length == 3) || vs.length != ts.length || (swNames sc ts).length != ts.length || (swNames sc ts).eraseDups.length != (swNames sc ts).length || vs.all (foldedForSure 8)
def parN (C : Ctx) (i : Nat) (x : Str) : Bool := decide (C.N[i]? = some x) && decide (C.sc.names.lookup x = some .local)
def swYes (sc : Scope) (ts vs : List Expr) (ns : List Str) : Bool := !(!(ts.length == 2 || ts.length == 3) || vs.length != ts.length) && !(vs.any fun | .Starred .. => true | _ => false) && decide (swNames sc ts = ns) && !((swNames sc ts).length != ts.length || (swNames sc ts).eraseDups.length != (swNames sc ts).length) && !(vs.all (foldedForSure 8)) && !(vs.all (constantsAlone 8))
def asgOk (sc : Scope) (tg e : Expr) : Bool := match tg, e with
  | .Tuple ts _ _, .Tuple vs _ _ => swNo sc ts vs
  | .Tuple .., _ => true
  | .Name .., _ => true
  | _, _ => false
def swapB (sc : Scope) (x : Str) (px : Pos) (e : Expr) : Bool := match e with
  | .ListComp _ _ s _ => sc.names.lookup x == some .local && px.line == e.pos.line && !(s.names.any fun (n, k) => n == x && (k == .local || k == .cell))
  | _ => false
mutual
def okS : MS → Ctx → Stmt → Bool
  | .asg g m, C, s => match s with
    | .Assign [tg] e _ => okG g C tg && okE m C e && asgOk C.sc tg e && (match tg with | .Name x px => true | _ => noComp e)
    | _ => false
  | .par gs es, C, s => match gs, es, s with
    | .cons (.name i) (.cons (.name j) .nil), .cons a (.cons b .nil), .Assign [.Tuple [.Name x px, .Name y py] _ _] (.Tuple [e, f] _ _) _ =>
      parN C i x && parN C j y && decide (i ≠ j) && noStar e && noStar f && okE a C e && okE b C f && swYes C.sc [.Name x px, .Name y py] [e, f] [x, y]
    | .cons (.name i) (.cons (.name j) (.cons (.name l) .nil)), .cons a (.cons b (.cons c .nil)), .Assign [.Tuple [.Name x px, .Name y py, .Name z pz] _ _] (.Tuple [e, f, g] _ _) _ =>
      parN C i x && parN C j y && parN C l z && decide (i ≠ j) && decide (i ≠ l) && decide (j ≠ l) && noStar e && noStar f && noStar g && okE a C e && okE b C f && okE c C g && swYes C.sc [.Name x px, .Name y py, .Name z pz] [e, f, g] [x, y, z]
    | _, _, _ => false
  | .put o i m, C, s => match s with
    | .Assign [.Subscript x y _] e _ => noSlice y && noComp e && okE o C x && okE i C y && okE m C e
    | _ => false
  | .aug i op m, C, s => match s with
    | .AugAssign (.Name x _) o e _ => decide (o = opO op) && (match op with | .add | .sub | .mul => true | _ => false) && decide (C.N[i]? = some x) && locB C.sc x && (C.sc.names.lookup x == some .local || C.fn.contains x) && okE m C e
    | _ => false
  | .augI o i op m, C, s => match s with
    | .AugAssign (.Subscript x y _) o' e _ => decide (o' = opO op) && (match op with | .add | .sub | .mul => true | _ => false) && noSlice y && okE o C x && okE i C y && okE m C e
    | _ => false
  | .drop m, C, s => match s with
    | .Expr e _ => noComp e && okE m C e
    | _ => false
  | .ret m, C, s => match s with
    | .Return (some e) _ => okE m C e
    | _ => false
  | .ite c a b, C, s => match s with
    | .If t x y _ => okT c C t && okSs a C x && okSs b C y
    | _ => false
  | .for g src b, C, s => match s with
    | .For tg it body [] _ => noSet it && okG g C tg && okI src C tg it && okSs b C body
    | _ => false
  | .while c b, C, s => match s with
    | .While t body [] _ => okT c C t && okSs b C body
    | _ => false
  | .pass, _, s => match s with
    | .Pass _ => true
    | _ => false
  | .brk, _, s => match s with
    | .Break _ => true
    | _ => false
  | .cnt, _, s => match s with
    | .Continue _ => true
    | _ => false
def okSs : MSs → Ctx → List Stmt → Bool
  | .nil, _, ss => ss.isEmpty
  | .cons m r, C, ss => match ss with
    | s :: ss => okS m C s && okSs r C ss
    | [] => false
end

/-! ### side conditions -/
theorem star_cons {e : Expr} {es : List Expr} {env : Env} (h : noStar e = true) : starEach (e :: es) env = (false, eval e env) :: starEach es env := by
  cases e <;> first | rfl | (simp [noStar] at h; done)
theorem each_cons {e : Expr} {es : List Expr} {env : Env} (h : noStar e = true) : assignEach (e :: es) env = (false, assign e env) :: assignEach es env := by
  cases e <;> first | rfl | (simp [noStar] at h; done)
theorem plain_true {e : Expr} {env : Env} (h : plainT e = true) : ∀ whole, isTrue e env whole = (do let v ← whole; standAt e.pos; holding [v] (truthy v)) := by
  intro w
  cases e <;> first | rfl | (simp [plainT] at h; done)
theorem plain_ix {e : Expr} (h : noSlice e = true) : PlainIx e := by
  intro o i
  cases e <;> first | rfl | (simp [noSlice] at h; done)
theorem no_set {e : Expr} {env : Env} (h : noSet e = true) : ∀ x, foldedSetIterable e env x = pure x := by
  intro x
  cases e <;> first | rfl | (simp [noSet] at h; done)
theorem no_super {e : Expr} {n : Str} {env : Env} (h : noSuper e = true) : attributeBase e n env (eval e env) = eval e env := by
  cases e <;> first | rfl | (simp [noSuper] at h; done)
theorem no_comp {e : Expr} {t : Option Expr} {l : Nat} {env : Env} (h : noComp e = true) : swapsWith e t l env = pure false := by
  cases e <;> first | rfl | (simp [noComp] at h; done)
end Mi
end L2
namespace L2
namespace Mi
open PySem PySem.Spec PyProof.Rows

def lSp (K : PySem.W.Frag) (r : RAd) : Sp := fun vs H Q _ => lR K r vs H Q
structure Good (C : Ctx) (Φ : Phi) (k : Nat) (X : Cx) : Prop where
  hx : ∀ e s, X.xe e s → False
  calm : X.calm = true
  N : X.N = C.N
  sc : X.env.scope = C.sc
  nd : X.N.Nodup
  fn : ∀ x ∈ C.fn, X.fn x = true
  room : Room k X.A
  mgB : ∀ x ∈ bltNames, X.mg x = none
  fns : ∀ (i : Nat) (x : Str), C.Γ[i]? = some x → ∃ f fd ps, X.mg x = some (.ref f) ∧ PySem.W.keepIn X.K (.ref f) = true ∧ Binds X.K fd ps [] ∧ FnOk X.prog X.w X.K X.mg X.base CX0 k f fd ps (lSp X.K (Φ i))
  mono : ∀ f, MonoAr (Φ f)
  cs : ∀ x i, (x, i) ∈ C.cs → ∃ t, X.mg x = some (.int i t)
section
variable {C : Ctx} {Φ : Phi} {k : Nat} {X : Cx}
theorem Good.units (G : Good C Φ k X) : X.A.units + 64 < cLine := G.room.units
theorem Good.gl (G : Good C Φ k X) {x : Str} (h : glB C.sc x = true) : Gl X x := by
  show X.env.scope.names.lookup x = _
  rw [G.sc]
  simpa [glB] using h
theorem Good.vis (G : Good C Φ k X) {x : Str} (h : visB C.sc x = true) : Vis X.env.scope x := by
  unfold Vis
  rw [G.sc]
  simp [visB] at h
  rcases h with (h | h) | h
  · exact .inl h
  · exact .inr (.inl h)
  · exact .inr (.inr h)
theorem Good.loc (G : Good C Φ k X) {x : Str} (h : locB C.sc x = true) : Loc X.env.scope x := by
  unfold Loc
  rw [G.sc]
  simpa [locB] using h
theorem Good.own (G : Good C Φ k X) {x : Str} (h : (C.sc.names.lookup x == some .local || C.fn.contains x) = true) : X.fn x = true ∨ X.env.scope.names.lookup x = some .local := by
  rw [G.sc]
  simp at h
  rcases h with h | h
  · exact .inr h
  · exact .inl (G.fn x h)
theorem op_all (G : Good C Φ k X) : ∀ o : BOp, OpR X (binaryOp (opO o)) (l2 X.K (opB o))
  | .add => op_add_d | .sub => op_sub_d | .mul => op_mul_d | .fdiv => op_fdiv_d | .mod => op_mod_d | .pow => op_pow_d
theorem cmp_all (G : Good C Φ k X) : ∀ o : COp, OpR X (compareOp (opCm o)) (l2 X.K (opC o))
  | .eq => op_eq_d (by have := G.units; omega) | .ne => op_ne_d (by have := G.units; omega) | .lt => op_lt_d | .le => op_le_d | .gt => op_gt_d | .ge => op_ge_d | .is => op_is_d | .isn => op_isn_d
theorem nomark_all (o : COp) (b : Expr) : behindInMarks (opCm o) b = false := nomark b (by cases o <;> decide) (by cases o <;> decide)
theorem le_blt (G : Good C Φ k X) {f : BF} {e : Expr} {es : List Expr} {t : TAd} {p pos : Pos} (mt : MonoA t) (hg : Gl X (bfName f)) (ha : PA X (e :: es) (lA X.K t))
    (he : starEach (e :: es) X.env = (false, eval e X.env) :: starEach es X.env) (hpl : (backTo pos (starEach es X.env)).any (·.1) = false) : PE X (.Call (.Name (bfName f) p) (e :: es) [] pos) (lE X.K (wAr (opF f) t)) := by
  cases f with
  | len => exact PE.imp (pe_callB call_len_d hg (G.mgB _ (by decide)) PySem.boot_len ha (by decide) (by decide) he hpl) (ar_lift mono_len mt)
  | abs => exact PE.imp (pe_callB call_abs_d hg (G.mgB _ (by decide)) (by decide +kernel) ha (by decide) (by decide) he hpl) (ar_lift mono_abs mt)
  | max2 => exact PE.imp (pe_callB (call_max2_d G.calm) hg (G.mgB _ (by decide)) (by decide +kernel) ha (by decide) (by decide) he hpl) (ar_lift mono_max2 mt)
  | min2 => exact PE.imp (pe_callB (call_min2_d G.calm) hg (G.mgB _ (by decide)) (by decide +kernel) ha (by decide) (by decide) he hpl) (ar_lift mono_min2 mt)
  | int => exact PE.imp (pe_callTy call_int_d hg (G.mgB _ (by decide)) (by decide +kernel) ha (by decide) (by decide) he hpl) (ar_lift mono_int mt)
  | list => exact PE.imp (pe_callTy call_list_d hg (G.mgB _ (by decide)) (by decide +kernel) ha (by decide) (by decide) he hpl) (ar_lift mono_list mt)
  | tuple => exact PE.imp (pe_callTy call_tuple_d hg (G.mgB _ (by decide)) (by decide +kernel) ha (by decide) (by decide) he hpl) (ar_lift mono_tuple mt)
  | sum => exact PE.imp (pe_callB (call_sum_d G.calm) hg (G.mgB _ (by decide)) (by decide +kernel) ha (by decide) (by decide) he hpl) (ar_lift mono_sum mt)
  | all => exact PE.imp (pe_callB (call_all_d G.calm) hg (G.mgB _ (by decide)) (by decide +kernel) ha (by decide) (by decide) he hpl) (ar_lift mono_all mt)
  | any => exact PE.imp (pe_callB (call_any_d G.calm) hg (G.mgB _ (by decide)) (by decide +kernel) ha (by decide) (by decide) he hpl) (ar_lift mono_any mt)
theorem le_call (G : Good C Φ k X) {f : Nat} {x : Str} {e : Expr} {es : List Expr} {t : TAd} {p pos : Pos} (mt : MonoA t) (hf : C.Γ[f]? = some x) (hg : Gl X x) (hdb : (x == ("__debug__" : Str)) = false) (ha : PA X (e :: es) (lA X.K t))
    (he : starEach (e :: es) X.env = (false, eval e X.env) :: starEach es X.env) (hpl : (backTo pos (starEach es X.env)).any (·.1) = false) : PE X (.Call (.Name x p) (e :: es) [] pos) (lE X.K (wAr (Φ f) t)) := by
  obtain ⟨a, fd, ps, hm, hk, hb, F⟩ := G.fns f x hf
  refine PE.imp (pe_call F G.room hg hm hk hb .nil pass0 ha hdb he hpl) fun σ H Q h => ?_
  have h2 := ar_lift (G.mono f) mt σ H Q h
  have : (fun vs H1 => lSp X.K (Φ f) (vs ++ []) H1 Q E0) = fun vs H1 => lR X.K (Φ f) vs H1 Q := by
    funext vs H1; rw [List.append_nil]; rfl
  show (lA X.K t) σ H _
  rw [this]
  exact h2
theorem le_call0 (G : Good C Φ k X) {f : Nat} {x : Str} {p pos : Pos} (hf : C.Γ[f]? = some x) (hg : Gl X x) (hdb : (x == ("__debug__" : Str)) = false) : PE X (.Call (.Name x p) [] [] pos) (lE X.K (wAr (Φ f) wNil)) := by
  obtain ⟨a, fd, ps, hm, hk, hb, F⟩ := G.fns f x hf
  refine PE.imp (pe_call0 F G.room hg hm hk hb .nil pass0 hdb) fun σ H Q h => ?_
  obtain ⟨ρ, M, rs, rm, q⟩ := h
  exact ⟨[], M, rm, RDs.nil, q⟩
theorem star_any {env : Env} {pos : Pos} : ∀ {es : List Expr}, es.all noStar = true → (backTo pos (starEach es env)).any (·.1) = false
  | [], _ => rfl
  | e :: es, h => by
    simp only [List.all_cons, Bool.and_eq_true] at h
    rw [star_cons h.1]
    show (false || (backTo pos (starEach es env)).any (·.1)) = false
    rw [star_any h.2]; rfl
theorem okEs_star : ∀ {ms : MEs} {es : List Expr}, okEs ms C es = true → es.all noStar = true
  | .nil, [], _ => rfl
  | .nil, _ :: _, h => by simp [okEs] at h
  | .cons m r, [], h => by simp [okEs] at h
  | .cons m r, e :: es, h => by
    simp only [okEs, Bool.and_eq_true] at h
    simp only [List.all_cons, Bool.and_eq_true]
    exact ⟨h.1.1, okEs_star h.2⟩
/-! targets -/
theorem bGs_len : ∀ {gs : MGs} {es : List Expr}, okGs gs C es = true → ∀ ds ρ ρ', bGs gs ds ρ = some ρ' → ds.length = es.length
  | .nil, es, h, ds, ρ, ρ', e => by
    simp [okGs] at h; subst h
    rw [bGs] at e
    cases ds with
    | nil => rfl
    | cons _ _ => cases e
  | .cons g r, [], h, _, _, _, _ => by simp [okGs] at h
  | .cons g r, x :: es, h, ds, ρ, ρ', e => by
    simp only [okGs, Bool.and_eq_true] at h
    rw [bGs] at e
    cases ds with
    | nil => cases e
    | cons d ds =>
      simp only [bCons] at e
      cases e1 : bG g d ρ with
      | none => rw [e1] at e; cases e
      | some ρ1 =>
        rw [e1] at e
        simp [bGs_len h.2 ds ρ1 ρ' e]
theorem each_len {env : Env} : ∀ {gs : MGs} {es : List Expr}, okGs gs C es = true → (assignEach es env).length = es.length ∧ (assignEach es env).findIdx? (·.1) = none
  | .nil, es, h => by simp [okGs] at h; subst h; exact ⟨rfl, rfl⟩
  | .cons g r, [], h => by simp [okGs] at h
  | .cons g r, x :: es, h => by
    simp only [okGs, Bool.and_eq_true] at h
    obtain ⟨a, b⟩ := each_len (env := env) h.2
    rw [each_cons h.1.1]
    refine ⟨by simp [a], ?_⟩
    rw [List.findIdx?_cons]
    simp [b]
mutual
theorem sG (G : Good C Φ k X) : ∀ (m : MG) (e : Expr), okG m C e = true → PG X e (lG X.K (bG m))
  | .name i, e, h => by
    simp only [okG] at h
    split at h
    · simp only [Bool.and_eq_true] at h
      rw [bG]
      exact lg_name G.nd (by rw [G.N]; exact of_decide_eq_true h.1.1) (G.loc h.1.2) (G.own h.2)
    · cases h
  | .tup gs, e, h => by
    simp only [okG] at h
    split at h
    · rw [bG]
      obtain ⟨a, b⟩ := each_len (env := X.env) h
      exact lg_tup G.calm (bGs_len h) (sGs G gs _ h) a b
    · cases h
theorem sGs (G : Good C Φ k X) : ∀ (m : MGs) (es : List Expr), okGs m C es = true → PGs X es (lGs X.K (bGs m))
  | .nil, es, h => by
    simp [okGs] at h; subst h
    rw [bGs]; exact lgs_nil
  | .cons g r, [], h => by simp [okGs] at h
  | .cons g r, e :: es, h => by
    simp only [okGs, Bool.and_eq_true] at h
    rw [bGs]
    exact lgs_cons (sG G g e h.1.2) (sGs G r es h.2) (by rw [each_cons h.1.1]; rfl)
end
theorem PB.imp {F : Sem Fin → Sem Fin} {t t' : TC} (h : PB X F t) (i : ∀ σ H N, t' σ H N → t σ H N) : PB X F t' := fun pins s σ H N k Q E I q hk => h pins s σ H N k Q E I (i _ _ _ q) hk
theorem blk_of {sc osc : Scope} {oN N' : List Str} {fr : List (Option Nat)} (h : blkB sc osc oN N' fr = true) : BlkScope sc osc oN N' fr := by
  simp only [blkB, Bool.and_eq_true, decide_eq_true_eq] at h
  obtain ⟨⟨⟨⟨⟨h1, h2⟩, h3⟩, h4⟩, h5⟩, h6⟩ := h
  refine ⟨h1, h2, h3, fun x hx e => ?_, h5, fun i j x hi hf => ?_⟩
  · have h4' := List.all_eq_true.mp h4 x hx
    rw [e] at h4'
    simpa using h4'
  · have hlt : i < N'.length := (List.getElem?_eq_some_iff.mp hi).1
    have h6' := List.all_eq_true.mp h6 i (List.mem_range.mpr hlt)
    rw [hf, hi] at h6'
    simp only [Bool.and_eq_true, decide_eq_true_eq, List.any_eq_true] at h6'
    obtain ⟨a, y, hy, e⟩ := h6'
    exact ⟨a, by rw [← e]; exact hy⟩
theorem Good.blk (G : Good C Φ k X) {sc : Scope} {N' : List Str} {fr : List (Option Nat)} (B : BlkScope sc C.sc C.N N' fr) (s : Shared) (H : Hp) (fp : List Addr) :
    Good ⟨C.Γ, N', relabelS sc C.sc, (sc.names.filter (·.2 == .cell)).map (·.1), C.cs⟩ Φ k (blockCx X sc N' s H fp) := by
  refine ⟨fun _ _ h => h, G.calm, rfl, ?_, B.ndN, fun x hx => ?_, G.room, G.mgB, G.fns, G.mono, G.cs⟩
  · show relabel sc X.env = _
    rw [relabelS_eq, G.sc]
  · obtain ⟨y, hy, e⟩ := List.mem_map.mp hx
    obtain ⟨h1, h2⟩ := List.mem_filter.mp hy
    obtain ⟨n, kd⟩ := y
    have h2' : kd = .cell := by simpa using h2
    subst h2'
    have e' : n = x := e
    subst e'
    show (sc.names.lookup n == some .cell) = true
    rw [lookup_of_mem B.nd h1]
    rfl
end
end Mi
end L2
namespace L2
namespace Mi
open PySem PySem.Spec PyProof.Rows

section
variable {Φ : Phi} {k : Nat}
/-- the tests of a clause, then what stands behind them -/
theorem body_of {C : Ctx} {X : Cx} (G : Good C Φ k X) {F : Sem Fin → Sem Fin} {p : Addr} {tb : TCd} {ifs : List Expr} {ts : List TTd} (mb : MonoC tb) (mt : ∀ t ∈ ts, MonoT t) (hb : PB X F (lC X.K p tb)) (hp : Paired (fun c t => PT X c t) ifs (ts.map (lT X.K))) :
    PB X (fun k => compTest ifs X.env >>= fun ok => if ok = true then F k else k) (lC X.K p (wTests ts tb)) :=
  PB.imp (pb_tests G.hx hb hp) (tests_lift mb mt)
theorem okC_async {m : MC} {Cs C : Ctx} {g2 : Comprehension} {gs : List Comprehension} {elt : Expr} (h : okC m Cs C (g2 :: gs) elt = true) : g2.is_async = 0 := by
  obtain ⟨t, i, f, a⟩ := g2
  cases m with
  | last src g ifs m =>
    cases gs with
    | nil => simp only [okC, Bool.and_eq_true, decide_eq_true_eq] at h; exact h.1.1.1.1
    | cons _ _ => simp [okC] at h
  | more src g ifs rest =>
    cases gs with
    | nil => simp [okC] at h
    | cons _ _ => simp only [okC, Bool.and_eq_true, decide_eq_true_eq] at h; exact h.1.1.1.1
mutual
theorem sE : ∀ (m : ME) {C : Ctx} {X : Cx} (G : Good C Φ k X) (e : Expr), okE m C e = true → PE X e (lE X.K (wE Φ m))
  | .var i, C, X, G, e, h => by
    simp only [okE] at h
    split at h
    · simp only [Bool.and_eq_true, Bool.not_eq_true', decide_eq_true_eq] at h
      rw [wE]
      exact le_var (by rw [G.N]; exact h.1.1.1) (G.vis h.1.1.2) h.1.2 h.2
    · cases h
  | .int i, C, X, G, e, h => by
    simp only [okE] at h
    split at h
    · rw [of_decide_eq_true h, wE]; exact le_int
    · cases h
  | .bl i, C, X, G, e, h => by
    simp only [okE] at h
    split at h
    · rw [eq_of_beq h, wE]; exact le_bl
    · cases h
  | .non, C, X, G, e, h => by
    simp only [okE] at h
    split at h
    · rw [wE]; exact le_non
    · cases h
  | .str i, C, X, G, e, h => by
    simp only [okE] at h
    split at h
    · rw [of_decide_eq_true h, wE]; exact le_str
    · cases h
  | .bin op a b, C, X, G, e, h => by
    simp only [okE] at h
    split at h
    · simp only [Bool.and_eq_true, decide_eq_true_eq] at h
      rw [wE, h.1.1]
      exact le_op (op_all G op) (mono_opB op) (mE G.mono a) (mE G.mono b) (sE a G _ h.1.2) (sE b G _ h.2)
    · cases h
  | .neg a, C, X, G, e, h => by
    simp only [okE] at h
    split at h
    · rw [wE]; exact le_un un_neg_d mono_neg (mE G.mono a) (sE a G _ h)
    · cases h
  | .cmp op a b, C, X, G, e, h => by
    simp only [okE] at h
    split at h
    · simp only [Bool.and_eq_true, decide_eq_true_eq] at h
      rw [wE, h.1.1]
      exact le_cmp (cmp_all G op) (mono_opC op) (mE G.mono a) (mE G.mono b) (sE a G _ h.1.2) (sE b G _ h.2) (nomark_all op _)
    · cases h
  | .and es, C, X, G, e, h => by
    simp only [okE] at h
    split at h
    · simp only [Bool.and_eq_true] at h
      rw [wE]; exact sAnds es G _ _ h.2 (by intro z; rw [z] at h; simp at h)
    · cases h
  | .or es, C, X, G, e, h => by
    simp only [okE] at h
    split at h
    · simp only [Bool.and_eq_true] at h
      rw [wE]; exact sOrs es G _ _ h.2 (by intro z; rw [z] at h; simp at h)
    · cases h
  | .not a, C, X, G, e, h => by
    simp only [okE] at h
    split at h
    · rw [wE]; exact le_not (mE G.mono a) (sE a G _ h)
    · cases h
  | .ite c a b, C, X, G, e, h => by
    simp only [okE] at h
    split at h
    · simp only [Bool.and_eq_true] at h
      rw [wE]; exact le_if (mT G.mono c) (mE G.mono a) (mE G.mono b) (sT c G _ h.1.1) (sE a G _ h.1.2) (sE b G _ h.2)
    · cases h
  | .tup es, C, X, G, e, h => by
    simp only [okE] at h
    split at h
    · rw [wE]; exact le_tup (mA G.mono es) (sA es G _ h)
    · cases h
  | .lst es, C, X, G, e, h => by
    simp only [okE] at h
    split at h
    · rw [wE]; exact le_lst (mA G.mono es) (sA es G _ h)
    · cases h
  | .ix a b, C, X, G, e, h => by
    simp only [okE] at h
    split at h
    · simp only [Bool.and_eq_true] at h
      rw [wE]
      exact le_ix (ix_d (by have := G.units; omega)) mono_ix (mE G.mono a) (mE G.mono b) (sE a G _ h.1.2) (sE b G _ h.2) (plain_ix h.1.1)
    · cases h
  | .sl a lo hi, C, X, G, e, h => by
    simp only [okE] at h
    split at h
    · simp only [Bool.and_eq_true] at h
      rw [wE]; exact le_sl (mE G.mono a) (mO G.mono lo) (mO G.mono hi) (sE a G _ h.1.1) (sO lo G _ h.1.2) (sO hi G _ h.2)
    · cases h
  | .call f es, C, X, G, e, h => by
    simp only [okE] at h
    split at h
    · rename_i x p xs pos
      simp only [Bool.and_eq_true, decide_eq_true_eq, Bool.not_eq_true'] at h
      rw [wE]
      have hA := sA es G _ h.2
      have hst := okEs_star h.2
      cases xs with
      | nil =>
        cases es with
        | nil => rw [wA]; exact le_call0 G h.1.1.1 (G.gl h.1.1.2) h.1.2
        | cons _ _ => simp [okEs] at h
      | cons y ys =>
        simp only [List.all_cons, Bool.and_eq_true] at hst
        exact le_call G (mA G.mono es) h.1.1.1 (G.gl h.1.1.2) h.1.2 hA (star_cons hst.1) (star_any hst.2)
    · cases h
  | .blt f es, C, X, G, e, h => by
    simp only [okE] at h
    split at h
    · rename_i x p xs pos
      simp only [Bool.and_eq_true, decide_eq_true_eq, Bool.not_eq_true'] at h
      rw [wE]
      have hA := sA es G _ h.2
      have hst := okEs_star h.2
      obtain ⟨⟨⟨rfl, hg⟩, hne⟩, _⟩ := h
      cases xs with
      | nil => simp at hne
      | cons y ys =>
        simp only [List.all_cons, Bool.and_eq_true] at hst
        exact le_blt G (mA G.mono es) (G.gl hg) hA (star_cons hst.1) (star_any hst.2)
    · cases h
  | .chain op op' a b c, C, X, G, e, h => by
    simp only [okE] at h
    split at h
    · simp only [Bool.and_eq_true, decide_eq_true_eq, Bool.not_eq_true'] at h
      obtain ⟨⟨⟨⟨⟨rfl, rfl⟩, ha⟩, hb⟩, hc⟩, hm⟩ := h
      rw [wE]
      exact le_chain (cmp_all G op) (cmp_all G op') (mono_opC op) (mono_opC op') (mE G.mono a) (mE G.mono b) (mE G.mono c) (sE a G _ ha) (sE b G _ hb) (sE c G _ hc) hm
    · cases h
  | .glob x k', C, X, G, e, h => by
    simp only [okE] at h
    split at h
    · simp only [Bool.and_eq_true, decide_eq_true_eq, Bool.not_eq_true'] at h
      obtain ⟨⟨⟨rfl, hg⟩, hc⟩, hd⟩ := h
      obtain ⟨t, ht⟩ := G.cs _ _ hc
      rw [wE]
      exact PE.imp (pe_glob (v := .int k') (G.gl hg) ht ⟨t, rfl⟩ hd) fun σ H Q ⟨ρ, M, rs, rm, q⟩ => q _ H Ext.refl rm (RD.int_iff.mpr rfl)
    · cases h
  | .dnew t, C, X, G, e, h => by
    simp only [okE] at h
    split at h
    · rw [wE]; exact le_dnew
    · cases h
  | .lrev a, C, X, G, e, h => by
    simp only [okE] at h
    split at h
    · simp only [Bool.and_eq_true, decide_eq_true_eq] at h
      obtain ⟨⟨⟨⟨⟨rfl, hg⟩, rfl⟩, hg2⟩, hs⟩, ha⟩ := h
      rw [wE]
      exact le_lrev (mE G.mono a) G.calm (sE a G _ ha) (G.gl hg) (G.mgB _ (by decide)) (G.gl hg2) (G.mgB _ (by decide)) (star_cons hs)
    · cases h
  | .isin a T, C, X, G, e, h => by
    simp only [okE] at h
    split at h
    · simp only [Bool.and_eq_true, decide_eq_true_eq] at h
      obtain ⟨⟨⟨⟨⟨⟨rfl, hg⟩, hg2⟩, hz⟩, hT⟩, hs⟩, ha⟩ := h
      rw [wE]
      have names : ∀ T ∈ ["bool", "int", "str", "tuple", "list", "dict"], X.mg (Str.ofString T) = none ∧ bootBuiltins (Str.ofString T) = some (.type T) ∧ Str.ofString T ≠ "__name__" ∧ (Str.ofString T == ("__debug__" : Str)) = false := by
        intro T hT
        simp only [List.mem_cons, List.not_mem_nil, or_false] at hT
        rcases hT with rfl | rfl | rfl | rfl | rfl | rfl
        all_goals exact ⟨G.mgB _ (by decide), by decide +kernel, by decide, by decide⟩
      obtain ⟨n1, n2, n3, n4⟩ := names T hT
      subst hz
      exact le_isin hT (mE G.mono a) (sE a G _ ha) (G.gl hg) (G.mgB _ (by decide)) (G.gl hg2) n1 n2 n3 n4 (star_cons hs) rfl
    · cases h
  | .meth m o a, C, X, G, e, h => by
    simp only [okE] at h
    split at h
    · rename_i x n ap y cp
      simp only [Bool.and_eq_true, decide_eq_true_eq] at h
      obtain ⟨⟨⟨⟨⟨hn, hsu⟩, hl⟩, hs⟩, ho⟩, ha⟩ := h
      rw [wE]
      subst hn
      have pa : PA X [y] (lA X.K (wCons (wE Φ a) wNil)) := la_cons (mE G.mono a) mono_nil (sE a G _ ha) la_nil (star_cons hs)
      have few : ((backTo cp (starEach [y] X.env)).all (fun x => !x.1) && (backToKw cp (keywordEach [] X.env)).all (fun x => x.1.isSome) && decide (([y] : List Expr).length + ([] : List Keyword).length + (if ([] : List Keyword).isEmpty then 0 else 1) < 30)) = true := by
        rw [star_cons hs]; rfl
      cases m with
      | append => exact PE.imp (pe_bm PySem.F.plainAttrs_list PySem.F.slot_list_append PySem.F.type_list_append mt_append (sE o G _ ho) pa (no_super hsu) few hl (star_cons hs) rfl) (bm_lift mono_append (mE G.mono o) (mono_cons (mE G.mono a) mono_nil) h_append)
      | extend => exact PE.imp (pe_bm PySem.F.plainAttrs_list PySem.F.slot_list_extend PySem.F.type_list_extend mt_extend (sE o G _ ho) pa (no_super hsu) few hl (star_cons hs) rfl) (bm_lift mono_extend (mE G.mono o) (mono_cons (mE G.mono a) mono_nil) h_extend)
    · cases h
  | .meth0 m o, C, X, G, e, h => by
    simp only [okE] at h
    split at h
    · simp only [Bool.and_eq_true, decide_eq_true_eq] at h
      obtain ⟨⟨⟨hn, hsu⟩, hl⟩, ho⟩ := h
      rw [wE]
      subst hn
      cases m with
      | clear => exact PE.imp (pe_bm0 PySem.F.plainAttrs_list PySem.F.slot_list_clear PySem.F.type_list_clear mt_clear (sE o G _ ho) (no_super hsu) hl) (bm0_lift mono_clear (mE G.mono o) h_clear)
      | reverse => exact PE.imp (pe_bm0 PySem.F.plainAttrs_list PySem.F.slot_list_reverse PySem.F.type_list_reverse mt_reverse (sE o G _ ho) (no_super hsu) hl) (bm0_lift mono_reverse (mE G.mono o) h_reverse)
    · cases h
  | .comp fr N' c, C, X, G, e, h => by
    simp only [okE] at h
    split at h
    · rename_i elt gens sc pos
      simp only [Bool.and_eq_true] at h
      have B : BlkScope sc X.env.scope X.N N' fr := by rw [G.sc, G.N]; exact blk_of h.1
      have B' : BlkScope sc C.sc C.N N' fr := blk_of h.1
      rw [wE]
      cases c with
      | last src g ifs m =>
        have h2 := h.2
        simp only [okC] at h2
        split at h2
        · rename_i t it fs a
          simp only [Bool.and_eq_true, decide_eq_true_eq] at h2
          obtain ⟨⟨⟨⟨rfl, hi⟩, hg⟩, ht⟩, he⟩ := h2
          rw [wCmp]
          refine PE.imp (pe_listComp G.calm G.hx B (fun g' z => by simp at z) (sI src G _ t hi).1 (fun s H fp => sG (G.blk B' s H fp) g t hg) (tb := fun p => lC X.K p (wTests (wTl Φ ifs) (wEmit (wE Φ m)))) (fun s H fp p => ?_) (sI src G _ t hi).2) (comp_lift (mI G.mono src) (mono_tests (mono_emit (mE G.mono m)) (mTl G.mono ifs)))
          have G' := G.blk B' s H fp
          exact body_of (p := p) G' (mono_emit (mE G.mono m)) (mTl G.mono ifs) (PB.imp (pb_emit G'.hx (sE m G' elt he) rfl) (emit_lift (mE G.mono m))) (sTl ifs G' fs ht)
        · cases h2
      | more src g ifs rest =>
        have h2 := h.2
        simp only [okC] at h2
        split at h2
        · rename_i t it fs a g2 gs
          simp only [Bool.and_eq_true, decide_eq_true_eq] at h2
          obtain ⟨⟨⟨⟨rfl, hi⟩, hg⟩, ht⟩, he⟩ := h2
          rw [wCmp]
          have as0 : ∀ g', (g2 :: gs)[0]? = some g' → g'.is_async = 0 := fun g' z => by
            have z' : g2 = g' := by simpa using z
            subst z'
            exact okC_async he
          refine PE.imp (pe_listComp G.calm G.hx B as0 (sI src G _ t hi).1 (fun s H fp => sG (G.blk B' s H fp) g t hg) (tb := fun p => lC X.K p (wTests (wTl Φ ifs) (wCl Φ rest))) (fun s H fp p => ?_) (sI src G _ t hi).2) (comp_lift (mI G.mono src) (mono_tests (mCl G.mono rest) (mTl G.mono ifs)))
          have G' := G.blk B' s H fp
          exact body_of (p := p) G' (mCl G.mono rest) (mTl G.mono ifs) (sCl rest G' elt (⟨t, it, fs, 0⟩ :: g2 :: gs) sc pos 0 (.inl rfl) p he) (sTl ifs G' fs ht)
        · cases h2
    · cases h
theorem sA : ∀ (m : MEs) {C : Ctx} {X : Cx} (G : Good C Φ k X) (es : List Expr), okEs m C es = true → PA X es (lA X.K (wA Φ m))
  | .nil, C, X, G, es, h => by
    simp [okEs] at h; subst h
    rw [wA]; exact la_nil
  | .cons m r, C, X, G, [], h => by simp [okEs] at h
  | .cons m r, C, X, G, e :: es, h => by
    simp only [okEs, Bool.and_eq_true] at h
    rw [wA]
    exact la_cons (mE G.mono m) (mA G.mono r) (sE m G e h.1.2) (sA r G es h.2) (star_cons h.1.1)
theorem sAnds : ∀ (m : MEs) {C : Ctx} {X : Cx} (G : Good C Φ k X) (es : List Expr) (pos : Pos), okEs m C es = true → es ≠ [] → PE X (.BoolOp .And es pos) (lE X.K (wAnds Φ m))
  | .nil, C, X, G, es, pos, h, hne => by simp [okEs] at h; exact absurd h hne
  | .cons m r, C, X, G, [], pos, h, hne => absurd rfl hne
  | .cons m .nil, C, X, G, e :: es, pos, h, _ => by
    simp only [okEs, Bool.and_eq_true] at h
    obtain ⟨h1, h2⟩ := h
    simp at h2; subst h2
    rw [wAnds]
    exact le_one (sE m G e h1.2)
  | .cons m (.cons m2 r), C, X, G, e :: es, pos, h, _ => by
    simp only [okEs, Bool.and_eq_true] at h
    obtain ⟨h1, h2⟩ := h
    cases es with
    | nil => simp at h2
    | cons f fs =>
      rw [wAnds]
      exact le_and (mE G.mono m) (mAnds G.mono _) (sE m G e h1.2) (sAnds (.cons m2 r) G (f :: fs) pos (by simpa only [okEs, Bool.and_eq_true] using h2) (by simp))
theorem sOrs : ∀ (m : MEs) {C : Ctx} {X : Cx} (G : Good C Φ k X) (es : List Expr) (pos : Pos), okEs m C es = true → es ≠ [] → PE X (.BoolOp .Or es pos) (lE X.K (wOrs Φ m))
  | .nil, C, X, G, es, pos, h, hne => by simp [okEs] at h; exact absurd h hne
  | .cons m r, C, X, G, [], pos, h, hne => absurd rfl hne
  | .cons m .nil, C, X, G, e :: es, pos, h, _ => by
    simp only [okEs, Bool.and_eq_true] at h
    obtain ⟨h1, h2⟩ := h
    simp at h2; subst h2
    rw [wOrs]
    exact le_one (sE m G e h1.2)
  | .cons m (.cons m2 r), C, X, G, e :: es, pos, h, _ => by
    simp only [okEs, Bool.and_eq_true] at h
    obtain ⟨h1, h2⟩ := h
    cases es with
    | nil => simp at h2
    | cons f fs =>
      rw [wOrs]
      exact le_or (mE G.mono m) (mOrs G.mono _) (sE m G e h1.2) (sOrs (.cons m2 r) G (f :: fs) pos (by simpa only [okEs, Bool.and_eq_true] using h2) (by simp))
theorem sO : ∀ (m : MO) {C : Ctx} {X : Cx} (G : Good C Φ k X) (e : Option Expr), okO m C e = true → PO X e (lO X.K (wO Φ m))
  | .none, C, X, G, e, h => by
    simp [okO] at h; subst h
    rw [wO]; exact lo_none
  | .some m, C, X, G, none, h => by simp [okO] at h
  | .some m, C, X, G, some e, h => by
    simp only [okO] at h
    rw [wO]; exact lo_some (mE G.mono m) (sE m G e h)
theorem sT : ∀ (m : MT) {C : Ctx} {X : Cx} (G : Good C Φ k X) (e : Expr), okT m C e = true → PT X e (lT X.K (wT Φ m))
  | .tru m, C, X, G, e, h => by
    simp only [okT, Bool.and_eq_true] at h
    rw [wT]; exact lt_tru (mE G.mono m) (sE m G e h.2) (plain_true h.1)
  | .cmp op a b, C, X, G, e, h => by
    simp only [okT] at h
    split at h
    · simp only [Bool.and_eq_true, decide_eq_true_eq] at h
      rw [wT, h.1.1]
      exact lt_cmp (cmp_all G op) (mono_opC op) (mE G.mono a) (mE G.mono b) (sE a G _ h.1.2) (sE b G _ h.2) (nomark_all op _)
    · cases h
  | .chain op op' a b c, C, X, G, e, h => by
    simp only [okT] at h
    split at h
    · simp only [Bool.and_eq_true, decide_eq_true_eq, Bool.not_eq_true'] at h
      obtain ⟨⟨⟨⟨⟨rfl, rfl⟩, ha⟩, hb⟩, hc⟩, hm⟩ := h
      rw [wT]
      exact lt_chain (cmp_all G op) (cmp_all G op') (mono_opC op) (mono_opC op') (mE G.mono a) (mE G.mono b) (mE G.mono c) (sE a G _ ha) (sE b G _ hb) (sE c G _ hc) hm
    · cases h
  | .and ts, C, X, G, e, h => by
    simp only [okT] at h
    split at h
    · simp only [Bool.and_eq_true] at h
      rw [wT]; exact (sAndTs ts G _ _ h.2 (by intro z; rw [z] at h; simp at h)).pt
    · cases h
  | .or ts, C, X, G, e, h => by
    simp only [okT] at h
    split at h
    · simp only [Bool.and_eq_true] at h
      rw [wT]; exact (sOrTs ts G _ _ h.2 (by intro z; rw [z] at h; simp at h)).pt
    · cases h
  | .not t, C, X, G, e, h => by
    simp only [okT] at h
    split at h
    · rw [wT]; exact lt_not (mT G.mono t) (sT t G _ h)
    · cases h
theorem sAndTs : ∀ (m : MTs) {C : Ctx} {X : Cx} (G : Good C Φ k X) (es : List Expr) (pos : Pos), okTs m C es = true → es ≠ [] → PW X (.BoolOp .And es pos) (lT X.K (wAndTs Φ m))
  | .nil, C, X, G, es, pos, h, hne => by simp [okTs] at h; exact absurd h hne
  | .cons m r, C, X, G, [], pos, h, hne => absurd rfl hne
  | .cons m .nil, C, X, G, e :: es, pos, h, _ => by
    simp only [okTs, Bool.and_eq_true] at h
    obtain ⟨h1, h2⟩ := h
    simp at h2; subst h2
    rw [wAndTs]
    exact lw_and1 (sT m G e h1)
  | .cons m (.cons m2 r), C, X, G, e :: es, pos, h, _ => by
    simp only [okTs, Bool.and_eq_true] at h
    obtain ⟨h1, h2⟩ := h
    cases es with
    | nil => simp at h2
    | cons f fs =>
      rw [wAndTs]
      exact lw_and (mT G.mono m) (mAndTs G.mono _) (sT m G e h1) (sAndTs (.cons m2 r) G (f :: fs) pos (by simpa only [okTs, Bool.and_eq_true] using h2) (by simp))
theorem sOrTs : ∀ (m : MTs) {C : Ctx} {X : Cx} (G : Good C Φ k X) (es : List Expr) (pos : Pos), okTs m C es = true → es ≠ [] → PW X (.BoolOp .Or es pos) (lT X.K (wOrTs Φ m))
  | .nil, C, X, G, es, pos, h, hne => by simp [okTs] at h; exact absurd h hne
  | .cons m r, C, X, G, [], pos, h, hne => absurd rfl hne
  | .cons m .nil, C, X, G, e :: es, pos, h, _ => by
    simp only [okTs, Bool.and_eq_true] at h
    obtain ⟨h1, h2⟩ := h
    simp at h2; subst h2
    rw [wOrTs]
    exact lw_or1 (sT m G e h1)
  | .cons m (.cons m2 r), C, X, G, e :: es, pos, h, _ => by
    simp only [okTs, Bool.and_eq_true] at h
    obtain ⟨h1, h2⟩ := h
    cases es with
    | nil => simp at h2
    | cons f fs =>
      rw [wOrTs]
      exact lw_or (mT G.mono m) (mOrTs G.mono _) (sT m G e h1) (sOrTs (.cons m2 r) G (f :: fs) pos (by simpa only [okTs, Bool.and_eq_true] using h2) (by simp))
theorem sTl : ∀ (m : MTs) {C : Ctx} {X : Cx} (G : Good C Φ k X) (es : List Expr), okTs m C es = true → Paired (fun c t => PT X c t) es ((wTl Φ m).map (lT X.K))
  | .nil, C, X, G, es, h => by
    simp [okTs] at h; subst h
    rw [wTl]; exact .nil
  | .cons m r, C, X, G, [], h => by simp [okTs] at h
  | .cons m r, C, X, G, e :: es, h => by
    simp only [okTs, Bool.and_eq_true] at h
    rw [wTl]
    exact .cons (sT m G e h.1) (sTl r G es h.2)
theorem sI : ∀ (m : MI) {C : Ctx} {X : Cx} (G : Good C Φ k X) (e tg : Expr), okI m C tg e = true → PI X tg e (lI X.K (wI Φ m)) ∧ ∀ x, foldedSetIterable e X.env x = pure x
  | .seq m, C, X, G, e, tg, h => by
    simp only [okI, Bool.and_eq_true] at h
    rw [wI]; exact ⟨li_seq (mE G.mono m) (sE m G e h.2), no_set h.1⟩
  | .rng1 a, C, X, G, e, tg, h => by
    simp only [okI] at h
    split at h
    · simp only [Bool.and_eq_true, decide_eq_true_eq] at h
      obtain ⟨⟨⟨rfl, hg⟩, hs⟩, ha⟩ := h
      rw [wI]
      exact ⟨li_rng1 (mono_cons (mE G.mono a) mono_nil) (G.gl hg) (G.mgB _ (by decide)) (la_cons (mE G.mono a) mono_nil (sE a G _ ha) la_nil (star_cons hs)) (star_cons hs), fun x => rfl⟩
    · cases h
  | .rng2 a b, C, X, G, e, tg, h => by
    simp only [okI] at h
    split at h
    · simp only [Bool.and_eq_true, decide_eq_true_eq] at h
      obtain ⟨⟨⟨⟨⟨rfl, hg⟩, hs⟩, hs2⟩, ha⟩, hb⟩ := h
      rw [wI]
      exact ⟨li_rng2 (mono_cons (mE G.mono a) (mono_cons (mE G.mono b) mono_nil)) (G.gl hg) (G.mgB _ (by decide)) (la_cons (mE G.mono a) (mono_cons (mE G.mono b) mono_nil) (sE a G _ ha) (la_cons (mE G.mono b) mono_nil (sE b G _ hb) la_nil (star_cons hs2)) (star_cons hs)) (by rw [star_cons hs, star_cons hs2]; rfl) (star_cons hs2), fun x => rfl⟩
    · cases h
  | .enum a, C, X, G, e, tg, h => by
    simp only [okI] at h
    split at h
    · simp only [Bool.and_eq_true, decide_eq_true_eq] at h
      obtain ⟨⟨⟨rfl, hg⟩, hs⟩, ha⟩ := h
      rw [wI]
      exact ⟨li_enum (mE G.mono a) (G.gl hg) (G.mgB _ (by decide)) (la_cons (mE G.mono a) mono_nil (sE a G _ ha) la_nil (star_cons hs)) (star_cons hs), fun x => rfl⟩
    · cases h
  | .zip a b, C, X, G, e, tg, h => by
    simp only [okI] at h
    split at h
    · simp only [Bool.and_eq_true, decide_eq_true_eq] at h
      obtain ⟨⟨⟨⟨⟨rfl, hg⟩, hs⟩, hs2⟩, ha⟩, hb⟩ := h
      rw [wI]
      exact ⟨li_zip (mE G.mono a) (mE G.mono b) (G.gl hg) (G.mgB _ (by decide)) (la_cons (mE G.mono a) (mono_cons (mE G.mono b) mono_nil) (sE a G _ ha) (la_cons (mE G.mono b) mono_nil (sE b G _ hb) la_nil (star_cons hs2)) (star_cons hs)) (by rw [star_cons hs, star_cons hs2]; rfl) (star_cons hs2), fun x => rfl⟩
    · cases h
theorem sCl : ∀ (m : MC) {C : Ctx} {X : Cx} (G : Good C Φ k X) (elt : Expr) (gens : List Comprehension) (sc : Scope) (pos : Pos) (d : Nat) (_ : d = 0 ∨ d = d) (p : Addr), okC m C C (gens.drop (d + 1)) elt = true →
    PB X (compNext elt gens sc pos d (.ref p) X.env) (lC X.K p (wCl Φ m))
  | .last src g ifs m, C, X, G, elt, gens, sc, pos, d, _, p, h => by
    simp only [okC] at h
    split at h
    · rename_i t it fs a hd
      simp only [Bool.and_eq_true, decide_eq_true_eq] at h
      obtain ⟨⟨⟨⟨rfl, hi⟩, hg⟩, ht⟩, he⟩ := h
      have e1 : gens[d + 1]? = some ⟨t, it, fs, 0⟩ := by
        have z : (gens.drop (d + 1))[0]? = some ⟨t, it, fs, 0⟩ := by rw [hd]; rfl
        rw [List.getElem?_drop] at z; simpa using z
      have e2 : gens[d + 1 + 1]? = none := by
        have z : (gens.drop (d + 1))[1]? = none := by rw [hd]; rfl
        rw [List.getElem?_drop] at z; simpa using z
      rw [wCl]
      refine PB.imp (pb_clause G.hx G.calm e1 (fun g' z => by rw [e2] at z; cases z) (sI src G _ t hi).1 (sG G g t hg) (body_of (p := p) G (mono_emit (mE G.mono m)) (mTl G.mono ifs) (PB.imp (pb_emit G.hx (sE m G elt he) e2) (emit_lift (mE G.mono m))) (sTl ifs G fs ht)) (sI src G _ t hi).2) (clause_lift (mI G.mono src) (mono_tests (mono_emit (mE G.mono m)) (mTl G.mono ifs)))
    · cases h
  | .more src g ifs rest, C, X, G, elt, gens, sc, pos, d, _, p, h => by
    simp only [okC] at h
    split at h
    · rename_i t it fs a g2 gs hd
      simp only [Bool.and_eq_true, decide_eq_true_eq] at h
      obtain ⟨⟨⟨⟨rfl, hi⟩, hg⟩, ht⟩, he⟩ := h
      have e1 : gens[d + 1]? = some ⟨t, it, fs, 0⟩ := by
        have z : (gens.drop (d + 1))[0]? = some ⟨t, it, fs, 0⟩ := by rw [hd]; rfl
        rw [List.getElem?_drop] at z; simpa using z
      have e2 : gens[d + 1 + 1]? = some g2 := by
        have z : (gens.drop (d + 1))[1]? = some g2 := by rw [hd]; rfl
        rw [List.getElem?_drop] at z; simpa using z
      have e3 : gens.drop (d + 1 + 1) = g2 :: gs := by
        have z : (gens.drop (d + 1)).drop 1 = g2 :: gs := by rw [hd]; rfl
        rw [List.drop_drop] at z; simpa using z
      have as0 : ∀ g', gens[d + 1 + 1]? = some g' → g'.is_async = 0 := fun g' z => by
        rw [e2] at z; cases z
        exact okC_async he
      rw [wCl]
      refine PB.imp (pb_clause G.hx G.calm e1 as0 (sI src G _ t hi).1 (sG G g t hg) (body_of (p := p) G (mCl G.mono rest) (mTl G.mono ifs) (sCl rest G elt gens sc pos (d + 1) (.inr rfl) p (by rw [e3]; exact he)) (sTl ifs G fs ht)) (sI src G _ t hi).2) (clause_lift (mI G.mono src) (mono_tests (mCl G.mono rest) (mTl G.mono ifs)))
    · cases h
end
end
end Mi
end L2
namespace L2
namespace Mi
open PySem PySem.Spec PyProof.Rows

section
variable {Φ : Phi} {k : Nat} {C : Ctx} {X : Cx}
theorem sw_none2 {sc : Scope} {ts vs : List Expr} {kk k2 : Nat} {pp p2 : Pos} {env : Env} (hs : env.scope = sc) (hk : sc.kind = .function) (h : swNo sc ts vs = true) : swappedStores [.Tuple ts kk pp] (.Tuple vs k2 p2) env = pure none := by
  have hb : env.blockKind = .function := by unfold Env.blockKind; rw [hs, hk]; rfl
  have h' : swNo sc ts vs = true := h
  unfold swappedStores
  dsimp only
  rw [hb]
  by_cases c1 : (!(ts.length == 2 || ts.length == 3) || vs.length != ts.length) = true
  · simp only [c1, Bool.true_or, if_true]
  · simp only [Bool.not_eq_true] at c1
    rw [c1]
    simp only [Bool.false_or, bne_self_eq_false, Bool.false_eq_true, if_false]
    split
    · rfl
    ·
      generalize hL : List.filterMap _ ts = L
      obtain rfl : L = swNames sc ts := by
        rw [← hL]
        unfold swNames
        congr 1
        funext x
        cases x <;> first | rfl | (unfold Env.kindOf; rw [hs])
      unfold swNo at h'
      rw [c1] at h'
      simp only [Bool.false_or, Bool.or_eq_true] at h'
      by_cases c3 : ((swNames sc ts).length != ts.length || (swNames sc ts).eraseDups.length != (swNames sc ts).length) = true
      · rw [if_pos c3]
      · rw [if_neg c3]
        have c4 : vs.all (foldedForSure 8) = true := by
          rcases h' with h' | h'
          · exact absurd (Bool.or_eq_true _ _ |>.mpr h') c3
          · exact h'
        rw [if_pos c4]
theorem sw_some {sc : Scope} {ts vs : List Expr} {ns : List Str} {kk k2 : Nat} {pp p2 : Pos} {env : Env} (hs : env.scope = sc) (hk : sc.kind = .function) (h : swYes sc ts vs ns = true) : swappedStores [.Tuple ts kk pp] (.Tuple vs k2 p2) env = pure (some ns) := by
  have hb : env.blockKind = .function := by unfold Env.blockKind; rw [hs, hk]; rfl
  simp only [swYes, Bool.and_eq_true, Bool.not_eq_true', decide_eq_true_eq] at h
  obtain ⟨⟨⟨⟨⟨c1, c2⟩, c3⟩, c4⟩, c5⟩, c6⟩ := h
  unfold swappedStores
  dsimp only
  rw [hb, c1]
  simp only [Bool.false_or, bne_self_eq_false, Bool.false_eq_true, if_false]
  split
  · next z => exact absurd z (by rw [Bool.not_eq_true]; exact c2)
  · generalize hL : List.filterMap _ ts = L
    obtain rfl : L = swNames sc ts := by
      rw [← hL]
      unfold swNames
      congr 1
      funext x
      cases x <;> first | rfl | (unfold Env.kindOf; rw [hs])
    rw [c4, c5, c6, c3]
    rfl
theorem parN_of {C : Ctx} {i : Nat} {x : Str} (h : parN C i x = true) : C.N[i]? = some x ∧ C.sc.names.lookup x = some .local := by
  simpa [parN] using h
theorem sole_of {tg e : Expr} {l : Nat} {env : Env} {b : Bool} (h : swapsWith e (some tg) l env = pure b) : swapsWithSole [tg] e l env = pure b := by
  unfold swapsWithSole
  exact h
theorem sw_none {sc : Scope} {tg e : Expr} {env : Env} (hs : env.scope = sc) (hk : sc.kind = .function) (h : asgOk sc tg e = true) : swappedStores [tg] e env = pure none := by
  cases tg with
  | Tuple ts kk pp =>
    cases e with
    | Tuple vs k2 p2 => exact sw_none2 hs hk h
    | _ => rfl
  | _ => first | rfl | (simp [asgOk] at h; done)
theorem swaps_eq {elt : Expr} {gens : List Comprehension} {s sc : Scope} {pos px : Pos} {x : Str} {l : Nat} {env : Env} (hs : env.scope = sc) (hk : sc.kind = .function) :
    swapsWith (.ListComp elt gens s pos) (some (.Name x px)) l env = pure (swapB sc x px (.ListComp elt gens s pos)) := by
  have hb : env.blockKind = .function := by unfold Env.blockKind; rw [hs, hk]; rfl
  unfold swapsWith
  dsimp only
  rw [hb]
  unfold swapB Env.kindOf
  rw [hs]
  rfl
mutual
theorem sS : ∀ (m : MS) (G : Good C Φ k X) (hk : C.sc.kind = .function) (s : Stmt), okS m C s = true → PS X s (lS X.K (wS Φ m))
  | .asg g m, G, hk, s, h => by
    simp only [okS] at h
    split at h
    · rename_i tg e pos
      simp only [Bool.and_eq_true] at h
      obtain ⟨⟨⟨hg, he⟩, ha⟩, hc⟩ := h
      rw [wS]
      have hw := sw_none G.sc hk ha
      have pg := sG G g tg hg
      have plain : swapsWithSole [tg] e pos.line X.env = pure false → PS X (.Assign [tg] e pos) (lS X.K (sAsg (wE Φ m) (bG g))) := fun hs =>
        PS.imp (ps_asg (sE m G e he) pg hs hw (by cases tg <;> first | rfl | (simp [asgOk] at ha; done))) (asg_lift (mE G.mono m))
      cases tg with
      | Tuple ts a b => exact plain (sole_of (no_comp hc))
      | Name x px =>
        cases e with
        | ListComp elt gens sc cpos =>
          by_cases sw : swapB C.sc x px (.ListComp elt gens sc cpos) = true
          · cases g with
            | tup gs => simp [okG] at hg
            | name i =>
              cases m with
              | comp fr N' c =>
                simp only [okE, Bool.and_eq_true] at he
                have B : BlkScope sc X.env.scope X.N N' fr := by rw [G.sc, G.N]; exact blk_of he.1
                have B' : BlkScope sc C.sc C.N N' fr := blk_of he.1
                have hgx : PG X (.Name x px) (gName i) := by
                  simp only [okG, Bool.and_eq_true] at hg
                  exact pg_name G.nd (by rw [G.N]; exact of_decide_eq_true hg.1.1) (G.loc hg.1.2) (G.own hg.2)
                have hsw : ∀ l, swapsWith (.ListComp elt gens sc cpos) (some (.Name x px)) l X.env = pure true := fun l => by rw [swaps_eq G.sc hk, sw]
                rw [wE, bG]
                have mc := mCmp G.mono fr c
                cases c with
                | last src g ifs m =>
                  have h2 := he.2
                  simp only [okC] at h2
                  split at h2
                  · rename_i t it fs a
                    simp only [Bool.and_eq_true, decide_eq_true_eq] at h2
                    obtain ⟨⟨⟨⟨rfl, hi⟩, hg'⟩, ht⟩, hel⟩ := h2
                    rw [wCmp] at mc ⊢
                    refine PS.imp (ps_setComp (i := i) (g := lG X.K (bG g)) (wi := lI X.K (wI Φ src)) G.calm G.hx B (fun g' z => by simp at z) (sI src G _ t hi).1 (fun s H fp => sG (G.blk B' s H fp) g t hg') (tb := fun p => lC X.K p (wTests (wTl Φ ifs) (wEmit (wE Φ m)))) (fun s H fp p => ?_) (sI src G _ t hi).2 hgx (hsw _)) fun D σ H h => ?_
                    · have G' := G.blk B' s H fp
                      exact body_of (p := p) G' (mono_emit (mE G.mono m)) (mTl G.mono ifs) (PB.imp (pb_emit G'.hx (sE m G' elt hel) rfl) (emit_lift (mE G.mono m))) (sTl ifs G' fs ht)
                    · exact comp_lift (mI G.mono src) (mono_tests (mono_emit (mE G.mono m)) (mTl G.mono ifs)) σ H _ (asgN_lift mc D σ H h)
                  · cases h2
                | more src g ifs rest =>
                  have h2 := he.2
                  simp only [okC] at h2
                  split at h2
                  · rename_i t it fs a g2 gs
                    simp only [Bool.and_eq_true, decide_eq_true_eq] at h2
                    obtain ⟨⟨⟨⟨rfl, hi⟩, hg'⟩, ht⟩, hel⟩ := h2
                    rw [wCmp] at mc ⊢
                    have as0 : ∀ g', (g2 :: gs)[0]? = some g' → g'.is_async = 0 := fun g' z => by
                      have z' : g2 = g' := by simpa using z
                      subst z'
                      exact okC_async hel
                    refine PS.imp (ps_setComp (i := i) (g := lG X.K (bG g)) (wi := lI X.K (wI Φ src)) G.calm G.hx B as0 (sI src G _ t hi).1 (fun s H fp => sG (G.blk B' s H fp) g t hg') (tb := fun p => lC X.K p (wTests (wTl Φ ifs) (wCl Φ rest))) (fun s H fp p => ?_) (sI src G _ t hi).2 hgx (hsw _)) fun D σ H h => ?_
                    · have G' := G.blk B' s H fp
                      exact body_of (p := p) G' (mCl G.mono rest) (mTl G.mono ifs) (sCl rest G' elt (⟨t, it, fs, 0⟩ :: g2 :: gs) sc cpos 0 (.inl rfl) p hel) (sTl ifs G' fs ht)
                    · exact comp_lift (mI G.mono src) (mono_tests (mCl G.mono rest) (mTl G.mono ifs)) σ H _ (asgN_lift mc D σ H h)
                  · cases h2
              | _ => simp [okE] at he
          · refine plain ?_
            simp only [Bool.not_eq_true] at sw
            refine sole_of ?_
            rw [swaps_eq G.sc hk, sw]
        | SetComp _ _ _ _ => cases m <;> simp [okE] at he
        | DictComp _ _ _ _ _ => cases m <;> simp [okE] at he
        | _ => exact plain (sole_of rfl)
      | _ => simp [asgOk] at ha
    · cases h
  | .par gs es, G, hk, s, h => by
    simp only [okS] at h
    split at h
    · simp only [Bool.and_eq_true, decide_eq_true_eq] at h
      obtain ⟨⟨⟨⟨⟨⟨⟨hi, hj⟩, hij⟩, n1⟩, n2⟩, ha⟩, hb⟩, hw⟩ := h
      rename_i i j a b x px y py _ _ e f _ _ pos
      obtain ⟨i1, i2⟩ := parN_of hi
      obtain ⟨j1, j2⟩ := parN_of hj
      rw [wS]
      simp only [wA, bGs, bG]
      refine PS.imp (ps_par G.calm G.nd (by rw [G.N]; exact i1) (by rw [G.N]; exact j1) hij (by rw [G.sc]; exact i2) (by rw [G.sc]; exact j2) (la_cons (mE G.mono a) (mono_cons (mE G.mono b) mono_nil) (sE a G _ ha) (la_cons (mE G.mono b) mono_nil (sE b G _ hb) la_nil (star_cons n2)) (star_cons n1)) (sw_some G.sc hk hw) (sole_of rfl)) (par2_lift (mono_cons (mE G.mono a) (mono_cons (mE G.mono b) mono_nil)))
    · simp only [Bool.and_eq_true, decide_eq_true_eq] at h
      obtain ⟨⟨⟨⟨⟨⟨⟨⟨⟨⟨⟨⟨hi, hj⟩, hl⟩, hij⟩, hil⟩, hjl⟩, n1⟩, n2⟩, n3⟩, ha⟩, hb⟩, hc⟩, hw⟩ := h
      rename_i i j l a b c x px y py z pz _ _ e f g _ _ pos
      obtain ⟨i1, i2⟩ := parN_of hi
      obtain ⟨j1, j2⟩ := parN_of hj
      obtain ⟨l1, l2⟩ := parN_of hl
      rw [wS]
      simp only [wA, bGs, bG]
      refine PS.imp (ps_par3 G.calm G.nd (by rw [G.N]; exact i1) (by rw [G.N]; exact j1) (by rw [G.N]; exact l1) hij hil hjl (by rw [G.sc]; exact i2) (by rw [G.sc]; exact j2) (by rw [G.sc]; exact l2) (la_cons (mE G.mono a) (mono_cons (mE G.mono b) (mono_cons (mE G.mono c) mono_nil)) (sE a G _ ha) (la_cons (mE G.mono b) (mono_cons (mE G.mono c) mono_nil) (sE b G _ hb) (la_cons (mE G.mono c) mono_nil (sE c G _ hc) la_nil (star_cons n3)) (star_cons n2)) (star_cons n1)) (sw_some G.sc hk hw) (sole_of rfl)) (par3_lift (mono_cons (mE G.mono a) (mono_cons (mE G.mono b) (mono_cons (mE G.mono c) mono_nil))))
    · cases h
  | .put o i m, G, hk, s, h => by
    simp only [okS] at h
    split at h
    · rename_i x y tp e pos
      simp only [Bool.and_eq_true] at h
      obtain ⟨⟨⟨⟨hsl, hc⟩, ho⟩, hi⟩, he⟩ := h
      rw [wS]
      exact ls_put (by have := G.units; omega) (mE G.mono m) (mE G.mono o) (mE G.mono i) (sE m G e he) (sE o G x ho) (sE i G y hi) (sole_of (no_comp hc)) rfl (fun v => by cases y <;> first | rfl | (simp [noSlice] at hsl; done))
    · cases h
  | .aug i op m, G, hk, s, h => by
    simp only [okS] at h
    split at h
    · simp only [Bool.and_eq_true, decide_eq_true_eq] at h
      obtain ⟨⟨⟨⟨⟨rfl, hop⟩, hi⟩, hl⟩, hf⟩, he⟩ := h
      rw [wS]
      cases op with
      | add => exact ls_aug G.nd (by rw [G.N]; exact hi) (G.loc hl) (sE m G _ he) iop_add_d mono_iadd (mE G.mono m) (G.own hf)
      | sub => exact ls_aug G.nd (by rw [G.N]; exact hi) (G.loc hl) (sE m G _ he) iop_sub_d mono_isub (mE G.mono m) (G.own hf)
      | mul => exact ls_aug G.nd (by rw [G.N]; exact hi) (G.loc hl) (sE m G _ he) iop_mul_d mono_imul (mE G.mono m) (G.own hf)
      | _ => simp at hop
    · cases h
  | .augI o i op m, G, hk, s, h => by
    simp only [okS] at h
    split at h
    · rename_i x y tp o' e pos
      simp only [Bool.and_eq_true, decide_eq_true_eq] at h
      obtain ⟨⟨⟨⟨⟨rfl, hop⟩, hsl⟩, ho⟩, hi⟩, he⟩ := h
      have hu : X.A.units + 1 < cLine := by have := G.units; omega
      have ha : ∀ ov iv new, augStore y ov iv new = (do holding [new, ov, iv] (setItem ov iv new); release [new, ov, iv] []; pure .next) := fun ov iv new => by cases y <;> first | rfl | (simp [noSlice] at hsl; done)
      rw [wS]
      cases op with
      | add => exact ls_augI hu (mE G.mono o) (mE G.mono i) (mE G.mono m) mono_iadd (sE o G x ho) (sE i G y hi) (sE m G e he) iop_add_d ha
      | sub => exact ls_augI hu (mE G.mono o) (mE G.mono i) (mE G.mono m) mono_isub (sE o G x ho) (sE i G y hi) (sE m G e he) iop_sub_d ha
      | mul => exact ls_augI hu (mE G.mono o) (mE G.mono i) (mE G.mono m) mono_imul (sE o G x ho) (sE i G y hi) (sE m G e he) iop_mul_d ha
      | _ => simp at hop
    · cases h
  | .drop m, G, hk, s, h => by
    simp only [okS] at h
    split at h
    · simp only [Bool.and_eq_true] at h
      rw [wS]
      exact PS.imp (ps_expr (sE m G _ h.2) (no_comp h.1)) (drop_lift (mE G.mono m))
    · cases h
  | .ret m, G, hk, s, h => by
    simp only [okS] at h
    split at h
    · rw [wS]
      exact PS.imp (ps_ret (sE m G _ h)) (ret_lift (mE G.mono m))
    · cases h
  | .ite c a b, G, hk, s, h => by
    simp only [okS] at h
    split at h
    · simp only [Bool.and_eq_true] at h
      rw [wS]
      exact PS.imp (ps_if (sT c G _ h.1.1) (sSs a G hk _ h.1.2) (sSs b G hk _ h.2)) (if_lift (mT G.mono c))
    · cases h
  | .for g src b, G, hk, s, h => by
    simp only [okS] at h
    split at h
    · simp only [Bool.and_eq_true] at h
      obtain ⟨⟨⟨hs, hg⟩, hi⟩, hb⟩ := h
      rw [wS]
      exact PS.imp (ps_for (fun e s z => (G.hx e s z).elim) G.calm (sI src G _ _ hi).1 (sG G g _ hg) (sSs b G hk _ hb) (no_set hs)) (for_lift (mI G.mono src) (mSs G.mono b))
    · cases h
  | .while c b, G, hk, s, h => by
    simp only [okS] at h
    split at h
    · simp only [Bool.and_eq_true] at h
      rw [wS]
      exact PS.imp (ps_while (fun e s z => (G.hx e s z).elim) (sT c G _ h.1) (sSs b G hk _ h.2)) (while_lift (mT G.mono c) (mSs G.mono b))
    · cases h
  | .pass, G, hk, s, h => by
    simp only [okS] at h
    split at h
    · rw [wS]; exact PS.imp ps_pass next_lift
    · cases h
  | .brk, G, hk, s, h => by
    simp only [okS] at h
    split at h
    · rw [wS]; exact PS.imp ps_break break_lift
    · cases h
  | .cnt, G, hk, s, h => by
    simp only [okS] at h
    split at h
    · rw [wS]; exact PS.imp ps_continue cont_lift
    · cases h
theorem sSs : ∀ (m : MSs) (G : Good C Φ k X) (hk : C.sc.kind = .function) (s : List Stmt), okSs m C s = true → PSs X s (lS X.K (wSs Φ m))
  | .nil, G, hk, s, h => by
    simp [okSs] at h; subst h
    rw [wSs]; exact PSs.imp pss_nil next_lift
  | .cons m r, G, hk, [], h => by simp [okSs] at h
  | .cons m r, G, hk, s :: ss, h => by
    simp only [okSs, Bool.and_eq_true] at h
    rw [wSs]
    exact PSs.imp (pss_cons (sS m G hk s h.1) (sSs r G hk ss h.2)) (seq_lift (mS G.mono m) (mSs G.mono r))
end
end
end Mi
end L2
namespace L2
namespace Mi
open PySem PySem.Spec PyProof.Rows

/-! ### the defs of a text -/
structure FD where
  name : Str
  st : Stmt
  N : List Str
  np : Nat
  body : MSs
def startD (N : List Str) (ds : List D) : EnvD := ds.map some ++ List.replicate (N.length - ds.length) none
def phi (T : List FD) : Nat → Phi
  | 0 => fun _ _ _ _ => False
  | k + 1 => fun f ds M Q => ∃ d, T[f]? = some d ∧ ds.length = d.np ∧ wSs (phi T k) d.body { nx := fun _ M' => Q .non M', rt := Q } (startD d.N ds) M
theorem mono_phi (T : List FD) : ∀ k f, MonoAr (phi T k f)
  | 0, f => fun _ _ _ _ _ q => q.elim
  | k + 1, f => fun ds M Q Q' h ⟨d, e, l, q⟩ => ⟨d, e, l, mSs (mono_phi T k) d.body { nx := fun _ M' => Q .non M', rt := Q } { nx := fun _ M' => Q' .non M', rt := Q' } _ _ ⟨fun _ M' q' => h _ _ q', h, fun _ _ z => z, fun _ _ z => z⟩ q⟩
def fdOk (Γ : List Str) (cs : List (Str × Int)) (d : FD) : Bool :=
  decide ((defScope d.st).kind = .function) && !(defScope d.st).isCoroutine && !(defScope d.st).isGenerator && decide (d.N.Nodup) && decide (d.np ≤ d.N.length)
    && (d.N.take d.np).all (fun x => (defScope d.st).names.lookup x == some .local || (defScope d.st).names.lookup x == some .cell)
    && (defScope d.st).names.all (fun y => !(y.2 == .free)) && okSs d.body ⟨Γ, d.N, defScope d.st, d.N, cs⟩ (defBody d.st)
theorem fd_scope {Γ : List Str} {cs : List (Str × Int)} {d : FD} (h : fdOk Γ cs d = true) : FnScope d.N (d.N.take d.np) (defScope d.st) ∧ (d.N.take d.np).length = d.np ∧ okSs d.body ⟨Γ, d.N, defScope d.st, d.N, cs⟩ (defBody d.st) = true := by
  simp only [fdOk, Bool.and_eq_true, decide_eq_true_eq, Bool.not_eq_true'] at h
  obtain ⟨⟨⟨⟨⟨⟨⟨h1, h2⟩, h3⟩, h4⟩, h5⟩, h6⟩, h7⟩, h8⟩ := h
  have hl : (d.N.take d.np).length = d.np := by rw [List.length_take]; omega
  refine ⟨⟨h1, h2, h3, h4, by rw [hl], fun x hx => ?_, fun y hy e => ?_⟩, hl, h8⟩
  · have z := List.all_eq_true.mp h6 x hx
    simpa using z
  · have z := List.all_eq_true.mp h7 y hy
    rw [e] at z
    simp at z
section
variable {P : Program} {w : World} {K : PySem.W.Frag} {mg : Str → Option Value} {base : Heap}
/-- what of the text is known behind the top -/
structure TabOk (K : PySem.W.Frag) (mg : Str → Option Value) (T : List FD) (cs : List (Str × Int)) : Prop where
  blt : ∀ x ∈ bltNames, mg x = none
  fns : ∀ (i : Nat) (d : FD), T[i]? = some d → ∃ f fd, Fun K d.name d.name d.st f fd ∧ mg d.name = some (.ref f) ∧ Binds K fd (d.N.take d.np) []
  ok : ∀ d ∈ T, fdOk (T.map (·.name)) cs d = true
  cst : ∀ x i, (x, i) ∈ cs → ∃ t, mg x = some (.int i t)
theorem fn_all {T : List FD} {cs : List (Str × Int)} (O : TabOk K mg T cs) : ∀ (k i : Nat) (d : FD) (f : Addr) (fd : FuncData), T[i]? = some d → Fun K d.name d.name d.st f fd → FnOk P w K mg base CX0 k f fd (d.N.take d.np) (lSp K (phi T k i))
  | 0, i, d, f, fd, e, F => ⟨fun vs H Q E h => by obtain ⟨ds, M, _, _, q⟩ := h; exact q.elim, fun A outer s H args us vs Q E _ _ _ _ h => by obtain ⟨ds, M, _, _, q⟩ := h; exact q.elim⟩
  | k + 1, i, d, f, fd, e, F => by
    obtain ⟨S, hl, hb⟩ := fd_scope (O.ok d (List.mem_of_getElem? e))
    refine F.ok S (fun vs H Q E h => ?_) fun cdv A outer s H vs Q E hr h => ?_
    · obtain ⟨ds, M, rm, rs, d', e', l, q⟩ := h
      rw [e] at e'; cases e'
      rw [rs.length, l, hl]
    · obtain ⟨ds, M, rm, rs, d', e', l, q⟩ := h
      rw [e] at e'; cases e'
      have G : Good ⟨T.map (·.name), d.N, defScope d.st, d.N, cs⟩ (phi T k) k ((cxOf CX0 P w K mg base d.N d.name (defScope d.st) f cdv A outer s H E).nox) := by
        refine ⟨fun _ _ z => z, rfl, rfl, rfl, S.nd, fun _ _ => rfl, hr, O.blt, fun j x hx => ?_, mono_phi T k, O.cst⟩
        have hx' : (T.map (·.name))[j]? = some x := hx
        rw [List.getElem?_map] at hx'
        cases e2 : T[j]? with
        | none => rw [e2] at hx'; cases hx'
        | some d2 =>
          rw [e2] at hx'; cases hx'
          obtain ⟨f2, fd2, F2, m2, b2⟩ := O.fns j d2 e2
          exact ⟨f2, fd2, _, m2, F2.kp, b2, fn_all O k j d2 f2 fd2 e2 F2⟩
      refine ⟨_, sSs d.body G S.kind _ hb, startD d.N ds, M, { nx := fun _ M' => KE' K M H Q .non M', rt := KE' K M H Q }, ?_, rm, ⟨fun ρ M' σ H' x rs' rm' q' => ?_, fun d M' v H' x rm' rd' q' => q' v H' x rm' rd', fun _ _ _ _ _ _ _ z => z, fun _ _ _ _ _ _ _ z => z⟩, q⟩
      · refine ⟨by simp [start, startD, rs.length], fun j dd hj => ?_⟩
        unfold startD at hj
        unfold start
        by_cases hlt : j < ds.length
        · rw [List.getElem?_append_left (by simpa using hlt), List.getElem?_map] at hj
          cases e3 : ds[j]? with
          | none => rw [e3] at hj; cases hj
          | some z =>
            rw [e3] at hj; cases hj
            obtain ⟨v, hv, rv⟩ := rs.get e3
            refine ⟨v, ?_, rv⟩
            rw [List.getElem?_append_left (by rw [List.length_map, rs.length]; exact hlt), List.getElem?_map, hv]; rfl
        · rw [List.getElem?_append_right (by simpa using hlt), List.getElem?_replicate] at hj
          split at hj <;> cases hj
      · exact q' .non H' x rm' (RD.non_iff.mpr rfl)
/-- the law's promise -/
theorem law_sp {T : List FD} {k i : Nat} {H : Hp} {a : Addr} {ns : List Int} (hO : Only H) (hS : SqL K H a (ns.map V.int)) (h : phi T k i [.con (ns.map D.int)] (fun _ => none) fun d _ => d = .bl true) :
    lSp K (phi T k i) [.ref a] H (fun v _ => v = .bl true) fun _ _ _ => False := by
  have rm0 : RM K (fun _ => none) H := fun _ _ z => by cases z
  refine ⟨[.con (ns.map D.int)], fun _ => none, rm0, RDs.cons (RD.con_iff.mpr ⟨a, ns.map V.int, rfl, ?_, RDs.ints ns⟩) RDs.nil, mono_phi T k i [.con (ns.map D.int)] (fun _ => none) (fun d _ => d = .bl true) (KE' K (fun _ => none) H fun v _ => v = .bl true) (fun d M' e => fun v H' x rm rd => ?_) h⟩
  · rcases hS with (z | ⟨o, z⟩) | z
    · rcases hO a with q | ⟨o, xs, q⟩
      · rw [z] at q; cases q
      · rw [z] at q; cases q
    · exact .inl ⟨o, z⟩
    · exact .inr z
  · subst e
    exact RD.bl_iff.mp rd
end
end Mi
end L2
namespace L2
namespace Mi
open PySem PySem.Spec PyProof.Rows

/-! ### readings taken apart -/
theorem phi_at {T : List FD} {k f : Nat} {d : FD} {ds : List D} {M : Mem} {Q : QD} (e : T[f]? = some d) (l : ds.length = d.np) {ρ : EnvD} (r : startD d.N ds = ρ)
    (h : wSs (phi T k) d.body { nx := fun _ M' => Q .non M', rt := Q } ρ M) : phi T (k + 1) f ds M Q := ⟨d, e, l, by rw [r]; exact h⟩
theorem phi_pos {T : List FD} {n f : Nat} {d : FD} {ds : List D} {M : Mem} {Q : QD} (hn : 1 ≤ n) (e : T[f]? = some d) (l : ds.length = d.np) {ρ : EnvD} (r : startD d.N ds = ρ)
    (h : wSs (phi T (n - 1)) d.body { nx := fun _ M' => Q .non M', rt := Q } ρ M) : phi T n f ds M Q := by
  obtain ⟨k, rfl⟩ : ∃ k, n = k + 1 := ⟨n - 1, by omega⟩
  exact phi_at e l r h
theorem wSs_nil {Φ : Phi} {D : EndsD} {ρ : EnvD} {M : Mem} : wSs Φ .nil D ρ M = D.nx ρ M := by rw [wSs]; rfl
theorem wSs_cons {Φ : Phi} {s : MS} {r : MSs} {D : EndsD} {ρ : EnvD} {M : Mem} : wSs Φ (.cons s r) D ρ M = wS Φ s { D with nx := wSs Φ r D } ρ M := by rw [wSs]; rfl
theorem wIx_tup {ds : List D} {y : D} {M : Mem} {Q : QD} : wIx (.tup ds) y M Q = ∃ i d, y = .int i ∧ atI ds i = some d ∧ Q d M := rfl
theorem wIx_con {ds : List D} {y : D} {M : Mem} {Q : QD} : wIx (.con ds) y M Q = ∃ i d, y = .int i ∧ atI ds i = some d ∧ Q d M := rfl
theorem ix_lst {a : Addr} {i : Int} {ds : List D} {d : D} {M : Mem} {Q : QD} (h : M a = some (.lst ds)) (e : atI ds i = some d) (q : Q d M) : wIx (.ref a) (.int i) M Q := .inl ⟨ds, i, d, h, rfl, e, q⟩
theorem putI_lst {a : Addr} {i : Int} {ds : List D} {v : D} {j : Nat} {M : Mem} {Q : Mem → Prop} (h : M a = some (.lst ds)) (e : ixN ds.length i = some j) (q : Q (updM M a (.lst (ds.set j v)))) : wSetI (.ref a) (.int i) v M Q := ⟨a, rfl, .inl ⟨ds, i, j, rfl, h, e, q⟩⟩
theorem wInt_i {i : Int} {M : Mem} {Q : QD} : wInt [.int i] M Q = Q (.int i) M := by
  apply propext; constructor
  · rintro (⟨j, e, q⟩ | ⟨k, e, q⟩)
    · cases e; exact q
    · cases e
  · exact fun q => .inl ⟨i, rfl, q⟩
theorem wInt_b {b : Bool} {M : Mem} {Q : QD} : wInt [.bl b] M Q = Q (.int (if b then 1 else 0)) M := by
  apply propext; constructor
  · rintro (⟨j, e, q⟩ | ⟨k, e, q⟩)
    · cases e
    · cases e; exact q
  · exact fun q => .inr ⟨b, rfl, q⟩
theorem wEq_i {i j : Int} {M : Mem} {Q : QD} : wEq (.int i) (.int j) M Q = Q (.bl (i == j)) M := by
  simp [wEq, rb, PyData.eqv]
theorem wNe_i {i j : Int} {M : Mem} {Q : QD} : wNe (.int i) (.int j) M Q = Q (.bl (!(i == j))) M := by
  simp [wNe, rb, PyData.eqv]
theorem wAdd_i {i j : Int} {M : Mem} {Q : QD} : wAdd (.int i) (.int j) M Q = Q (.int (i + j)) M := rfl
theorem wAdd_t {a b : List D} {M : Mem} {Q : QD} : wAdd (.tup a) (.tup b) M Q = ((a ≠ [] ∨ True) ∧ a.length + b.length ≤ sizeLine ∧ Q (.tup (a ++ b)) M) := rfl
theorem wSub_i {i j : Int} {M : Mem} {Q : QD} : wSub (.int i) (.int j) M Q = Q (.int (i - j)) M := rfl
theorem wMul_i {i j : Int} {M : Mem} {Q : QD} : wMul (.int i) (.int j) M Q = (MulOk i j ∧ Q (.int (i * j)) M) := rfl
theorem wMul_t {ds : List D} {k : Int} {M : Mem} {Q : QD} : wMul (.tup ds) (.int k) M Q = (-(2 ^ 63) ≤ k ∧ k < 2 ^ 63 ∧ ds.length * k.toNat ≤ sizeLine ∧ Q (.tup (List.replicate k.toNat ds).flatten) M) := rfl
theorem wFdiv_i {i j : Int} {M : Mem} {Q : QD} : wFdiv (.int i) (.int j) M Q = (0 < j ∧ j < 2 ^ 256 ∧ Q (.int (i / j)) M) := rfl
theorem wMod_i {i j : Int} {M : Mem} {Q : QD} : wMod (.int i) (.int j) M Q = (0 < j ∧ Q (.int (i % j)) M) := rfl
theorem wPow_i {i j : Int} {M : Mem} {Q : QD} : wPow (.int i) (.int j) M Q = (0 ≤ j ∧ j ≤ 1000000 ∧ i.natAbs < 2 ^ 64 ∧ Q (.int (i ^ j.toNat)) M) := rfl
theorem wLt_i {i j : Int} {M : Mem} {Q : QD} : wLt (.int i) (.int j) M Q = Q (.bl (decide (i < j))) M := rfl
theorem wLe_i {i j : Int} {M : Mem} {Q : QD} : wLe (.int i) (.int j) M Q = Q (.bl (decide (i ≤ j))) M := rfl
theorem wGt_i {i j : Int} {M : Mem} {Q : QD} : wGt (.int i) (.int j) M Q = Q (.bl (decide (j < i))) M := rfl
theorem wGe_i {i j : Int} {M : Mem} {Q : QD} : wGe (.int i) (.int j) M Q = Q (.bl (decide (j ≤ i))) M := rfl
theorem wIAdd_i {i j : Int} {M : Mem} {Q : QD} : wIAdd (.int i) (.int j) M Q = Q (.int (i + j)) M := rfl
theorem wISub_i {i j : Int} {M : Mem} {Q : QD} : wISub (.int i) (.int j) M Q = Q (.int (i - j)) M := rfl
theorem wIMul_i {i j : Int} {M : Mem} {Q : QD} : wIMul (.int i) (.int j) M Q = (MulOk i j ∧ Q (.int (i * j)) M) := rfl
theorem wNeg_i {i : Int} {M : Mem} {Q : QD} : wNeg (.int i) M Q = Q (.int (-i)) M := rfl
theorem wAbs_i {i : Int} {M : Mem} {Q : QD} : wAbs [.int i] M Q = Q (.int (if i < 0 then -i else i)) M := by simp [wAbs]
theorem wMax2_i {i j : Int} {M : Mem} {Q : QD} : wMax2 [.int i, .int j] M Q = Q (.int (if j > i then j else i)) M := by
  apply propext; constructor
  · rintro ⟨a, b, e, q⟩; cases e; exact q
  · exact fun q => ⟨i, j, rfl, q⟩
theorem wMin2_i {i j : Int} {M : Mem} {Q : QD} : wMin2 [.int i, .int j] M Q = Q (.int (if j < i then j else i)) M := by
  apply propext; constructor
  · rintro ⟨a, b, e, q⟩; cases e; exact q
  · exact fun q => ⟨i, j, rfl, q⟩
theorem wLen_c {ds : List D} {M : Mem} {Q : QD} : wLen [.con ds] M Q = Q (.int ds.length) M := by simp [wLen, lenD]
theorem wLen_t {ds : List D} {M : Mem} {Q : QD} : wLen [.tup ds] M Q = Q (.int ds.length) M := by simp [wLen, lenD]
theorem seqD_t {ds : List D} {M : Mem} : seqD M (.tup ds) = some ds := rfl
theorem seqD_c {ds : List D} {M : Mem} : seqD M (.con ds) = some ds := rfl
theorem if_tt {α : Sort _} {a b : α} : (if true = true then a else b) = a := rfl
theorem if_ff {α : Sort _} {a b : α} : (if false = true then a else b) = b := rfl
theorem wZip_eq {ta tb : TEd} {ρ : EnvD} {M : Mem} {R : List D → (Mem → Prop) → Mem → Prop} : wZip ta tb ρ M R = ta ρ M fun x M1 => tb ρ M1 fun y M2 => ∃ xs ys, seqD M2 x = some xs ∧ seqD M2 y = some ys ∧ R (List.zipWith pairD xs ys) (fun M => seqD M x = some xs ∧ seqD M y = some ys) M2 := by
  unfold wZip wCons
  congr 1; funext x M1
  unfold wNil
  congr 1; funext y M2
  apply propext; constructor
  · rintro ⟨x', y', xs, ys, e, q⟩
    cases e; exact ⟨xs, ys, q⟩
  · rintro ⟨xs, ys, q⟩
    exact ⟨x, y, xs, ys, rfl, q⟩
local macro_rules | `(tactic| walk_at "wp") => `(tactic| simp only [wS, wE, wA, wAnds, wOrs, wO, wT, wAndTs, wOrTs, wTl, wI, wCl, wCmp, bG, bGs, opB, opC, opF, opM, opM0, opI, wVar, wC, wOp, wUn, wNil, wCons, wAr, wTst, rTup, rLst, wTru, wNotT, wAndT, wOrT, wAndV, wOrV, wNotV, wIf, wNoPart, wPart, wSl, wIsin, wLrev, wChain, wDnew, wBM, bName, bNil, bCons, bTup, wSeq, wZip_eq, wEnum, wRng1, wRng2, wEmit, wTests, wClause, wComp, inhD, sNext, sSeq, sBreak, sCont, sDrop, sRet, sIf, sAsg, sPar, sFor, sWhile, sPut, sAug, sAugI, wSs_nil,
  wAdd_i, wAdd_t, wSub_i, wMul_i, wMul_t, wFdiv_i, wMod_i, wPow_i, wLt_i, wLe_i, wGt_i, wGe_i, wIAdd_i, wISub_i, wIMul_i, wNeg_i, wInt_i, wInt_b, wEq_i, wNe_i, wAbs_i, wMax2_i, wMin2_i, wLen_c, wLen_t, seqD_t, seqD_c, wIx_tup, wIx_con, if_tt, if_ff, Bool.false_eq_true, if_false, if_true,
  List.getElem?_cons_zero, List.getElem?_cons_succ, List.set_cons_zero, List.set_cons_succ, Option.some.injEq, exists_eq_left', exists_eq_left, exists_eq_right, exists_and_left, exists_and_right, D.bl.injEq, D.int.injEq, D.ref.injEq, D.tup.injEq, Option.bind_some, Option.map_some, Option.join_some, Option.bind_none, Option.join_none, List.map_cons, List.map_nil, decide_eq_true_eq, List.cons.injEq, and_true, true_and, List.length_cons, List.length_nil])
local macro_rules | `(tactic| walk_at "st") => `(tactic| ((first | rw [wSs_cons] | (dsimp only; rw [wSs_cons])); walk_at "wp"))

def Ge (M M' : Mem) : Prop := ∀ a o, M a = some o → M' a = some o
theorem Ge.refl {M : Mem} : Ge M M := fun _ _ h => h
theorem Ge.trans {M M' M'' : Mem} (h : Ge M M') (g : Ge M' M'') : Ge M M'' := fun _ _ e => g _ _ (h _ _ e)
theorem Ge.new {M : Mem} {p : Addr} {o : O} (h : M p = none) : Ge M (updM M p o) := fun a o' e => by
  rw [updM_ne (fun z => by rw [z, h] at e; cases e)]; exact e
def Box (b : Addr) (M : Mem) : Prop := ∃ x y z : Int, M b = some (.lst [.int x, .int y, .int z])
/-- all but the box is kept -/
structure Bx (b : Addr) (M M' : Mem) : Prop where
  box : Box b M'
  keep : ∀ a o, a ≠ b → M a = some o → M' a = some o
theorem Bx.refl {b : Addr} {M : Mem} (h : Box b M) : Bx b M M := ⟨h, fun _ _ _ e => e⟩
theorem Bx.trans {b : Addr} {M M' M'' : Mem} (h : Bx b M M') (g : Bx b M' M'') : Bx b M M'' := ⟨g.box, fun a o n e => g.keep a o n (h.keep a o n e)⟩
theorem Bx.ge {b : Addr} {M M' M'' : Mem} (h : Bx b M M') (g : Ge M' M'') : Bx b M M'' := ⟨by obtain ⟨x, y, z, e⟩ := h.box; exact ⟨x, y, z, g _ _ e⟩, fun a o n e => g _ _ (h.keep a o n e)⟩
theorem Bx.put {b : Addr} {M : Mem} {x y z : Int} : Bx b M (updM M b (.lst [.int x, .int y, .int z])) := ⟨⟨x, y, z, updM_same⟩, fun a o n e => by rw [updM_ne n]; exact e⟩
theorem Bx.of {b : Addr} {M M' : Mem} (h : Box b M) (g : Ge M M') : Bx b M M' := (Bx.refl h).ge g

section
variable {T : List FD}
/-! ### what the laws draw with -/
def fdCell (s : Stmt) : FD := ⟨"_law_cell_at", s, ["_law_script", "_law_k"], 2,
    (.cons (.ite (.cmp .lt (.var 1) (.blt .len (.cons (.var 0) .nil))) (.cons (.ret (.ix (.var 0) (.var 1)))
    .nil) .nil)
    (.cons (.ret (.int 0))
    .nil))⟩
theorem atI_some {α : Type} {xs : List α} {i : Int} (h0 : 0 ≤ i) (h1 : i < xs.length) : ∃ x, atI xs i = some x ∧ xs[i.toNat]? = some x := by
  have : i.toNat < xs.length := by omega
  refine ⟨xs[i.toNat], ?_, List.getElem?_eq_getElem this⟩
  unfold atI ixN
  simp [h0, h1, List.getElem?_eq_getElem this]
theorem cell_ok {f : Nat} {s : Stmt} (hf : T[f]? = some (fdCell s)) {n : Nat} (hn : 1 ≤ n) {ns : List Int} {k : Int} {M : Mem} {Q : QD} (h0 : 0 ≤ k) (q : ∀ i, Q (.int i) M) : phi T n f [.con (ns.map D.int), .int k] M Q := by
  refine phi_pos hn hf rfl (ρ := [some _, some _]) rfl ?_
  unfold fdCell
  walk_at "st"
  split
  · next h =>
    walk_at "st"
    obtain ⟨x, e, e2⟩ := atI_some (xs := ns.map D.int) h0 h
    rw [List.getElem?_map] at e2
    cases e3 : ns[k.toNat]? with
    | none => rw [e3] at e2; cases e2
    | some y => rw [e3] at e2; cases e2; exact ⟨_, e, q y⟩
  · walk_at "st"
    exact q 0
theorem mulL {i j : Int} (h : -(2 ^ 64) < i ∧ i < 2 ^ 64) : MulOk i j := .inl h
theorem mulR {i j : Int} (h : -(2 ^ 64) < j ∧ j < 2 ^ 64) : MulOk i j := .inr (.inl h)
def fdMixed (s : Stmt) : FD := ⟨"_law_mixed", s, ["_law_number_here", "_law_k", "_law_once", "_law_twice"], 2,
    (.cons (.asg (.name 2) (.bin .mod (.bin .mul (.bin .add (.bin .add (.bin .mod (.var 0) (.int 1000000007)) (.bin .mul (.int 7) (.var 1))) (.int 1)) (.int 48271)) (.int 2147483647)))
    (.cons (.asg (.name 3) (.bin .mod (.bin .mul (.var 2) (.bin .add (.bin .add (.bin .mod (.var 2) (.int 1009)) (.var 1)) (.int 3))) (.int 998244353)))
    (.cons (.ret (.bin .fdiv (.bin .mod (.bin .add (.bin .mul (.var 3) (.int 39373)) (.var 2)) (.int 2147483629)) (.int 64)))
    .nil)))⟩
def fdBox (s : Stmt) (fc fm : Nat) : FD := ⟨"_law_box", s, ["_law_script", "_law_k", "_law_cell"], 2,
    (.cons (.asg (.name 2) (.call fc (.cons (.var 0) (.cons (.var 1) .nil))))
    (.cons (.ret (.lst (.cons (.bin .mul (.blt .abs (.cons (.var 2) .nil)) (.blt .int (.cons (.cmp .ge (.blt .abs (.cons (.var 2) .nil)) (.bin .pow (.int 10) (.int 18))) .nil))) (.cons (.call fm (.cons (.var 2) (.cons (.bin .add (.int 900) (.var 1)) .nil))) (.cons (.int 0) .nil)))))
    .nil))⟩
theorem box_ok {f fc fm : Nat} {s sc : Stmt} (hf : T[f]? = some (fdBox s fc fm)) (hfc : T[fc]? = some (fdCell sc)) {n : Nat} (hfm : ∀ {x k : Int} {M : Mem} {Q : QD}, (∀ i, Q (.int i) M) → phi T (n - 1) fm [.int x, .int k] M Q) (hn : 2 ≤ n) {ns : List Int} {k : Int} {M : Mem} {Q : QD} (h0 : 0 ≤ k)
    (q : ∀ p x y, M p = none → Q (.ref p) (updM M p (.lst [.int x, .int y, .int 0]))) : phi T n f [.con (ns.map D.int), .int k] M Q := by
  refine phi_pos (by omega) hf rfl (ρ := [some _, some _, none]) rfl ?_
  unfold fdBox
  walk_at "st"
  refine cell_ok hfc (by omega) h0 fun i => ?_
  walk_at "st"
  refine ⟨by decide, by decide, by decide, mulR ?_, ?_⟩
  · split <;> omega
  refine hfm fun j => ?_
  exact ⟨by rw [sizeLine_eq]; omega, fun p hp => q p _ _ hp⟩
def fdTake (s : Stmt) (fm : Nat) : FD := ⟨"_law_take", s, ["_law_box_here", "_law_many", "_law_found", "_law_reach"], 2,
    (.cons (.ite (.cmp .gt (.ix (.var 0) (.int 0)) (.int 0)) (.cons (.asg (.name 2) (.bin .mod (.ix (.var 0) (.int 0)) (.var 1)))
    (.cons (.put (.var 0) (.int 0) (.bin .fdiv (.ix (.var 0) (.int 0)) (.var 1)))
    (.cons (.ret (.var 2))
    .nil))) .nil)
    (.cons (.asg (.tup (.cons (.name 2) (.cons (.name 3) .nil))) (.tup (.cons (.int 0) (.cons (.int 1) .nil))))
    (.cons (.while (.cmp .lt (.var 3) (.var 1)) (.cons (.put (.var 0) (.int 2) (.bin .add (.ix (.var 0) (.int 2)) (.int 1)))
    (.cons (.asg (.name 2) (.bin .add (.bin .mul (.var 2) (.int 33554432)) (.call fm (.cons (.ix (.var 0) (.int 1)) (.cons (.ix (.var 0) (.int 2)) .nil)))))
    (.cons (.asg (.name 3) (.bin .mul (.var 3) (.int 33554432)))
    .nil))))
    (.cons (.ret (.bin .mod (.var 2) (.var 1)))
    .nil))))⟩
def MixOk (T : List FD) (n fm : Nat) : Prop := ∀ {x k : Int} {M : Mem} {Q : QD}, (∀ i, Q (.int i) M) → phi T n fm [.int x, .int k] M Q
theorem take_ok {f fm : Nat} {s : Stmt} (hf : T[f]? = some (fdTake s fm)) {n : Nat} (hfm : MixOk T (n - 1) fm) (hn : 2 ≤ n) {b : Addr} {m : Int} {M : Mem} {Q : QD} (hb : Box b M) (h1 : 0 < m) (h2 : m ≤ 2 ^ 100)
    (q : ∀ r M', 0 ≤ r → r < m → Bx b M M' → Q (.int r) M') : phi T n f [.ref b, .int m] M Q := by
  refine phi_pos (by omega) hf rfl (ρ := [some _, some _, none, none]) rfl ?_
  unfold fdTake
  obtain ⟨x, y, z, hM⟩ := hb
  walk_at "st"
  refine ix_lst hM (d := .int x) rfl ?_
  simp only [wGt_i]
  walk_at "wp"
  split
  · next hx =>
    walk_at "st"
    refine ix_lst hM (d := .int x) rfl ?_
    walk_at "wp"
    refine ⟨h1, ?_⟩
    walk_at "st"
    refine ix_lst hM (d := .int x) rfl ?_
    walk_at "wp"
    refine ⟨h1, by omega, ?_⟩
    refine putI_lst hM (j := 0) rfl ?_
    walk_at "st"
    exact q _ _ (Int.emod_nonneg _ (by omega)) (Int.emod_lt_of_pos _ h1) Bx.put
  · next hx =>
    walk_at "st"
    refine ⟨by rw [sizeLine_eq]; omega, ?_⟩
    walk_at "st"
    refine ⟨5, ?_⟩
    have go : ∀ (f : Nat) (found reach z : Int) (M' : Mem), m ≤ reach * 33554432 ^ f → M' b = some (.lst [.int x, .int y, .int z]) → Bx b M M' →
        whileD (wTst (wOp wLt (wVar 3) (wVar 1))) (wSs (phi T (n - 1)) (MSs.cons (MS.put (ME.var 0) (ME.int 2) (ME.bin BOp.add ((ME.var 0).ix (ME.int 2)) (ME.int 1)))
          (MSs.cons (MS.asg (MG.name 2) (ME.bin BOp.add (ME.bin BOp.mul (ME.var 2) (ME.int 33554432)) (ME.call fm (MEs.cons ((ME.var 0).ix (ME.int 1)) (MEs.cons ((ME.var 0).ix (ME.int 2)) MEs.nil)))))
            (MSs.cons (MS.asg (MG.name 3) (ME.bin BOp.mul (ME.var 3) (ME.int 33554432))) MSs.nil))))
          { nx := wSs (phi T (n - 1)) (MSs.cons (MS.ret (ME.bin BOp.mod (ME.var 2) (ME.var 1))) MSs.nil) { nx := fun x M' => Q D.non M', rt := Q }, rt := Q } (f + 1) [some (.ref b), some (.int m), some (.int found), some (.int reach)] M' := by
      intro f
      induction f with
      | zero =>
        intro found reach z M' hm hM' hx'
        simp only [whileD]
        walk_at "wp"
        rw [if_neg (by omega)]
        walk_at "st"
        exact ⟨h1, q _ _ (Int.emod_nonneg _ (by omega)) (Int.emod_lt_of_pos _ h1) hx'⟩
      | succ f ih =>
        intro found reach z M' hm hM' hx'
        rw [whileD]
        walk_at "wp"
        split
        · next hr =>
          walk_at "st"
          refine ix_lst hM' (d := .int z) rfl ?_
          walk_at "wp"
          refine putI_lst hM' (j := 2) rfl ?_
          walk_at "st"
          refine ⟨mulR (by decide), ?_⟩
          refine ix_lst updM_same (d := .int y) rfl ?_
          refine ix_lst updM_same (d := .int (z + 1)) rfl ?_
          refine hfm fun i => ?_
          walk_at "wp"
          walk_at "st"
          refine ⟨mulR (by decide), ?_⟩
          exact ih _ _ (z + 1) _ (by rw [Int.mul_assoc, ← Int.pow_succ']; exact hm) updM_same (hx'.trans Bx.put)
        · walk_at "st"
          exact ⟨h1, q _ _ (Int.emod_nonneg _ (by omega)) (Int.emod_lt_of_pos _ h1) hx'⟩
    exact go 4 0 1 z M (by omega) hM (Bx.refl ⟨x, y, z, hM⟩)
/-- drawing below m -/
def TakeOk (T : List FD) (n f : Nat) : Prop := ∀ {b : Addr} {m : Int} {M : Mem} {Q : QD}, Box b M → 0 < m → m ≤ 2 ^ 100 → (∀ r M', 0 ≤ r → r < m → Bx b M M' → Q (.int r) M') → phi T n f [.ref b, .int m] M Q
end
section
variable {T : List FD}
theorem cut_rest {Φ : Phi} {s : MS} {r : MSs} {E : EndsD} {ρ : EnvD} {M : Mem} (I : EnvD → Mem → Prop) (h1 : ∀ R : EnvD → Mem → Prop, (∀ ρ M, I ρ M → R ρ M) → wS Φ s { E with nx := R } ρ M) (h2 : ∀ ρ M, I ρ M → wSs Φ r E ρ M) : wSs Φ (.cons s r) E ρ M := by
  rw [wSs_cons]; exact h1 _ h2
theorem Bx.upd {b q : Addr} {M M' : Mem} {o : O} (h : Bx b M M') (hq : M q = none) (hqb : q ≠ b) : Bx b M (updM M' q o) :=
  ⟨by obtain ⟨x, y, z, e⟩ := h.box; exact ⟨x, y, z, by rw [updM_ne hqb.symm]; exact e⟩, fun u o' nu eu => by
    rw [updM_ne (fun z => by rw [z, hq] at eu; cases eu)]; exact h.keep u o' nu eu⟩
theorem Bx.none {b q : Addr} {M M' : Mem} (h : Bx b M M') (hq : M' q = none) (hqb : q ≠ b) : M q = none := by
  cases e : M q with
  | none => rfl
  | some o => rw [h.keep q o hqb e] at hq; cases hq
end
section
theorem forD_map {α : Type} {f : α → D} {b : BT} {tb : TSd} {chk : Mem → Prop} {E : EndsD} (I : List α → EnvD → Mem → Prop) {ys : List α} {xs : List D} (hx : xs = ys.map f) {ρ : EnvD} {M : Mem}
    (h0 : I [] ρ M)
    (hc : ∀ l ρ M, I l ρ M → chk M)
    (hs : ∀ l x r ρ M, ys = l ++ x :: r → I l ρ M → ∃ ρ', b (f x) ρ = some ρ' ∧ ∀ F : EnvD → Mem → Prop, (∀ ρ2 M2, I (l ++ [x]) ρ2 M2 → F ρ2 M2) → tb { E with nx := F, ct := F, bk := E.nx } ρ' M)
    (hN : ∀ ρ M, I ys ρ M → E.nx ρ M) : forD b tb chk E xs ρ M := by
  subst hx
  have g : ∀ (r l : List α) (ρ : EnvD) (M : Mem), ys = l ++ r → I l ρ M → forD b tb chk E (r.map f) ρ M := by
    intro r
    induction r with
    | nil => intro l ρ M e i; rw [List.append_nil] at e; subst e; exact ⟨hc _ _ _ i, hN _ _ i⟩
    | cons x r ih =>
      intro l ρ M e i
      obtain ⟨ρ', e1, h⟩ := hs l x r ρ M e i
      exact ⟨hc _ _ _ i, ρ', e1, h _ fun ρ2 M2 i2 => ih (l ++ [x]) ρ2 M2 (by rw [e]; simp) i2⟩
  exact g ys [] ρ M rfl h0
theorem rangeD_map {n : Nat} : rangeD 0 n = (List.range n).map fun i => D.int (i : Nat) := by simp [rangeD]
end
section
variable {T : List FD}
end
section
variable {T : List FD}
/-- mixed, whatever its first argument is called -/
def fdMixedN (x : Str) (s : Stmt) : FD := ⟨"_law_mixed", s, [x, "_law_k", "_law_once", "_law_twice"], 2, (fdMixed s).body⟩
theorem mixed_okN {f : Nat} {x : Str} {s : Stmt} (hf : T[f]? = some (fdMixedN x s)) {n : Nat} (hn : 1 ≤ n) : MixOk T n f := by
  intro x k M Q q
  refine phi_pos hn hf rfl (ρ := [some _, some _, none, none]) rfl ?_
  unfold fdMixedN fdMixed
  walk_at "st"
  refine ⟨by decide, mulL (by decide), mulR (by decide), by decide, ?_⟩
  walk_at "st"
  refine ⟨by decide, mulL ?_, by decide, ?_⟩
  · have h1 := Int.emod_nonneg ((x % 1000000007 + 7 * k + 1) * 48271) (b := 2147483647) (by decide)
    have h2 := Int.emod_lt_of_pos ((x % 1000000007 + 7 * k + 1) * 48271) (b := 2147483647) (by decide)
    omega
  walk_at "st"
  refine ⟨mulR (by decide), by decide, by decide, by decide, ?_⟩
  exact q _
end
section
namespace K48
-- bad: []
def stAt (i : Nat) : Stmt := PySem.Challenge.pw_fewtimes_k48_how_many_multiplyings.main.body.getD i (.Pass ⟨0, 0, 0, 0⟩)
/-- block_length -/
def b0 : MSs :=
    (.cons (.ret (.bin .fdiv (.bin .sub (.bin .add (.var 0) (.var 1)) (.int 1)) (.var 1)))
    .nil)
def d0 : FD := ⟨"block_length", stAt 1, ["length", "n"], 2, b0⟩
/-- times_for -/
def b1 : MSs :=
    (.cons (.asg (.name 3) (.int 1))
    (.cons (.while (.cmp .gt (.var 2) (.int 1)) (.cons (.asg (.name 3) (.bin .mul (.var 3) (.var 0)))
    (.cons (.asg (.name 2) (.call 0 (.cons (.var 2) (.cons (.var 1) .nil))))
    .nil)))
    (.cons (.ret (.var 3))
    .nil)))
def d1 : FD := ⟨"times_for", stAt 2, ["products", "n", "length", "count"], 3, b1⟩
/-- _law_cell_at -/
def b2 : MSs :=
    (.cons (.ite (.cmp .lt (.var 1) (.blt .len (.cons (.var 0) .nil))) (.cons (.ret (.ix (.var 0) (.var 1)))
    .nil) .nil)
    (.cons (.ret (.int 0))
    .nil))
def d2 : FD := ⟨"_law_cell_at", stAt 4, ["_law_script", "_law_k"], 2, b2⟩
/-- _law_mixed -/
def b3 : MSs :=
    (.cons (.asg (.name 2) (.bin .mod (.bin .mul (.bin .add (.bin .add (.bin .mod (.var 0) (.int 1000000007)) (.bin .mul (.int 7) (.var 1))) (.int 1)) (.int 48271)) (.int 2147483647)))
    (.cons (.asg (.name 3) (.bin .mod (.bin .mul (.var 2) (.bin .add (.bin .add (.bin .mod (.var 2) (.int 1009)) (.var 1)) (.int 3))) (.int 998244353)))
    (.cons (.ret (.bin .fdiv (.bin .mod (.bin .add (.bin .mul (.var 3) (.int 39373)) (.var 2)) (.int 2147483629)) (.int 64)))
    .nil)))
def d3 : FD := ⟨"_law_mixed", stAt 5, ["_law_number", "_law_k", "_law_once", "_law_twice"], 2, b3⟩
/-- _law_box -/
def b4 : MSs :=
    (.cons (.asg (.name 2) (.call 2 (.cons (.var 0) (.cons (.var 1) .nil))))
    (.cons (.ret (.lst (.cons (.bin .mul (.blt .abs (.cons (.var 2) .nil)) (.blt .int (.cons (.cmp .ge (.blt .abs (.cons (.var 2) .nil)) (.bin .pow (.int 10) (.int 18))) .nil))) (.cons (.call 3 (.cons (.var 2) (.cons (.bin .add (.int 900) (.var 1)) .nil))) (.cons (.int 0) .nil)))))
    .nil))
def d4 : FD := ⟨"_law_box", stAt 6, ["_law_script", "_law_k", "_law_cell"], 2, b4⟩
/-- _law_take -/
def b5 : MSs :=
    (.cons (.ite (.cmp .gt (.ix (.var 0) (.int 0)) (.int 0)) (.cons (.asg (.name 2) (.bin .mod (.ix (.var 0) (.int 0)) (.var 1)))
    (.cons (.put (.var 0) (.int 0) (.bin .fdiv (.ix (.var 0) (.int 0)) (.var 1)))
    (.cons (.ret (.var 2))
    .nil))) .nil)
    (.cons (.asg (.tup (.cons (.name 2) (.cons (.name 3) .nil))) (.tup (.cons (.int 0) (.cons (.int 1) .nil))))
    (.cons (.while (.cmp .lt (.var 3) (.var 1)) (.cons (.put (.var 0) (.int 2) (.bin .add (.ix (.var 0) (.int 2)) (.int 1)))
    (.cons (.asg (.name 2) (.bin .add (.bin .mul (.var 2) (.int 33554432)) (.call 3 (.cons (.ix (.var 0) (.int 1)) (.cons (.ix (.var 0) (.int 2)) .nil)))))
    (.cons (.asg (.name 3) (.bin .mul (.var 3) (.int 33554432)))
    .nil))))
    (.cons (.ret (.bin .mod (.var 2) (.var 1)))
    .nil))))
def d5 : FD := ⟨"_law_take", stAt 7, ["_law_box_here", "_law_many", "_law_found", "_law_reach"], 2, b5⟩
/-- _law_times -/
def b6 : MSs :=
    (.cons (.asg (.name 3) (.int 1))
    (.cons (.while (.cmp .gt (.var 2) (.int 1)) (.cons (.asg (.name 3) (.bin .mul (.var 3) (.var 0)))
    (.cons (.asg (.name 2) (.bin .add (.bin .fdiv (.var 2) (.var 1)) (.blt .int (.cons (.cmp .gt (.bin .mod (.var 2) (.var 1)) (.int 0)) .nil))))
    .nil)))
    (.cons (.ret (.var 3))
    .nil)))
def d6 : FD := ⟨"_law_times", stAt 8, ["_law_many", "_law_n", "_law_length", "_law_total"], 3, b6⟩
/-- law -/
def b7 : MSs :=
    (.cons (.for (.name 1) (.rng1 (.blt .max2 (.cons (.int 6) (.cons (.blt .min2 (.cons (.blt .len (.cons (.var 0) .nil)) (.cons (.int 40) .nil))) .nil)))) (.cons (.asg (.name 2) (.call 4 (.cons (.var 0) (.cons (.var 1) .nil))))
    (.cons (.asg (.name 3) (.ix (.lst (.cons (.int 1) (.cons (.int 3) (.cons (.int 7) (.cons (.int 400) (.cons (.bin .add (.int 1) (.call 5 (.cons (.var 2) (.cons (.int 400) .nil)))) (.cons (.bin .add (.int 1) (.call 5 (.cons (.var 2) (.cons (.int 12) .nil)))) .nil))))))) (.call 5 (.cons (.var 2) (.cons (.int 6) .nil)))))
    (.cons (.asg (.name 4) (.ix (.lst (.cons (.int 2) (.cons (.int 3) (.cons (.int 81) (.cons (.bin .add (.int 2) (.call 5 (.cons (.var 2) (.cons (.int 80) .nil)))) .nil))))) (.call 5 (.cons (.var 2) (.cons (.int 4) .nil)))))
    (.cons (.asg (.name 5) (.bin .add (.int 1) (.call 5 (.cons (.var 2) (.cons (.ix (.lst (.cons (.bin .pow (.int 10) (.int 6)) (.cons (.int 100) (.cons (.int 12) .nil)))) (.call 5 (.cons (.var 2) (.cons (.int 3) .nil)))) .nil)))))
    (.cons (.ite (.cmp .eq (.call 5 (.cons (.var 2) (.cons (.int 3) .nil))) (.int 0)) (.cons (.asg (.name 5) (.int 1))
    (.cons (.for (.name 6) (.rng1 (.call 5 (.cons (.var 2) (.cons (.int 19) .nil)))) (.cons (.asg (.name 5) (.ix (.lst (.cons (.bin .mul (.var 5) (.var 4)) (.cons (.var 5) .nil))) (.blt .int (.cons (.cmp .gt (.bin .mul (.var 5) (.var 4)) (.int 999999)) .nil))))
    .nil))
    (.cons (.asg (.name 5) (.blt .max2 (.cons (.int 1) (.cons (.bin .sub (.bin .add (.var 5) (.call 5 (.cons (.var 2) (.cons (.int 3) .nil)))) (.int 1)) .nil))))
    .nil))) .nil)
    (.cons (.asg (.name 7) (.call 1 (.cons (.var 3) (.cons (.var 4) (.cons (.var 5) .nil)))))
    (.cons (.ite (.or (.cons (.not (.tru (.isin (.var 7) "int"))) (.cons (.tru (.isin (.var 7) "bool")) (.cons (.cmp .ne (.var 7) (.call 6 (.cons (.var 3) (.cons (.var 4) (.cons (.var 5) .nil))))) .nil)))) (.cons (.ret (.bl false))
    .nil) .nil)
    .nil))))))))
    (.cons (.ret (.bl true))
    .nil))
def d7 : FD := ⟨"law", stAt 9, ["_law_script", "_law_k", "_law_box_here", "_law_many", "_law_n", "_law_length", "_law_turn", "_law_found"], 1, b7⟩
def tab : List FD := [d0, d1, d2, d3, d4, d5, d6, d7]
def consts : List (Str × Int) := []

end K48
end
section
namespace K48
theorem ok_all : ∀ d ∈ tab, fdOk (tab.map (·.name)) consts d = true := by decide +kernel
theorem all_mk {l : PySem.W.OpenLaw} {w : World} {K : PySem.W.Frag} {h : Heap} {mg : Str → Option Value} {fa f0 f1 f2 f3 f4 f5 f6 f7 : Addr} (X : K.In h) (G : h.Ns mainGlobals mg) (hfa : mg "law" = some (.ref fa))
    {od0 an0 od1 an1 od2 an2 od3 an3 od4 an4 od5 an5 od6 an6 od7 an7 : Option Addr} {sl0 sl1 sl2 sl3 sl4 sl5 sl6 sl7 : Array (Option Value)} {oc0 kV0 dc0 pm0 cd0 ct0 oc1 kV1 dc1 pm1 cd1 ct1 oc2 kV2 dc2 pm2 cd2 ct2 oc3 kV3 dc3 pm3 cd3 ct3 oc4 kV4 dc4 pm4 cd4 ct4 oc5 kV5 dc5 pm5 cd5 ct5 oc6 kV6 dc6 pm6 cd6 ct6 oc7 kV7 dc7 pm7 cd7 ct7 : Value}
    (a0 : PySem.W.nsIn K mainGlobals "block_length" = some (some (.ref f0))) (l0 : K.lookup f0 = some ⟨oc0, od0, .func (PySem.W.fnOf "block_length" "block_length" (defArgs (stAt 1)) (defBody (stAt 1)) (defScope (stAt 1)) .none kV0 dc0 pm0 an0 cd0 ct0), sl0⟩) (c0 : PySem.W.codeIn K cd0 "block_length" = true) (k0 : PySem.W.keepIn K (.ref f0) = true)
    (a1 : PySem.W.nsIn K mainGlobals "times_for" = some (some (.ref f1))) (l1 : K.lookup f1 = some ⟨oc1, od1, .func (PySem.W.fnOf "times_for" "times_for" (defArgs (stAt 2)) (defBody (stAt 2)) (defScope (stAt 2)) .none kV1 dc1 pm1 an1 cd1 ct1), sl1⟩) (c1 : PySem.W.codeIn K cd1 "times_for" = true) (k1 : PySem.W.keepIn K (.ref f1) = true)
    (a2 : PySem.W.nsIn K mainGlobals "_law_cell_at" = some (some (.ref f2))) (l2 : K.lookup f2 = some ⟨oc2, od2, .func (PySem.W.fnOf "_law_cell_at" "_law_cell_at" (defArgs (stAt 4)) (defBody (stAt 4)) (defScope (stAt 4)) .none kV2 dc2 pm2 an2 cd2 ct2), sl2⟩) (c2 : PySem.W.codeIn K cd2 "_law_cell_at" = true) (k2 : PySem.W.keepIn K (.ref f2) = true)
    (a3 : PySem.W.nsIn K mainGlobals "_law_mixed" = some (some (.ref f3))) (l3 : K.lookup f3 = some ⟨oc3, od3, .func (PySem.W.fnOf "_law_mixed" "_law_mixed" (defArgs (stAt 5)) (defBody (stAt 5)) (defScope (stAt 5)) .none kV3 dc3 pm3 an3 cd3 ct3), sl3⟩) (c3 : PySem.W.codeIn K cd3 "_law_mixed" = true) (k3 : PySem.W.keepIn K (.ref f3) = true)
    (a4 : PySem.W.nsIn K mainGlobals "_law_box" = some (some (.ref f4))) (l4 : K.lookup f4 = some ⟨oc4, od4, .func (PySem.W.fnOf "_law_box" "_law_box" (defArgs (stAt 6)) (defBody (stAt 6)) (defScope (stAt 6)) .none kV4 dc4 pm4 an4 cd4 ct4), sl4⟩) (c4 : PySem.W.codeIn K cd4 "_law_box" = true) (k4 : PySem.W.keepIn K (.ref f4) = true)
    (a5 : PySem.W.nsIn K mainGlobals "_law_take" = some (some (.ref f5))) (l5 : K.lookup f5 = some ⟨oc5, od5, .func (PySem.W.fnOf "_law_take" "_law_take" (defArgs (stAt 7)) (defBody (stAt 7)) (defScope (stAt 7)) .none kV5 dc5 pm5 an5 cd5 ct5), sl5⟩) (c5 : PySem.W.codeIn K cd5 "_law_take" = true) (k5 : PySem.W.keepIn K (.ref f5) = true)
    (a6 : PySem.W.nsIn K mainGlobals "_law_times" = some (some (.ref f6))) (l6 : K.lookup f6 = some ⟨oc6, od6, .func (PySem.W.fnOf "_law_times" "_law_times" (defArgs (stAt 8)) (defBody (stAt 8)) (defScope (stAt 8)) .none kV6 dc6 pm6 an6 cd6 ct6), sl6⟩) (c6 : PySem.W.codeIn K cd6 "_law_times" = true) (k6 : PySem.W.keepIn K (.ref f6) = true)
    (a7 : PySem.W.nsIn K mainGlobals "law" = some (some (.ref f7))) (l7 : K.lookup f7 = some ⟨oc7, od7, .func (PySem.W.fnOf "law" "law" (defArgs (stAt 9)) (defBody (stAt 9)) (defScope (stAt 9)) .none kV7 dc7 pm7 an7 cd7 ct7), sl7⟩) (c7 : PySem.W.codeIn K cd7 "law" = true) (k7 : PySem.W.keepIn K (.ref f7) = true)
    (z0 : PySem.W.nsIn K mainGlobals "len" = some none) (z1 : PySem.W.nsIn K mainGlobals "abs" = some none) (z2 : PySem.W.nsIn K mainGlobals "max" = some none) (z3 : PySem.W.nsIn K mainGlobals "min" = some none) (z4 : PySem.W.nsIn K mainGlobals "int" = some none) (z5 : PySem.W.nsIn K mainGlobals "list" = some none) (z6 : PySem.W.nsIn K mainGlobals "tuple" = some none) (z7 : PySem.W.nsIn K mainGlobals "sum" = some none) (z8 : PySem.W.nsIn K mainGlobals "isinstance" = some none) (z9 : PySem.W.nsIn K mainGlobals "range" = some none) (z10 : PySem.W.nsIn K mainGlobals "bool" = some none) (z11 : PySem.W.nsIn K mainGlobals "str" = some none) (z12 : PySem.W.nsIn K mainGlobals "dict" = some none) (z13 : PySem.W.nsIn K mainGlobals "zip" = some none) (z14 : PySem.W.nsIn K mainGlobals "enumerate" = some none) (z15 : PySem.W.nsIn K mainGlobals "reversed" = some none) (z16 : PySem.W.nsIn K mainGlobals "sorted" = some none) (z17 : PySem.W.nsIn K mainGlobals "all" = some none) (z18 : PySem.W.nsIn K mainGlobals "any" = some none) (z19 : PySem.W.nsIn K mainGlobals "set" = some none) :
    ∃ fd : FuncData, (∀ (s : Shared) (v : Value), BindsTo s fd ⟨[v], []⟩ [("_law_script", v)]) ∧ ∀ base : Heap, K.In base → base.Ns mainGlobals mg → FnOk l.prog w K mg base CX0 40 fa fd ["_law_script"] (lSp K (phi tab 40 7)) := by
  have e := hfa.symm.trans (PySem.W.mg_of X G a7)
  cases e
  have F0 := fun_mk (st := stAt 1) l0 c0 k0
  have b0 := F0.binds (ps := ["length", "n"]) fun _ _ _ _ _ _ us hl => match us, hl with | [_, _], _ => rfl
  have F1 := fun_mk (st := stAt 2) l1 c1 k1
  have b1 := F1.binds (ps := ["products", "n", "length"]) fun _ _ _ _ _ _ us hl => match us, hl with | [_, _, _], _ => rfl
  have F2 := fun_mk (st := stAt 4) l2 c2 k2
  have b2 := F2.binds (ps := ["_law_script", "_law_k"]) fun _ _ _ _ _ _ us hl => match us, hl with | [_, _], _ => rfl
  have F3 := fun_mk (st := stAt 5) l3 c3 k3
  have b3 := F3.binds (ps := ["_law_number", "_law_k"]) fun _ _ _ _ _ _ us hl => match us, hl with | [_, _], _ => rfl
  have F4 := fun_mk (st := stAt 6) l4 c4 k4
  have b4 := F4.binds (ps := ["_law_script", "_law_k"]) fun _ _ _ _ _ _ us hl => match us, hl with | [_, _], _ => rfl
  have F5 := fun_mk (st := stAt 7) l5 c5 k5
  have b5 := F5.binds (ps := ["_law_box_here", "_law_many"]) fun _ _ _ _ _ _ us hl => match us, hl with | [_, _], _ => rfl
  have F6 := fun_mk (st := stAt 8) l6 c6 k6
  have b6 := F6.binds (ps := ["_law_many", "_law_n", "_law_length"]) fun _ _ _ _ _ _ us hl => match us, hl with | [_, _, _], _ => rfl
  have F7 := fun_mk (st := stAt 9) l7 c7 k7
  have b7 := F7.binds (ps := ["_law_script"]) fun _ _ _ _ _ _ us hl => match us, hl with | [_], _ => rfl
  have O : TabOk K mg tab consts := by
    refine ⟨?_, ?_, ok_all, ?_⟩
    · intro x hx
      simp only [bltNames, List.mem_cons, List.not_mem_nil, or_false] at hx
      rcases hx with rfl | rfl | rfl | rfl | rfl | rfl | rfl | rfl | rfl | rfl | rfl | rfl | rfl | rfl | rfl | rfl | rfl | rfl | rfl | rfl
      · exact PySem.W.mg_none_of X G z0
      · exact PySem.W.mg_none_of X G z1
      · exact PySem.W.mg_none_of X G z2
      · exact PySem.W.mg_none_of X G z3
      · exact PySem.W.mg_none_of X G z4
      · exact PySem.W.mg_none_of X G z5
      · exact PySem.W.mg_none_of X G z6
      · exact PySem.W.mg_none_of X G z7
      · exact PySem.W.mg_none_of X G z8
      · exact PySem.W.mg_none_of X G z9
      · exact PySem.W.mg_none_of X G z10
      · exact PySem.W.mg_none_of X G z11
      · exact PySem.W.mg_none_of X G z12
      · exact PySem.W.mg_none_of X G z13
      · exact PySem.W.mg_none_of X G z14
      · exact PySem.W.mg_none_of X G z15
      · exact PySem.W.mg_none_of X G z16
      · exact PySem.W.mg_none_of X G z17
      · exact PySem.W.mg_none_of X G z18
      · exact PySem.W.mg_none_of X G z19
    · intro i d hd
      match i, hd with
      | 0, hd => cases hd; exact ⟨_, _, F0, PySem.W.mg_of X G a0, b0⟩
      | 1, hd => cases hd; exact ⟨_, _, F1, PySem.W.mg_of X G a1, b1⟩
      | 2, hd => cases hd; exact ⟨_, _, F2, PySem.W.mg_of X G a2, b2⟩
      | 3, hd => cases hd; exact ⟨_, _, F3, PySem.W.mg_of X G a3, b3⟩
      | 4, hd => cases hd; exact ⟨_, _, F4, PySem.W.mg_of X G a4, b4⟩
      | 5, hd => cases hd; exact ⟨_, _, F5, PySem.W.mg_of X G a5, b5⟩
      | 6, hd => cases hd; exact ⟨_, _, F6, PySem.W.mg_of X G a6, b6⟩
      | 7, hd => cases hd; exact ⟨_, _, F7, PySem.W.mg_of X G a7, b7⟩
      | i + 8, hd => simp [tab] at hd
    · intro x i hx
      simp only [consts, List.mem_cons, List.not_mem_nil, or_false, Prod.mk.injEq] at hx
  refine ⟨PySem.W.fnOf "law" "law" (defArgs (stAt 9)) (defBody (stAt 9)) (defScope (stAt 9)) .none kV7 dc7 pm7 an7 cd7 ct7, fun s v => .of_eq rfl, fun base _ _ => ?_⟩
  exact fn_all O 40 7 d7 _ _ rfl F7
theorem walk {l : PySem.W.OpenLaw} {q : Program} {loose : List Str} {XP : (Str → Option Value) → Heap → Prop} {YP : World → Heap → Prop} {d : DefRec} {K : Params → PySem.W.Frag} (hn : l.most = some 63) (hdf : d.params.defaults = [])
    (hlaw : ∀ ns : List Int, ns.length ≤ 63 → phi tab 40 7 [.con (ns.map D.int)] (fun _ => none) fun d _ => d = .bl true)
    (hY : ∀ (w : World) (h : Heap), YP w h → (K w.params).In h)
    (F : ∀ (w : World) (mg : Str → Option Value) (fa : Addr) (h : Heap), (K w.params).In h → h.Ns mainGlobals mg → mg d.name = some (.ref fa) →
      ∃ fd : FuncData, (∀ (s : Shared) (u : Value), BindsTo s fd ⟨[u], []⟩ [("_law_script", u)]) ∧ ∀ base : Heap, (K w.params).In base → base.Ns mainGlobals mg → FnOk l.prog w (K w.params) mg base CX0 40 fa fd ["_law_script"] (lSp (K w.params) (phi tab 40 7))) :
    PySem.W.WalkO q loose XP YP l.row.toRowW d [] (fun f vs => PySem.call f vs) :=
  L2.walk_of (n := 63) (k := 40) (x := "_law_script") (CX := fun _ => CX0) (sp := fun w => lSp (K w.params) (phi tab 40 7)) hn (by decide) hdf ⟨rfl, by decide, by decide⟩ hY F (fun w H a ns hl hO hS => law_sp hO hS (hlaw ns hl)) fun _ _ _ _ _ z => z

end K48
end
section
namespace K48
/-- the count, by so many turns at most -/
def run (m n : Int) : Nat → Int → Int → Int
  | 0, c, _ => c
  | f + 1, c, l => if 1 < l then run m n f (c * m) ((l + n - 1) / n) else c
theorem mix_all {n : Nat} (hn : 1 ≤ n) : MixOk tab n 3 := mixed_okN (x := "_law_number") (s := stAt 5) rfl hn
theorem take_all {n : Nat} (hn : 2 ≤ n) : TakeOk tab n 5 := fun hb h1 h2 q => take_ok (s := stAt 7) (fm := 3) rfl (mix_all (by omega)) hn hb h1 h2 q
theorem block {n : Nat} (hn : 1 ≤ n) {l k : Int} (h0 : 0 < k) (h1 : k < 1000) {M : Mem} {Q : QD} (q : Q (.int ((l + k - 1) / k)) M) : phi tab n 0 [.int l, .int k] M Q := by
  refine phi_pos hn rfl rfl (ρ := [some _, some _]) rfl ?_
  unfold d0 b0
  walk_at "st"
  exact ⟨h0, by omega, q⟩
theorem half {l k : Int} (h1 : 1 < l) (h2 : 2 ≤ k) {f : Nat} (hf : l ≤ 2 ^ (f + 1)) : 1 ≤ (l + k - 1) / k ∧ (l + k - 1) / k ≤ 2 ^ f := by
  constructor
  · rw [Int.le_ediv_iff_mul_le (by omega)]; omega
  · apply Int.le_of_lt_add_one
    rw [Int.ediv_lt_iff_lt_mul (by omega)]
    have hp : (1 : Int) ≤ 2 ^ f := Int.pow_pos (by decide)
    have e : (2 : Int) ^ (f + 1) = 2 * 2 ^ f := by rw [Int.pow_succ]; omega
    rw [e] at hf
    generalize (2 : Int) ^ f = P at hp hf
    have e2 : (P + 1) * k = (P + 1) * (k - 2) + 2 * (P + 1) := by
      rw [Int.mul_sub]; omega
    have e3 : 2 * (k - 2) ≤ (P + 1) * (k - 2) := Int.mul_le_mul_of_nonneg_right (by omega) (by omega)
    omega
theorem timesfor {n : Nat} (hn : 2 ≤ n) {m k l : Int} (m0 : 0 ≤ m) (m1 : m ≤ 400) (h0 : 2 ≤ k) (h1 : k < 1000) (hl : l ≤ 2 ^ 20) {M : Mem} {Q : QD} (q : Q (.int (run m k 20 1 l)) M) : phi tab n 1 [.int m, .int k, .int l] M Q := by
  refine phi_pos (by omega) rfl rfl (ρ := [some _, some _, some _, none]) rfl ?_
  unfold d1 b1
  walk_at "st"
  walk_at "st"
  refine ⟨21, ?_⟩
  have go : ∀ (f : Nat) (c l : Int), l ≤ 2 ^ f → Q (.int (run m k f c l)) M →
      whileD (wTst (wOp wGt (wVar 2) (wC (D.int 1)))) (wSs (phi tab (n - 1)) (MSs.cons (MS.asg (MG.name 3) (ME.bin BOp.mul (ME.var 3) (ME.var 0))) (MSs.cons (MS.asg (MG.name 2) (ME.call 0 (MEs.cons (ME.var 2) (MEs.cons (ME.var 1) MEs.nil)))) MSs.nil)))
        { nx := wSs (phi tab (n - 1)) (MSs.cons (MS.ret (ME.var 3)) MSs.nil) { nx := fun x M' => Q D.non M', rt := Q }, rt := Q } (f + 1) [some (.int m), some (.int k), some (.int l), some (.int c)] M := by
    intro f
    induction f with
    | zero =>
      intro c l hf hq
      rw [whileD]
      walk_at "wp"
      rw [if_neg (by simp at hf; omega)]
      walk_at "st"
      exact hq
    | succ f ih =>
      intro c l hf hq
      rw [whileD]
      walk_at "wp"
      split
      · next hr =>
        walk_at "st"
        refine ⟨mulR (by omega), ?_⟩
        walk_at "st"
        refine block (by omega) (by omega) h1 ?_
        refine ih _ _ (half hr h0 hf).2 ?_
        rw [run, if_pos hr] at hq
        exact hq
      · next hr =>
        walk_at "st"
        rw [run, if_neg hr] at hq
        exact hq
  exact go 20 1 l hl q
theorem same_len {l k : Int} (h0 : 2 ≤ k) : l / k + (if decide (0 < l % k) = true then (1 : Int) else 0) = (l + k - 1) / k := by
  have e := Int.mul_ediv_add_emod l k
  have r0 := Int.emod_nonneg l (b := k) (by omega)
  have r1 := Int.emod_lt_of_pos l (b := k) (by omega)
  generalize l / k = a at *
  generalize l % k = r at *
  subst e
  have e : k * a + r + k - 1 = (r + k - 1) + k * a := by omega
  rw [e, Int.add_mul_ediv_left _ _ (by omega : k ≠ 0)]
  by_cases hr : 0 < r
  · rw [if_pos (by simpa using hr)]
    have : (r + k - 1) / k = 1 := by
      have : r + k - 1 = (r - 1) + k * 1 := by omega
      rw [this, Int.add_mul_ediv_left _ _ (by omega : k ≠ 0), Int.ediv_eq_zero_of_lt (by omega) (by omega)]; rfl
    omega
  · rw [if_neg (by simpa using hr)]
    have : (r + k - 1) / k = 0 := Int.ediv_eq_zero_of_lt (by omega) (by omega)
    omega
theorem lawtimes {n : Nat} (hn : 2 ≤ n) {m k l : Int} (m0 : 0 ≤ m) (m1 : m ≤ 400) (h0 : 2 ≤ k) (h1 : k < 1000) (hl : l ≤ 2 ^ 20) {M : Mem} {Q : QD} (q : Q (.int (run m k 20 1 l)) M) : phi tab n 6 [.int m, .int k, .int l] M Q := by
  refine phi_pos (by omega) rfl rfl (ρ := [some _, some _, some _, none]) rfl ?_
  unfold d6 b6
  walk_at "st"
  walk_at "st"
  refine ⟨21, ?_⟩
  have go : ∀ (f : Nat) (c l : Int), l ≤ 2 ^ f → Q (.int (run m k f c l)) M →
      whileD (wTst (wOp wGt (wVar 2) (wC (D.int 1)))) (wSs (phi tab (n - 1)) (MSs.cons (MS.asg (MG.name 3) (ME.bin BOp.mul (ME.var 3) (ME.var 0))) (MSs.cons (MS.asg (MG.name 2) (ME.bin BOp.add (ME.bin BOp.fdiv (ME.var 2) (ME.var 1)) (ME.blt BF.int (MEs.cons (ME.cmp COp.gt (ME.bin BOp.mod (ME.var 2) (ME.var 1)) (ME.int 0)) MEs.nil)))) MSs.nil)))
        { nx := wSs (phi tab (n - 1)) (MSs.cons (MS.ret (ME.var 3)) MSs.nil) { nx := fun x M' => Q D.non M', rt := Q }, rt := Q } (f + 1) [some (.int m), some (.int k), some (.int l), some (.int c)] M := by
    intro f
    induction f with
    | zero =>
      intro c l hf hq
      rw [whileD]
      walk_at "wp"
      rw [if_neg (by simp at hf; omega)]
      walk_at "st"
      exact hq
    | succ f ih =>
      intro c l hf hq
      rw [whileD]
      walk_at "wp"
      split
      · next hr =>
        walk_at "st"
        refine ⟨mulR (by omega), ?_⟩
        walk_at "st"
        refine ⟨by omega, by omega, by omega, ?_⟩
        have e := same_len (l := l) h0
        simp only [decide_eq_true_eq] at e
        rw [e]
        refine ih _ _ (half hr h0 hf).2 ?_
        rw [run, if_pos hr] at hq
        exact hq
      · next hr =>
        walk_at "st"
        rw [run, if_neg hr] at hq
        exact hq
  exact go 20 1 l hl q
/-- one of a display's numbers -/
theorem pick {a : Addr} {xs : List Int} {i : Int} {P : Int → Prop} {M : Mem} {Q : QD} (h : M a = some (.lst (xs.map .int))) (h0 : 0 ≤ i) (h1 : i < xs.length) (hp : ∀ x ∈ xs, P x) (q : ∀ x, P x → Q (.int x) M) : wIx (.ref a) (.int i) M Q := by
  obtain ⟨d, e, e2⟩ := atI_some (xs := xs.map D.int) h0 (by simpa using h1)
  rw [List.getElem?_map] at e2
  cases e3 : xs[i.toNat]? with
  | none => rw [e3] at e2; cases e2
  | some y => rw [e3] at e2; cases e2; exact ix_lst h e (q y (hp y (List.mem_of_getElem? e3)))
theorem law_holds (ns : List Int) (hl : ns.length ≤ 63) : phi tab 40 7 [.con (ns.map D.int)] (fun _ => none) fun d _ => d = .bl true := by
  refine phi_pos (by omega) rfl rfl (ρ := [some _, none, none, none, none, none, none, none]) rfl ?_
  unfold d7 b7
  walk_at "st"
  rw [List.length_map]
  refine ⟨by (repeat' split) <;> omega, by (repeat' split) <;> omega, ?_⟩
  refine forD_map (I := fun l ρ M' => ∃ o1 o2 o3 o4 o5 o6 o7, ρ = [some (.con (ns.map D.int)), o1, o2, o3, o4, o5, o6, o7]) rangeD_map ⟨_, _, _, _, _, _, _, rfl⟩ (fun _ _ _ hI => trivial) ?_ ?_
  · rintro l k r ρ M0 e ⟨o1, o2, o3, o4, o5, o6, o7, rfl⟩
    refine ⟨_, rfl, fun F hF => ?_⟩
    walk_at "st"
    refine box_ok (s := stAt 6) (fc := 2) (fm := 3) (sc := stAt 4) rfl rfl (mix_all (by omega)) (by omega) (by omega) fun b x y hp => ?_
    have hb : Box b (updM M0 b (.lst [.int x, .int y, .int 0])) := ⟨_, _, _, updM_same⟩
    generalize updM M0 b (.lst [.int x, .int y, .int 0]) = M1 at hb
    walk_at "st"
    refine take_all (by omega) hb (by decide) (by decide) fun r1 M2 a0 a1 x2 => ?_
    refine take_all (by omega) x2.box (by decide) (by decide) fun r2 M3 b0 b1 x3 => ?_
    refine ⟨by rw [sizeLine_eq]; omega, fun p1 hp1 => ?_⟩
    have hpb : p1 ≠ b := fun z => by obtain ⟨x, y, w, e⟩ := x3.box; rw [← z, hp1] at e; cases e
    have x4 := x3.ge (Ge.new (o := .lst [.int 1, .int 3, .int 7, .int 400, .int (1 + r1), .int (1 + r2)]) hp1)
    refine take_all (by omega) x4.box (by decide) (by decide) fun r3 M5 c0 c1 x5 => ?_
    have hp5 := x5.keep p1 _ hpb updM_same
    refine pick (xs := [1, 3, 7, 400, 1 + r1, 1 + r2]) (P := fun m => 0 ≤ m ∧ m ≤ 400) hp5 c0 (by simpa using c1) (by simp; omega) fun m hm => ?_
    have hb5 := x5.box
    clear x2 x3 x4 x5 hp5 hp1 hpb hb
    walk_at "st"
    refine take_all (by omega) hb5 (by decide) (by decide) fun r4 M6 d0 d1 x6 => ?_
    refine ⟨by rw [sizeLine_eq]; omega, fun p2 hp2 => ?_⟩
    have hpb : p2 ≠ b := fun z => by obtain ⟨x, y, w, e⟩ := x6.box; rw [← z, hp2] at e; cases e
    have x7 := x6.ge (Ge.new (o := .lst [.int 2, .int 3, .int 81, .int (2 + r4)]) hp2)
    refine take_all (by omega) x7.box (by decide) (by decide) fun r5 M8 e0 e1 x8 => ?_
    have hp8 := x8.keep p2 _ hpb updM_same
    refine pick (xs := [2, 3, 81, 2 + r4]) (P := fun m => 2 ≤ m ∧ m < 1000) hp8 e0 (by simpa using e1) (by simp; omega) fun n hn => ?_
    have hb8 := x8.box
    clear x6 x7 x8 hp8 hp2 hpb hb5
    walk_at "st"
    refine ⟨by decide, by decide, by decide, by rw [sizeLine_eq]; omega, fun p3 hp3 => ?_⟩
    have hpb : p3 ≠ b := fun z => by obtain ⟨x, y, w, e⟩ := hb8; rw [← z, hp3] at e; cases e
    have x9 := Bx.of hb8 (Ge.new (o := .lst [.int (10 ^ (6 : Int).toNat), .int 100, .int 12]) hp3)
    refine take_all (by omega) x9.box (by decide) (by decide) fun r6 M10 f0 f1 x10 => ?_
    have hp10 := x10.keep p3 _ hpb updM_same
    refine pick (xs := [10 ^ (6 : Int).toNat, 100, 12]) (P := fun m => 0 < m ∧ m ≤ 1000000) hp10 f0 (by simpa using f1) (by simp) fun w hw => ?_
    refine take_all (by omega) x10.box (by omega) (by omega) fun len M11 g0 g1 x11 => ?_
    have hb11 := x11.box
    clear x9 x10 x11 hp10 hp3 hpb hb8
    walk_at "wp"
    have hlen : 1 ≤ 1 + len ∧ 1 + len ≤ 1000000 := by omega
    generalize 1 + len = L at hlen
    refine cut_rest (I := fun ρ' M' => ∃ (L : Int) (o : Option D), 1 ≤ L ∧ L ≤ 1000000 ∧ ρ' = [some (.con (ns.map D.int)), some (.int k), some (.ref b), some (.int m), some (.int n), some (.int L), o, o7]) (fun R hR => ?_) ?_
    · walk_at "wp"
      refine take_all (by omega) hb11 (by decide) (by decide) fun r7 M12 _ _ x12 => ?_
      walk_at "wp"
      split
      · walk_at "st"
        walk_at "st"
        refine take_all (by omega) x12.box (by decide) (by decide) fun r8 M13 h0 h1 x13 => ?_
        walk_at "wp"
        refine ⟨by omega, by omega, ?_⟩
        refine forD_map (I := fun l ρ M' => ∃ (L : Int) (o : Option D), 1 ≤ L ∧ L ≤ 999999 ∧ Box b M' ∧ ρ = [some (.con (ns.map D.int)), some (.int k), some (.ref b), some (.int m), some (.int n), some (.int L), o, o7]) rangeD_map ⟨1, _, by decide, by decide, x13.box, rfl⟩ (fun _ _ _ hI => trivial) ?_ ?_
        · rintro l i r ρ M14 e ⟨L, o, i0, i1, hb14, rfl⟩
          refine ⟨_, rfl, fun F hF => ?_⟩
          have hmul : L ≤ L * n := by
            have := Int.mul_le_mul_of_nonneg_left (show (1 : Int) ≤ n by omega) (show 0 ≤ L by omega)
            omega
          walk_at "st"
          refine ⟨mulR (by omega), by rw [sizeLine_eq]; omega, fun p4 hp4 => ⟨mulR (by omega), ?_⟩⟩
          split
          · exact ix_lst updM_same rfl (hF _ _ ⟨L, _, i0, i1, (Bx.of hb14 (Ge.new hp4)).box, rfl⟩)
          · next hz => exact ix_lst updM_same rfl (hF _ _ ⟨L * n, _, by omega, by omega, (Bx.of hb14 (Ge.new hp4)).box, rfl⟩)
        · rintro ρ M14 ⟨L, o, i0, i1, hb14, rfl⟩
          dsimp only
          walk_at "st"
          refine take_all (by omega) hb14 (by decide) (by decide) fun r9 M15 j0 j1 x15 => ?_
          walk_at "wp"
          refine hR _ _ ⟨_, _, ?_, ?_, rfl⟩ <;> split <;> omega
      · exact hR _ _ ⟨L, _, hlen.1, hlen.2, rfl⟩
    · rintro ρ M20 ⟨L, o, i0, i1, rfl⟩
      walk_at "st"
      refine timesfor (by omega) hm.1 hm.2 hn.1 hn.2 (by omega) ?_
      walk_at "st"
      refine ⟨"int", rfl, _, rfl, ?_⟩
      simp only [show isTy "int" "int" = true from rfl, Bool.not_true, if_ff]
      refine ⟨"int", rfl, _, rfl, ?_⟩
      simp only [show isTy "bool" "int" = false from rfl, if_ff]
      refine lawtimes (by omega) hm.1 hm.2 hn.1 hn.2 (by omega) ?_
      walk_at "wp"
      rw [if_neg (by simp)]
      exact hF _ _ ⟨_, _, _, _, _, _, _, rfl⟩
  · rintro ρ M0 ⟨o1, o2, o3, o4, o5, o6, o7, rfl⟩
    dsimp only
    walk_at "st"
end K48
end
end Mi
end L2
open PySem.W in
set_option maxRecDepth 100000 in
set_option maxHeartbeats 0 in
theorem PySem.Challenge.cw_fewtimes_k48_how_many_multiplyings_holds : PySem.Challenge.rw_fewtimes_k48_how_many_multiplyings.Holds := by
  w_on; o_law; k_head; (case hw => w_witness2)
  k_fill
  refine L2.Mi.K48.walk (l := PySem.Challenge.rw_fewtimes_k48_how_many_multiplyings) rfl rfl L2.Mi.K48.law_holds (fun w h Y => PySem.W.kIn_of Y) ?F
  case F =>
    intro w mg fa h KX G hmg
    refine' L2.Mi.K48.all_mk KX G hmg ?a0 ?l0 ?c0 ?k0 ?a1 ?l1 ?c1 ?k1 ?a2 ?l2 ?c2 ?k2 ?a3 ?l3 ?c3 ?k3 ?a4 ?l4 ?c4 ?k4 ?a5 ?l5 ?c5 ?k5 ?a6 ?l6 ?c6 ?k6 ?a7 ?l7 ?c7 ?k7 ?z0 ?z1 ?z2 ?z3 ?z4 ?z5 ?z6 ?z7 ?z8 ?z9 ?z10 ?z11 ?z12 ?z13 ?z14 ?z15 ?z16 ?z17 ?z18 ?z19
    (case a0 => k_is)
    (case l0 => k_is)
    (case c0 => k_is)
    (case k0 => k_is)
    (case a1 => k_is)
    (case l1 => k_is)
    (case c1 => k_is)
    (case k1 => k_is)
    (case a2 => k_is)
    (case l2 => k_is)
    (case c2 => k_is)
    (case k2 => k_is)
    (case a3 => k_is)
    (case l3 => k_is)
    (case c3 => k_is)
    (case k3 => k_is)
    (case a4 => k_is)
    (case l4 => k_is)
    (case c4 => k_is)
    (case k4 => k_is)
    (case a5 => k_is)
    (case l5 => k_is)
    (case c5 => k_is)
    (case k5 => k_is)
    (case a6 => k_is)
    (case l6 => k_is)
    (case c6 => k_is)
    (case k6 => k_is)
    (case a7 => k_is)
    (case l7 => k_is)
    (case c7 => k_is)
    (case k7 => k_is)
    (case z0 => k_is)
    (case z1 => k_is)
    (case z2 => k_is)
    (case z3 => k_is)
    (case z4 => k_is)
    (case z5 => k_is)
    (case z6 => k_is)
    (case z7 => k_is)
    (case z8 => k_is)
    (case z9 => k_is)
    (case z10 => k_is)
    (case z11 => k_is)
    (case z12 => k_is)
    (case z13 => k_is)
    (case z14 => k_is)
    (case z15 => k_is)
    (case z16 => k_is)
    (case z17 => k_is)
    (case z18 => k_is)
    (case z19 => k_is)
