import PyProof.Rows.All
import Wide.All
import OpenK.AllK
import Wide.FinOn
import Lean
import PyProof.EqAt
import PyProof.EqKinds
import PyProof.TupleCall
import PyProof.Rows.SortShellK
import KE.KSortTup
import PyProof.AttrMissHeap
import KE.KDictOf
import KE.KDictSum
import KE.KRevSl
import KE.KItemsList
import PyProof.ReprBulk
import PyProof.Rows.ZipGen
import KE.IntBitsLaws
import PyProof.ListRange
import KE.KDictList
import PySem.Challenge.RW_oftenlots_k78_dealings_gone_through
set_option Elab.async false
set_option linter.all false
set_option maxRecDepth 100000

/-! THE HAND LAYER, for ints, bools, texts, own classes, LISTS and tuples (index, slices, in, append, pop ..), calls, loops. Paste it whole ahead of your own text; what your proof does not reach may be deleted. -/
namespace L2
open PySem PySem.Spec PyProof.Rows

/-- a key: an int or a str -/
abbrev Key := Sum Int Str
def keyIs : Key → Value → Bool
  | .inl k, v => Value.isInt k v
  | .inr x, v => Value.isStrOf x v
def keyH (w : World) : Key → Int
  | .inl k => hashInt k
  | .inr x => hashStr w x
theorem keyIs_shape : ∀ {k : Key} {v : Value}, keyIs k v = true → (∃ i t, k = Sum.inl i ∧ v = Value.int i t) ∨ (∃ x t, k = Sum.inr x ∧ v = Value.str x t)
  | .inl i, v, h => by
    obtain ⟨t, e⟩ := Value.isInt_shape (k := i) (v := v) h
    exact .inl ⟨i, t, rfl, e⟩
  | .inr x, v, h => by
    obtain ⟨t, e⟩ := Value.isStrOf_shape (x := x) (v := v) h
    exact .inr ⟨x, t, rfl, e⟩
theorem keyIs_int (i : Int) (t : Tok) : keyIs (.inl i) (.int i t) = true := by simp [keyIs, Value.isInt]
theorem keyIs_str (x : Str) (t : Tok) : keyIs (.inr x) (.str x t) = true := by simp [keyIs, Value.isStrOf]
theorem key_ll (a b : Int) : decide ((Sum.inl a : Key) = Sum.inl b) = (a == b) := by
  by_cases e : a = b
  · subst e; simp
  · have h : ¬ (Sum.inl a : Key) = Sum.inl b := fun q => e (Sum.inl.inj q)
    rw [decide_eq_false h]
    exact (beq_eq_false_iff_ne.mpr e).symm
theorem key_rr (a b : Str) : decide ((Sum.inr a : Key) = Sum.inr b) = decide (a = b) := by
  by_cases e : a = b
  · subst e; simp
  · have h : ¬ (Sum.inr a : Key) = Sum.inr b := fun q => e (Sum.inr.inj q)
    rw [decide_eq_false h, decide_eq_false e]
theorem key_lr (a : Int) (b : Str) : decide ((Sum.inl a : Key) = Sum.inr b) = false := decide_eq_false (fun q => nomatch q)
theorem key_rl (a : Str) (b : Int) : decide ((Sum.inr a : Key) = Sum.inl b) = false := decide_eq_false (fun q => nomatch q)

def mixKind (prog : Program) (w : World) : PySem.KeyKind prog w Key where
  is := keyIs
  hash := keyH w
  inj := fun v a b ha hb => by
    rcases keyIs_shape ha with ⟨i, t, rfl, rfl⟩ | ⟨x, t, rfl, rfl⟩
    · rcases keyIs_shape hb with ⟨j, u, rfl, e⟩ | ⟨y, u, rfl, e⟩
      · injection e with e1 _; rw [e1]
      · exact nomatch e
    · rcases keyIs_shape hb with ⟨j, u, rfl, e⟩ | ⟨y, u, rfl, e⟩
      · exact nomatch e
      · injection e with e1 _; rw [e1]
  byValue := fun k v h => by
    rcases keyIs_shape h with ⟨i, t, rfl, rfl⟩ | ⟨x, t, rfl, rfl⟩ <;> rfl
  pyHash := fun hv h => by
    rcases keyIs_shape hv with ⟨i, t, rfl, rfl⟩ | ⟨x, t, rfl, rfl⟩
    · exact wpAny_pyHash_int h
    · exact wpAny_pyHash_str h
  eqBool := fun hu hv h => by
    rcases keyIs_shape hu with ⟨i, t, rfl, rfl⟩ | ⟨x, t, rfl, rfl⟩
    · rcases keyIs_shape hv with ⟨j, u, rfl, rfl⟩ | ⟨y, u, rfl, rfl⟩
      · rw [key_ll] at h; exact wpAny_eqBool_int h
      · rw [key_lr] at h; exact SeqAt.EqAt.int_str i t y u _ _ _ _ h
    · rcases keyIs_shape hv with ⟨j, u, rfl, rfl⟩ | ⟨y, u, rfl, rfl⟩
      · rw [key_rl] at h; exact SeqAt.EqAt.str_int x t j u _ _ _ _ h
      · rw [key_rr] at h; exact wpAny_eqBool_str h
  «strs» := fun k x t v h => by
    rcases keyIs_shape h with ⟨i, u, rfl, e⟩ | ⟨y, u, rfl, e⟩
    · exact nomatch e
    · injection e with e1 _
      subst e1
      cases v <;> rfl

theorem mixKind_int (prog : Program) (w : World) (i : Int) (t : Tok) : (mixKind prog w).is (.inl i) (.int i t) = true := keyIs_int i t
theorem mixKind_str (prog : Program) (w : World) (x : Str) (t : Tok) : (mixKind prog w).is (.inr x) (.str x t) = true := keyIs_str x t
end L2

namespace L2
open PySem PySem.Spec PyProof.Rows

/-- a value, without the heap -/
inductive V where
  | non | bl (b : Bool) | int (i : Int) | str (x : Str) | byt (b : Array UInt8) | flt (b : UInt64) | ref (a : Addr) | ty (n : String)
  deriving DecidableEq

def RelV : V → Value → Prop
  | .non, u => u = Value.none
  | .bl b, u => u = Value.bool b
  | .int i, u => ∃ t, u = Value.int i t
  | .str x, u => ∃ t, u = Value.str x t
  | .byt b, u => ∃ t, u = Value.bytes b t
  | .flt b, u => ∃ t, u = Value.float b t
  | .ref a, u => u = Value.ref a
  | .ty n, u => u = Value.type n

abbrev Vals : List V → List Value → Prop := Paired RelV
theorem Vals.length {xs : List V} {us : List Value} (r : Vals xs us) : xs.length = us.length := Paired.length r
theorem Vals.get : ∀ {xs : List V} {us : List Value} {i : Nat} {x : V}, Vals xs us → xs[i]? = some x → ∃ u, us[i]? = some u ∧ RelV x u
  | _, _, _, _, .nil, e => by simp at e
  | _, _, 0, _, .cons r _, e => by simp at e; subst e; exact ⟨_, rfl, r⟩
  | _, _, i + 1, x, .cons _ t, e => by
    obtain ⟨u, h1, h2⟩ := Vals.get (i := i) (x := x) t (by simpa using e)
    exact ⟨u, by simpa using h1, h2⟩
theorem Vals.set {x : V} {u : Value} (r : RelV x u) : ∀ {xs : List V} {us : List Value} (i : Nat), Vals xs us → Vals (xs.set i x) (us.set i u)
  | _, _, _, .nil => .nil
  | _, _, 0, .cons _ t => .cons r t
  | _, _, i + 1, .cons q t => .cons q (Vals.set r i t)
theorem Vals.append : ∀ {xs ys : List V} {us ws : List Value}, Vals xs us → Vals ys ws → Vals (xs ++ ys) (us ++ ws)
  | _, _, _, _, .nil, s => s
  | _, _, _, _, .cons r t, s => .cons r (Vals.append t s)
theorem Vals.take : ∀ {xs : List V} {us : List Value} (n : Nat), Vals xs us → Vals (xs.take n) (us.take n)
  | _, _, 0, _ => .nil
  | _, _, _ + 1, .nil => .nil
  | _, _, n + 1, .cons r t => .cons r (Vals.take n t)
theorem Vals.drop : ∀ {xs : List V} {us : List Value} (n : Nat), Vals xs us → Vals (xs.drop n) (us.drop n)
  | _, _, 0, r => r
  | _, _, _ + 1, .nil => .nil
  | _, _, n + 1, .cons _ t => Vals.drop n t
def RelO : Option V → Option Value → Prop
  | some v, some u => RelV v u
  | none, none => True
  | _, _ => False
def KV {κ : Type} : List (κ × V) → List (κ × Value) → Prop := Paired fun (p : κ × V) (q : κ × Value) => p.1 = q.1 ∧ RelV p.2 q.2

/-- a key of a dict (00_mix): an int or a text -/
def kV : Key → V
  | .inl i => .int i
  | .inr x => .str x

/-- what stands at a tracked address -/
inductive HO where
  /-- a list -/
  | lst (xs : List V)
  /-- a tuple (never changes) -/
  | tup (xs : List V)
  /-- a dict whose keys are ints and texts; one whose keys are tuples of ints and texts (the empty one is both) -/
  | dK (kvs : List (Key × V)) | dT (kvs : List (List Key × V))
  /-- a set of ints: its members, its size -/
  | set (S : Int → Bool) (n : Nat)
  /-- an instance of the class at C, its dict at dx, its attributes -/
  | ins (C dx : Addr) (fs : List (Str × V))
  /-- the dict of the instance at x -/
  | own (x : Addr)
  /-- the dict of an exception -/
  | xd (fs : List (Str × V))
  /-- a bound method, f of x -/
  | met (f x : Addr)
  /-- a range object lo, lo + 1, .. below hi -/
  | rng (lo hi : Int)
  /-- a thing that is known to the object (the script; a dict while a loop walks it): read, never written while it is so -/
  | frz (o : Obj) (u : HO)
  /-- a code object's table -/
  | tbl (ps : Array Value)
  /-- any other thing, by what is true of its one object (a def of one's own: SetO a S n := HO.ext fun h => ..) -/
  | ext (φ : Heap → Prop)

abbrev Hp := Addr → Option HO
def upd (H : Hp) (a : Addr) (o : HO) : Hp := fun b => if b = a then some o else H b
theorem upd_same {H : Hp} {a : Addr} {o : HO} : upd H a o a = some o := by unfold upd; rw [if_pos rfl]
theorem upd_ne {H : Hp} {a b : Addr} {o : HO} (h : b ≠ a) : upd H a o b = H b := by unfold upd; rw [if_neg h]
/-- two objects of different content stand apart -/
theorem ne_of {H : Hp} {a b : Addr} {o u : HO} (h : H a = some o) (h' : H b = some u) (d : o ≠ u) : a ≠ b := by
  intro e; subst e; rw [h] at h'; exact d (Option.some.inj h')
theorem ne_of_none {H : Hp} {a b : Addr} {o : HO} (h : H a = some o) (h' : H b = none) : a ≠ b := by
  intro e; subst e; rw [h] at h'; cases h'

section
variable (P : Program) (w : World)
def ObjOk (H : Hp) (h : Heap) (a : Addr) : HO → Prop
  | .lst xs => xs.length ≤ sizeLine ∧ ∃ (its : List Value) (n : Nat), Vals xs its ∧ h.get? a = some { cls := .type "list", data := .seq its.toArray n }
  | .tup xs => xs.length ≤ sizeLine ∧ ∃ its : List Value, Vals xs its ∧ IsTup h a its.toArray
  | .dK kvs => kvs.length ≤ sizeLine ∧ (a == sysModules) = false ∧ ∃ vs, KV kvs vs ∧ h.DictOf (mixKind P w) a vs
  | .dT kvs => kvs.length ≤ sizeLine ∧ (a == sysModules) = false ∧ ∃ xs : List (List Key × Addr × Value),
      Paired (fun (p : List Key × V) (q : List Key × Addr × Value) => p.1 = q.1 ∧ H q.2.1 = some (.tup (p.1.map kV)) ∧ RelV p.2 q.2.2) kvs xs ∧
      ∃ o es ep, h.get? a = some o ∧ o.ExactDict ∧ o.data = .dict es ep ∧ es.toList = xs.map (entryOfKey (tupleKind (mixKind P w))) ∧ (xs.map (·.1)).Nodup
  | .set S n => h.SetOf (intKind P w) a S n
  | .ins C dx fs => H dx = some (.own a) ∧ fs.length ≤ 1000 ∧ dx ≠ a ∧ h.get? a = some (PySem.W.instObj C dx) ∧
      ∃ mA, h.Ns1 dx mA ∧ (∀ f, RelO (fs.lookup f) (mA f)) ∧ PySem.Within mA (fs.map (·.1))
  | .own _ => ∃ o, h.get? a = some o
  | .xd fs => ∃ mA, h.Ns1 a mA ∧ ∀ f, RelO (fs.lookup f) (mA f)
  | .rng lo hi => ∃ t u v, h.get? a = some { cls := .type "range", data := .fields #[.int lo t, .int hi u, .int 1 v] }
  | .frz o u => h.get? a = some o ∧ ObjOk H h a u
  | .tbl ps => h.get? a = some { cls := .none, data := .fields ps }
  | .met f x => h.get? a = some (PySem.W.methodObj (.ref f) (.ref x))
  | .ext φ => φ h ∧ (∃ o, h.get? a = some o) ∧ ∀ h1 h2 : Heap, φ h1 → (∀ o, h1.get? a = some o → h2.get? a = some o) → φ h2
/-- the abstract heap is held -/
def HOk (H : Hp) (h : Heap) : Prop := ∀ a o, H a = some o → ObjOk P w H h a o
end

section
variable {P : Program} {w : World} {H H' : Hp} {h h' : Heap} {a : Addr} {o : HO}
theorem ObjOk.lt (x : ObjOk P w H h a o) : a < h.objs.size := by
  cases o with
  | lst xs => obtain ⟨_, _, _, _, e⟩ := x; exact Heap.lt_size e
  | tup xs => obtain ⟨_, _, _, p⟩ := x; exact p.lt
  | dK kvs => obtain ⟨_, _, _, _, o, _, _, e, _⟩ := x; exact Heap.lt_size e
  | dT kvs => obtain ⟨_, _, _, _, o, _, _, e, _⟩ := x; exact Heap.lt_size e
  | set S n => obtain ⟨o, _, _, _, e, _⟩ := x; exact Heap.lt_size e
  | ins C dx fs => obtain ⟨_, _, _, e, _⟩ := x; exact Heap.lt_size e
  | own y => obtain ⟨_, e⟩ := x; exact Heap.lt_size e
  | xd fs => obtain ⟨_, ⟨_, _, _, e, _⟩, _⟩ := x; exact Heap.lt_size e
  | rng lo hi => obtain ⟨_, _, _, e⟩ := x; exact Heap.lt_size e
  | frz ob u => obtain ⟨e, _⟩ := x; exact Heap.lt_size e
  | tbl ps => exact Heap.lt_size (show h.get? a = some _ from x)
  | met f y => exact Heap.lt_size (show h.get? a = some _ from x)
  | ext φ => obtain ⟨_, ⟨_, e⟩, _⟩ := x; exact Heap.lt_size e
theorem Paired.mapP {α β : Type} {F G : α → β → Prop} : ∀ {l₁ : List α} {l₂ : List β}, Paired F l₁ l₂ → (∀ a b, F a b → G a b) → Paired G l₁ l₂
  | _, _, .nil, _ => .nil
  | _, _, .cons r t, f => .cons (f _ _ r) (Paired.mapP t f)
theorem Paired.imp' {α β : Type} {F G : α → β → Prop} (f : ∀ a b, F a b → G a b) {l₁ : List α} {l₂ : List β} (r : Paired F l₁ l₂) : Paired G l₁ l₂ := Paired.mapP r f
/-- what an object's description leans on: its own object, its own dict, the tuples -/
theorem ObjOk.stay (x : ObjOk P w H h a o) (k : ∀ b u, (b = a ∨ H b = some (.own a)) → h.get? b = some u → h'.get? b = some u)
    (ho : ∀ b, H b = some (.own a) → H' b = some (.own a)) (ht : ∀ b xs, H b = some (.tup xs) → H' b = some (.tup xs)) : ObjOk P w H' h' a o := by
  induction o with
  | lst xs => obtain ⟨z, its, n, r, e⟩ := x; exact ⟨z, its, n, r, k _ _ (.inl rfl) e⟩
  | tup xs => obtain ⟨z, its, r, ob, e, c⟩ := x; exact ⟨z, its, r, ob, k _ _ (.inl rfl) e, c⟩
  | dK kvs => obtain ⟨z, y, vs, r, ob, es, ep, e, c⟩ := x; exact ⟨z, y, vs, r, ob, es, ep, k _ _ (.inl rfl) e, c⟩
  | dT kvs =>
    obtain ⟨z, y, xs, r, ob, es, ep, e, c⟩ := x
    exact ⟨z, y, xs, Paired.mapP r fun p q z => ⟨z.1, ht _ _ z.2.1, z.2.2⟩, ob, es, ep, k _ _ (.inl rfl) e, c⟩
  | set S n => obtain ⟨ob, es, ep, t, e, c⟩ := x; exact ⟨ob, es, ep, t, k _ _ (.inl rfl) e, c⟩
  | ins C dx fs =>
    obtain ⟨d, z, ne, e, mA, ⟨od, es, ep, e2, c⟩, r⟩ := x
    exact ⟨ho _ d, z, ne, k _ _ (.inl rfl) e, mA, ⟨od, es, ep, k _ _ (.inr d) e2, c⟩, r⟩
  | own y => obtain ⟨ob, e⟩ := x; exact ⟨ob, k _ _ (.inl rfl) e⟩
  | xd fs => obtain ⟨mA, ⟨od, es, ep, e, c⟩, r⟩ := x; exact ⟨mA, ⟨od, es, ep, k _ _ (.inl rfl) e, c⟩, r⟩
  | rng lo hi => obtain ⟨t, u, v, e⟩ := x; exact ⟨t, u, v, k _ _ (.inl rfl) e⟩
  | frz ob u ih => obtain ⟨e, q⟩ := x; exact ⟨k _ _ (.inl rfl) e, ih q⟩
  | tbl ps =>
    have e : h.get? a = some { cls := .none, data := .fields ps } := x
    show h'.get? a = some { cls := .none, data := .fields ps }
    exact k a _ (.inl rfl) e
  | met f y =>
    have e : h.get? a = some (PySem.W.methodObj (.ref f) (.ref y)) := x
    show h'.get? a = some (PySem.W.methodObj (.ref f) (.ref y))
    exact k a _ (.inl rfl) e
  | ext φ => obtain ⟨p, ⟨o, e⟩, st⟩ := x; exact ⟨st _ _ p fun o q => k _ _ (.inl rfl) q, ⟨o, k _ _ (.inl rfl) e⟩, st⟩
theorem HOk.lt (x : HOk P w H h) (e : H a = some o) : a < h.objs.size := (x a o e).lt
theorem HOk.fresh (x : HOk P w H h) (e : h.objs.size ≤ a) : H a = none := by
  cases q : H a with
  | none => rfl
  | some u => exact absurd (Nat.lt_of_lt_of_le (x.lt q) e) (Nat.lt_irrefl _)
/-- every object of the heap is kept -/
theorem HOk.kept (x : HOk P w H h) (k : ∀ b u, h.get? b = some u → h'.get? b = some u) : HOk P w H h' := fun a o e =>
  (x a o e).stay (fun b u _ q => k b u q) (fun _ q => q) fun _ _ q => q
/-- a new object is laid and tracked -/
theorem HOk.laid (x : HOk P w H h) (k : ∀ b u, h.get? b = some u → h'.get? b = some u) (hp : h.objs.size ≤ a) (new : ObjOk P w (upd H a o) h' a o) : HOk P w (upd H a o) h' := fun b u e => by
  have hn := x.fresh hp
  by_cases hb : b = a
  · subst hb; rw [upd_same] at e; cases e; exact new
  · rw [upd_ne hb] at e
    exact (x b u e).stay (fun c v _ q => k c v q) (fun c q => by rw [upd_ne (ne_of_none q hn)]; exact q) fun c xs q => by rw [upd_ne (ne_of_none q hn)]; exact q
end

/-- what may be read as u: it is u, or a known u -/
def Rd (H : Hp) (a : Addr) (u : HO) : Prop := H a = some u ∨ ∃ o, H a = some (.frz o u)
theorem Rd.of {H : Hp} {a : Addr} {u : HO} (h : H a = some u) : Rd H a u := .inl h
theorem Rd.ok {P : Program} {w : World} {H : Hp} {h : Heap} {a : Addr} {u : HO} (r : Rd H a u) (x : HOk P w H h) : ObjOk P w H h a u := by
  rcases r with r | ⟨o, r⟩
  · exact x a u r
  · obtain ⟨_, q⟩ := x a _ r
    exact q
/-- what may be written -/
def Mut : Option HO → Prop
  | some (.lst _) => True
  | some (.dK _) => True
  | some (.dT _) => True
  | some (.set _ _) => True
  | some (.ins _ _ _) => True
  | some (.ext _) => True
  | _ => False
section
variable {P : Program} {w : World} {H : Hp} {h h' : Heap} {x e : Addr} {o' : HO}
/-- the object at e is changed: x itself, or the dict of the instance x -/
theorem HOk.write (ok : HOk P w H h) (mu : Mut (H x)) (he : e = x ∨ H e = some (.own x)) (k : ∀ b u, b ≠ e → h.get? b = some u → h'.get? b = some u) (heo : ∃ u, h'.get? e = some u)
    (new : ObjOk P w (upd H x o') h' x o') : HOk P w (upd H x o') h' := fun b u q => by
  have nown : ∀ c y, H c = some (.own y) → c ≠ x := fun c y r z => by subst z; rw [r] at mu; exact mu
  have ntup : ∀ c xs, H c = some (.tup xs) → c ≠ x := fun c xs r z => by subst z; rw [r] at mu; exact mu
  by_cases hb : b = x
  · subst hb; rw [upd_same] at q; cases q; exact new
  · rw [upd_ne hb] at q
    by_cases hbe : b = e
    · have q' : H b = some (.own x) := by
        rcases he with z | z
        · exact absurd (hbe.trans z) hb
        · rw [hbe]; exact z
      rw [q] at q'; cases q'
      obtain ⟨v, hv⟩ := heo
      exact ⟨v, by rw [hbe]; exact hv⟩
    · refine (ok b u q).stay (fun c v hc r => k c v ?_ r) (fun c r => by rw [upd_ne (nown c b r)]; exact r) fun c xs r => by rw [upd_ne (ntup c xs r)]; exact r
      rcases hc with rfl | hc
      · exact hbe
      · rintro rfl
        rcases he with z | z
        · exact nown c b hc z
        · rw [hc] at z; cases z; exact hb rfl
end

/-! ### kept unless tracked; of the frames at fs (the callers') the slots may change (an exception that passes writes there); of the records at ex (iterators) nothing is said -/
structure Un (fs ex : List Addr) (H H' : Hp) (h h' : Heap) : Prop where
  keep : ∀ b o, h.get? b = some o → H b = none → b ∉ fs → b ∉ ex → h'.get? b = some o
  slot : ∀ b o, h.get? b = some o → H b = none → b ∈ fs → b ∉ ex → ∃ sl, h'.get? b = some { o with slots := sl }
  free : ∀ b o, h.get? b = some o → H b = none → b ∉ ex → H' b = none
  there : ∀ b o, h.get? b = some o → b ∉ ex → ∃ o', h'.get? b = some o'
  tups : ∀ b xs, H b = some (.tup xs) → H' b = some (.tup xs)
  frzs : ∀ b o u, H b = some (.frz o u) → H' b = some (.frz o u)
  tbls : ∀ b ps, H b = some (.tbl ps) → ∃ more, H' b = some (.tbl (ps ++ more))
section
variable {fs fs' ex ex' : List Addr} {H H1 H2 : Hp} {h h1 h2 h' : Heap} {a x e : Addr} {o : HO}
theorem Un.any (u : Un fs ex H H1 h h1) {b : Addr} {ob : Obj} (q : h.get? b = some ob) (n : H b = none) (hx : b ∉ ex) : ∃ sl, h1.get? b = some { ob with slots := sl } := by
  by_cases hb : b ∈ fs
  · exact u.slot b ob q n hb hx
  · exact ⟨ob.slots, u.keep b ob q n hb hx⟩
theorem Un.trans (a : Un fs ex H H1 h h1) (b : Un fs ex H1 H2 h1 h2) : Un fs ex H H2 h h2 where
  keep := fun c ob q n hc hx => b.keep c ob (a.keep c ob q n hc hx) (a.free c ob q n hx) hc hx
  slot := fun c ob q n hc hx => by
    obtain ⟨sl, e1⟩ := a.slot c ob q n hc hx
    obtain ⟨sl', e2⟩ := b.slot c _ e1 (a.free c ob q n hx) hc hx
    exact ⟨sl', e2⟩
  free := fun c ob q n hx => by
    obtain ⟨o', e1⟩ := a.there c ob q hx
    exact b.free c o' e1 (a.free c ob q n hx) hx
  there := fun c ob q hx => by
    obtain ⟨o', e1⟩ := a.there c ob q hx
    exact b.there c o' e1 hx
  tups := fun c xs q => b.tups c xs (a.tups c xs q)
  frzs := fun c ob xs q => b.frzs c ob xs (a.frzs c ob xs q)
  tbls := fun c ps q => by
    obtain ⟨m1, e1⟩ := a.tbls c ps q
    obtain ⟨m2, e2⟩ := b.tbls c _ e1
    exact ⟨m1 ++ m2, by rw [e2, Array.append_assoc]⟩
theorem Un.kept (k : ∀ b u, h.get? b = some u → h'.get? b = some u) : Un fs ex H H h h' :=
  ⟨fun b ob q _ _ _ => k b ob q, fun b ob q _ _ _ => ⟨ob.slots, k b ob q⟩, fun _ _ _ n _ => n, fun b ob q _ => ⟨ob, k b ob q⟩, fun _ _ q => q, fun _ _ _ q => q, fun _ ps q => ⟨#[], by rw [q]; simp⟩⟩
theorem Un.refl : Un fs ex H H h h := Un.kept fun _ _ q => q
theorem Un.laid (k : ∀ b u, h.get? b = some u → h'.get? b = some u) (hp : h.objs.size ≤ a) (hn : H a = none) : Un fs ex H (upd H a o) h h' where
  keep := fun b u q _ _ _ => k b u q
  slot := fun b u q _ _ _ => ⟨u.slots, k b u q⟩
  free := fun b u q n _ => by rw [upd_ne (Nat.ne_of_lt (Nat.lt_of_lt_of_le (Heap.lt_size q) hp))]; exact n
  there := fun b u q _ => ⟨u, k b u q⟩
  tups := fun b xs q => by rw [upd_ne (ne_of_none q hn)]; exact q
  frzs := fun b u xs q => by rw [upd_ne (ne_of_none q hn)]; exact q
  tbls := fun b ps q => ⟨#[], by rw [upd_ne (ne_of_none q hn), q]; simp⟩
theorem Un.write (mu : Mut (H x)) (he : e = x ∨ H e = some (.own x)) (k : ∀ b u, b ≠ e → h.get? b = some u → h'.get? b = some u) (heo : ∃ u, h'.get? e = some u) : Un fs ex H (upd H x o) h h' := by
  have hx : ∀ b, H b = none → b ≠ x := fun b n z => by subst z; rw [n] at mu; exact mu
  have hb : ∀ b, H b = none → b ≠ e := fun b n z => by
    subst z
    rcases he with r | r
    · exact hx b n r
    · rw [n] at r; cases r
  have hm : ∀ b u, H b = some u → ¬ Mut (some u) → b ≠ x := fun b u q nm z => by subst z; rw [q] at mu; exact nm mu
  refine ⟨fun b u q n _ _ => k b u (hb b n) q, fun b u q n _ _ => ⟨u.slots, k b u (hb b n) q⟩, fun b u q n _ => by rw [upd_ne (hx b n)]; exact n, fun b u q _ => ?_,
    fun b xs q => by rw [upd_ne (hm b _ q fun z => z)]; exact q, fun b u xs q => by rw [upd_ne (hm b _ q fun z => z)]; exact q, fun b ps q => ⟨#[], by rw [upd_ne (hm b _ q fun z => z), q]; simp⟩⟩
  by_cases hbe : b = e
  · subst hbe; exact heo
  · exact ⟨u, k b u hbe q⟩
theorem Un.mono (u : Un fs ex H H1 h h1) (hs : ∀ b ∈ fs, b ∈ fs') (hx : ∀ b ∈ ex, b ∈ ex') : Un fs' ex' H H1 h h1 :=
  ⟨fun b ob q n hb he => u.keep b ob q n (fun z => hb (hs b z)) fun z => he (hx b z), fun _ _ q n _ he => u.any q n fun z => he (hx _ z), fun b ob q n he => u.free b ob q n fun z => he (hx b z), fun b ob q he => u.there b ob q fun z => he (hx b z), u.tups, u.frzs, u.tbls⟩
end

/-! ### the heap without what is tracked -/
def trk (h : Heap) (H : Hp) : List Addr := (List.range h.objs.size).filter fun a => (H a).isSome
def hidT (h : Heap) (H : Hp) : Heap := PySem.W.hideAll h (trk h H)
theorem hidT_size (h : Heap) (H : Hp) : (hidT h H).objs.size = h.objs.size := PySem.W.hideAll_size _ _
theorem hidT_get {h : Heap} {H : Hp} {b : Addr} {o : Obj} (e : h.get? b = some o) (n : H b = none) : (hidT h H).get? b = some o :=
  PySem.W.hideAll_get _ e fun hm => by
    have q : (H b).isSome = true := (List.mem_filter.mp hm).2
    rw [n] at q; simp at q
theorem of_hidT {h : Heap} {H : Hp} {b : Addr} {o : Obj} (e : (hidT h H).get? b = some o) : h.get? b = some o ∧ H b = none := by
  have e' : h.get? b = some o := PySem.W.of_hideAll (trk h H) e
  refine ⟨e', ?_⟩
  cases q : H b with
  | none => rfl
  | some x =>
    have hm : b ∈ trk h H := List.mem_filter.mpr ⟨List.mem_range.mpr (Heap.lt_size e'), by simp [q]⟩
    have z : (hidT h H).get? b = none := PySem.W.hideAll_none (trk h H) hm
    rw [z] at e; cases e

/-! ### OpenK's ledger, filled with every new object but one -/
def allNews (g h : Heap) (L : Addr) : List (Addr × Obj) := (List.range h.objs.size).filterMap fun a => if a = L ∨ (g.get? a).isSome = true then none else (h.get? a).map fun o => (a, o)
def rest (g h : Heap) (L d : Addr) : List (Addr × Obj) := (allNews g h L).filter fun p => decide (p.1 ≠ d)
end L2

namespace L2
open PySem PySem.Spec PyProof.Rows

/-- the module's facts, over the base: the heap at the law's entry without what is tracked there -/
structure Mod (K : PySem.W.Frag) (mg : Str → Option Value) (base : Heap) : Prop where
  kin : K.In base
  glob : base.Ns mainGlobals mg
  blt : ∃ mb, base.Ns builtinsNs mb ∧ ∀ x : Str, x ≠ "__name__" → mb x = bootBuiltins x
  nolimit : base.NoLimit

/-- the context: a def's body (or a comprehension's block) running. base: fixed through the whole law; s₀, H₀: the entry; outer: the frames whose slots others may change (a def's callers); stack: all frames that run;
   ex: iterators that were made ahead of the entry and are walked here (a comprehension's); fn: the names whose cells were made at the entry (a def: all; a comprehension's block: its own); calm: not within an except suite; pn: pins that every state bears; xe: what is wanted of an exception that leaves the code -/
structure Cx where
  prog : Program
  w : World
  K : PySem.W.Frag
  mg : Str → Option Value
  base : Heap
  A : Around
  N : List Str
  s₀ : Shared
  H₀ : Hp
  env : Env
  outer : List Env
  stack : List Env
  ex : List Addr
  fn : Str → Bool
  calm : Bool
  pn : List (Addr × Obj)
  xe : Value → Shared → Prop
/-- the callers' frames -/
def frs (l : List Env) : List Addr := l.filterMap (·.frame)
abbrev Cx.fs (X : Cx) : List Addr := frs X.outer

def Vis (sc : Scope) (x : Str) : Prop := sc.names.lookup x = some .local ∨ sc.names.lookup x = some .cell ∨ sc.names.lookup x = some .free
def Loc (sc : Scope) (x : Str) : Prop := sc.names.lookup x = some .local ∨ sc.names.lookup x = some .cell
def Look (env : Env) (h : Heap) (m : Str → Option Value) (x : Str) (u : Value) : Prop :=
  (env.kindOf x = some .local ∧ m x = some u) ∨ ((env.kindOf x = some .cell ∨ env.kindOf x = some .free) ∧ ∃ c, env.cells.lookup x = some c ∧ h.IsCell c (some u))

structure Cx.Ok (X : Cx) : Prop where
  mod : Mod X.K X.mg X.base
  kind : X.env.scope.kind = .function
  glob : X.env.globals = mainGlobals
  blt : X.env.builtins = builtinsNs
  above : X.s₀.heap.objs.size ≤ X.env.locals
  inj : ∀ x y c, X.env.cells.lookup x = some c → X.env.cells.lookup y = some c → x = y
  has : ∀ x, (X.env.kindOf x = some .cell ∨ X.env.kindOf x = some .free) → ∃ c, X.env.cells.lookup x = some c
  cab : ∀ x c, X.fn x = true → X.env.cells.lookup x = some c → X.s₀.heap.objs.size ≤ c
  hd : X.calm = true → X.A.handled = none
  frames : X.A.frames = some X.stack
  stk : X.stack = X.outer ∨ (X.stack = X.env :: X.outer ∧ X.env.frame = some X.env.locals)
  exf : ∀ b ∈ X.ex, b ≠ X.env.locals ∧ ∀ x c, X.env.cells.lookup x = some c → c ≠ b
  bs : ∀ b o, X.base.get? b = some o → X.s₀.heap.get? b = some o ∧ X.H₀ b = none
  bsz : X.base.objs.size ≤ X.s₀.heap.objs.size
  noex : ∀ b o, X.base.get? b = some o → b ∉ X.ex
  exfs : ∀ b ∈ X.ex, b ∉ X.fs
  funs : X.s₀.heap.FunFrames X.base X.outer
  frf : ∀ b ∈ X.fs, X.H₀ b = none

structure Inv (X : Cx) (pins : List (Addr × Obj)) (σ : List (Option V)) (H : Hp) (s : Shared) : Prop where
  ok : X.Ok
  os : s.os = X.s₀.os
  bare : AllBare s.gens
  base : Un X.fs X.ex X.H₀ H X.s₀.heap s.heap
  loc : ∃ m, s.heap.Ns X.env.locals m ∧ ∀ (i : Nat) (x : Str) (v : V), X.N[i]? = some x → σ[i]? = some (some v) → Vis X.env.scope x → ∃ u, RelV v u ∧ Look X.env s.heap m x u
  cell : ∀ x c, X.env.cells.lookup x = some c → ∃ v, s.heap.IsCell c v
  free : H X.env.locals = none
  freeC : ∀ x c, X.env.cells.lookup x = some c → H c = none
  pin : ∀ p ∈ X.pn ++ pins, s.heap.get? p.1 = some p.2 ∧ H p.1 = none ∧ p.1 ≠ X.env.locals ∧ p.1 ∉ X.fs ∧ ∀ v, p.2.data ≠ .cell v
  hok : HOk X.prog X.w H s.heap
  len : σ.length = X.N.length

section
variable {X : Cx} {pins : List (Addr × Obj)} {σ : List (Option V)} {H H' : Hp} {s : Shared} {h' : Heap}

theorem Cx.Ok.nofr (ok : X.Ok) {b : Addr} {o : Obj} (e : X.base.get? b = some o) : b ∉ X.fs := fun hb => by
  have := (ok.funs.mem hb).1
  rw [e] at this; cases this
theorem Inv.bs (I : Inv X pins σ H s) : ∀ b o, X.base.get? b = some o → s.heap.get? b = some o ∧ H b = none := fun b o e =>
  ⟨I.base.keep b o (I.ok.bs b o e).1 (I.ok.bs b o e).2 (I.ok.nofr e) (I.ok.noex b o e), I.base.free b o (I.ok.bs b o e).1 (I.ok.bs b o e).2 (I.ok.noex b o e)⟩
theorem Inv.bk (I : Inv X pins σ H s) : ∀ b o, X.base.get? b = some o → s.heap.get? b = some o := fun b o e => (I.bs b o e).1
theorem Inv.mod (I : Inv X pins σ H s) : Mod X.K X.mg X.base := I.ok.mod
theorem Inv.kIn (I : Inv X pins σ H s) : X.K.In s.heap := I.ok.mod.kin.keeps I.bk
theorem Inv.nolimit (I : Inv X pins σ H s) : s.heap.NoLimit := I.ok.mod.nolimit.keeps I.bk
/-- the frame over the base: for OpenK's rules (K.In X.base is I.mod.kin) -/
theorem Inv.fr (I : Inv X pins σ H s) : ∃ m, Fr X.base X.env.locals s.heap m :=
  let ⟨m, hn, _⟩ := I.loc
  ⟨m, hn, I.bk, Nat.le_trans I.ok.bsz I.ok.above⟩
theorem Inv.lt (I : Inv X pins σ H s) : X.env.locals < s.heap.objs.size := let ⟨_, hn, _⟩ := I.loc; hn.lt
theorem Inv.sz (I : Inv X pins σ H s) : X.s₀.heap.objs.size ≤ s.heap.objs.size := Nat.le_trans I.ok.above (Nat.le_of_lt I.lt)
theorem Inv.nofs (I : Inv X pins σ H s) {a : Addr} (h : s.heap.objs.size ≤ a) : a ∉ X.fs := fun hb => by
  obtain ⟨_, o, ho, _⟩ := I.ok.funs.mem hb
  exact absurd (Nat.lt_of_lt_of_le (Heap.lt_size ho) (Nat.le_trans I.sz h)) (Nat.lt_irrefl _)
theorem Inv.cne (I : Inv X pins σ H s) : ∀ x c, X.env.cells.lookup x = some c → c ≠ X.env.locals := fun x c e z => by
  obtain ⟨v, o, ho, hd⟩ := I.cell x c e
  obtain ⟨m, ⟨o', es, ep, ho', hd', _⟩, _⟩ := I.loc
  rw [z, ho'] at ho; cases ho; rw [hd'] at hd; cases hd
theorem Inv.funs (I : Inv X pins σ H s) : s.heap.FunFrames X.base X.outer := by
  have all : ∀ (l : List Env), (∀ b ∈ frs l, b ∈ X.fs) → X.s₀.heap.FunFrames X.base l → s.heap.FunFrames X.base l := by
    intro l
    induction l with
    | nil => intro _ _; trivial
    | cons env r ih =>
      intro hs hl
      obtain ⟨hk, ⟨L, o, hf, hn, ho, hd⟩, hr⟩ := hl
      have hL : L ∈ X.fs := hs L (by unfold frs; rw [List.filterMap_cons, hf]; exact List.mem_cons_self)
      obtain ⟨sl, e⟩ := I.base.slot L o ho (I.ok.frf L hL) hL fun z => I.ok.exfs L z hL
      exact ⟨hk, ⟨L, _, hf, hn, e, hd⟩, ih (fun b hb => hs b (by unfold frs; rw [List.filterMap_cons, hf]; exact List.mem_cons_of_mem _ hb)) hr⟩
  exact all X.outer (fun _ hb => hb) I.ok.funs

/-- the frames that run, for a call -/
theorem Inv.stack (I : Inv X pins σ H s) : s.heap.FunFrames X.base X.stack := by
  rcases I.ok.stk with e | ⟨e, hf⟩
  · rw [e]; exact I.funs
  · rw [e]
    obtain ⟨m, hn, _⟩ := I.loc
    refine .cons (by rw [I.ok.kind]; decide) hf hn ?_ I.funs
    exact Heap.get?_none_of_le (Nat.le_trans I.ok.bsz I.ok.above)
theorem Inv.stkSub (I : Inv X pins σ H s) : ∀ b ∈ frs X.stack, b ∈ X.env.locals :: X.fs := fun b hb => by
  rcases I.ok.stk with e | ⟨e, hf⟩
  · rw [e] at hb; exact List.mem_cons_of_mem _ hb
  · rw [e] at hb
    unfold frs at hb
    rw [List.filterMap_cons, hf] at hb
    exact hb
theorem Inv.stkFree (I : Inv X pins σ H s) : ∀ b ∈ frs X.stack, H b = none := fun b hb => by
  rcases List.mem_cons.mp (I.stkSub b hb) with e | hb
  · rw [e]; exact I.free
  · obtain ⟨_, o, ho, _⟩ := I.ok.funs.mem hb
    exact I.base.free b o ho (I.ok.frf b hb) fun z => I.ok.exfs b z hb

/-- THE STEP: the untracked objects but the frame and the records at ch are kept (the callers' frames up to slots), the frame's map is kept, the new abstract heap is held -/
theorem Inv.step {g' : Array GenState} {t' : Nat} {d' : Drawn} {ch : List Addr} (I : Inv X pins σ H s)
    (hch : ∀ b ∈ ch, (b ∈ X.ex ∨ X.s₀.heap.objs.size ≤ b) ∧ b ≠ X.env.locals ∧ (∀ x c, X.env.cells.lookup x = some c → c ≠ b) ∧ ∀ p ∈ X.pn ++ pins, p.1 ≠ b)
    (keep : ∀ b o, b ≠ X.env.locals → b ∉ X.fs → b ∉ ch → s.heap.get? b = some o → H b = none → h'.get? b = some o)
    (slot : ∀ b o, b ≠ X.env.locals → b ∈ X.fs → b ∉ ch → s.heap.get? b = some o → H b = none → ∃ sl, h'.get? b = some { o with slots := sl }) (free : ∀ b o, b ∉ ch → s.heap.get? b = some o → H b = none → H' b = none)
    (there : ∀ b o, b ∉ ch → s.heap.get? b = some o → ∃ o', h'.get? b = some o')
    (tups : ∀ b xs, H b = some (.tup xs) → H' b = some (.tup xs)) (frzs : ∀ b o u, H b = some (.frz o u) → H' b = some (.frz o u)) (tbls : ∀ b ps, H b = some (.tbl ps) → ∃ more, H' b = some (.tbl (ps ++ more)))
    (ns : ∀ m, s.heap.Ns X.env.locals m → h'.Ns X.env.locals m) (hok : HOk X.prog X.w H' h') (hg : AllBare g') :
    Inv X pins σ H' { s with heap := h', gens := g', drawn := d', toks := t' } := by
  have neL : ∀ b o, X.s₀.heap.get? b = some o → b ≠ X.env.locals := fun b o e => Nat.ne_of_lt (Nat.lt_of_lt_of_le (Heap.lt_size e) I.ok.above)
  have neC : ∀ b o, X.s₀.heap.get? b = some o → b ∉ X.ex → b ∉ ch := fun b o e hx hb => by
    rcases (hch b hb).1 with z | z
    · exact hx z
    · exact absurd (Nat.lt_of_lt_of_le (Heap.lt_size e) z) (Nat.lt_irrefl _)
  have cellK : ∀ x c, X.env.cells.lookup x = some c → ∀ v, s.heap.IsCell c v → h'.IsCell c v := fun x c e v ⟨o, ho, hd⟩ => by
    have nch : c ∉ ch := fun z => (hch c z).2.2.1 x c e rfl
    by_cases hc : c ∈ X.fs
    · obtain ⟨sl, q⟩ := slot c o (I.cne x c e) hc nch ho (I.freeC x c e)
      exact ⟨_, q, hd⟩
    · exact ⟨o, keep c o (I.cne x c e) hc nch ho (I.freeC x c e), hd⟩
  refine ⟨I.ok, I.os, hg, ⟨fun b o e n hb hx => ?_, fun b o e n hb hx => ?_, fun b o e n hx => ?_, fun b o e hx => ?_, fun b xs e => tups b xs (I.base.tups b xs e), fun b o xs e => frzs b o xs (I.base.frzs b o xs e), fun b ps e => ?_⟩, ?_, fun x c e => ?_, ?_, fun x c e => ?_, fun p hp => ?_, hok, I.len⟩
  · exact keep b o (neL b o e) hb (neC b o e hx) (I.base.keep b o e n hb hx) (I.base.free b o e n hx)
  · obtain ⟨sl, e1⟩ := I.base.slot b o e n hb hx
    obtain ⟨sl', e2⟩ := slot b _ (neL b o e) hb (neC b o e hx) e1 (I.base.free b o e n hx)
    exact ⟨sl', e2⟩
  · obtain ⟨o', e1⟩ := I.base.there b o e hx
    exact free b o' (neC b o e hx) e1 (I.base.free b o e n hx)
  · obtain ⟨o', e1⟩ := I.base.there b o e hx
    exact there b o' (neC b o e hx) e1
  · obtain ⟨m1, e1⟩ := I.base.tbls b ps e
    obtain ⟨m2, e2⟩ := tbls b _ e1
    exact ⟨m1 ++ m2, by rw [e2, Array.append_assoc]⟩
  · obtain ⟨m, hn, hl⟩ := I.loc
    refine ⟨m, ns m hn, fun i x v e1 e2 e3 => ?_⟩
    obtain ⟨u, r, l⟩ := hl i x v e1 e2 e3
    refine ⟨u, r, ?_⟩
    rcases l with l | ⟨k, c, e, z⟩
    · exact .inl l
    · exact .inr ⟨k, c, e, cellK x c e _ z⟩
  · obtain ⟨v, z⟩ := I.cell x c e
    exact ⟨v, cellK x c e v z⟩
  · obtain ⟨m, ⟨o, _, _, ho, _⟩, _⟩ := I.loc
    exact free _ o (fun z => (hch _ z).2.1 rfl) ho I.free
  · obtain ⟨v, o, ho, hd⟩ := I.cell x c e
    exact free c o (fun z => (hch c z).2.2.1 x c e rfl) ho (I.freeC x c e)
  · obtain ⟨e, n, ne, nf, d⟩ := I.pin p hp
    have nch : p.1 ∉ ch := fun z => (hch p.1 z).2.2.2 p hp rfl
    exact ⟨keep p.1 p.2 ne nf nch e n, free p.1 p.2 nch e n, ne, nf, d⟩
/-- .. where the frame's own object is kept too -/
theorem Inv.un {t' : Nat} (I : Inv X pins σ H s) (u : Un X.fs [] H H' s.heap h') (hok : HOk X.prog X.w H' h') : Inv X pins σ H' { s with heap := h', toks := t' } := by
  obtain ⟨m, ⟨o, es, ep, ho, r⟩, _⟩ := id I.loc
  obtain ⟨sl, hL⟩ := u.any ho I.free (by simp)
  exact I.step (g' := s.gens) (d' := s.drawn) (ch := []) (fun _ z => nomatch z) (fun b o _ hb _ e n => u.keep b o e n hb (by simp)) (fun b o _ hb _ e n => u.slot b o e n hb (by simp)) (fun b o _ e n => u.free b o e n (by simp)) (fun b o _ e => u.there b o e (by simp)) u.tups u.frzs u.tbls (fun m' hm => by
    obtain ⟨o', es', ep', ho', r'⟩ := hm
    rw [ho] at ho'; cases ho'
    exact ⟨_, es', ep', hL, r'⟩) hok I.bare
/-- behind a call (or a comprehension's block): the slots of this frame may have changed too, the records at ch may have turned -/
theorem Inv.call {g' : Array GenState} {t' : Nat} {d' : Drawn} {ch : List Addr} (I : Inv X pins σ H s) (u : Un (frs X.stack) ch H H' s.heap h') (hok : HOk X.prog X.w H' h') (hg : AllBare g')
    (hch : ∀ b ∈ ch, (b ∈ X.ex ∨ X.s₀.heap.objs.size ≤ b) ∧ b ≠ X.env.locals ∧ (∀ x c, X.env.cells.lookup x = some c → c ≠ b) ∧ ∀ p ∈ X.pn ++ pins, p.1 ≠ b) :
    Inv X pins σ H' { s with heap := h', gens := g', drawn := d', toks := t' } := by
  obtain ⟨m, ⟨o, es, ep, ho, r⟩, _⟩ := id I.loc
  obtain ⟨sl, hL⟩ := u.any ho I.free fun z => (hch _ z).2.1 rfl
  exact I.step (ch := ch) hch (fun b o hL hb hc e n => u.keep b o e n (fun z => (List.mem_cons.mp (I.stkSub b z)).elim hL hb) hc) (fun b o _ _ hc e n => u.any e n hc) (fun b o hc e n => u.free b o e n hc) (fun b o hc e => u.there b o e hc) u.tups u.frzs u.tbls (fun m' hm => by
    obtain ⟨o', es', ep', ho', r'⟩ := hm
    rw [ho] at ho'; cases ho'
    exact ⟨_, es', ep', hL, r'⟩) hok hg
/-- an untracked record of ours (an iterator) has turned -/
theorem Inv.turned {t' : Nat} {it : Addr} (I : Inv X pins σ H s) (k : ∀ b o, b ≠ it → s.heap.get? b = some o → h'.get? b = some o) (hn : H it = none) (hL : it ≠ X.env.locals)
    (h1 : it ∈ X.ex ∨ X.s₀.heap.objs.size ≤ it) (h2 : ∀ x c, X.env.cells.lookup x = some c → c ≠ it) (h3 : ∀ p ∈ X.pn ++ pins, p.1 ≠ it) : Inv X pins σ H { s with heap := h', toks := t' } := by
  have nit : ∀ b u, H b = some u → b ≠ it := fun b u e z => by rw [z, hn] at e; cases e
  refine I.step (g' := s.gens) (d' := s.drawn) (ch := [it]) (fun b hb => ?_) (fun b o _ _ hc e _ => k b o (fun z => hc (by simp [z])) e) (fun b o _ _ hc e _ => ⟨o.slots, k b o (fun z => hc (by simp [z])) e⟩) (fun _ _ _ _ n => n)
    (fun b o hc e => ⟨o, k b o (fun z => hc (by simp [z])) e⟩) (fun _ _ e => e) (fun _ _ _ e => e) (fun b ps e => ⟨#[], by rw [e]; simp⟩) (fun m hm => ?_) (fun b u e => ?_) I.bare
  · have e : b = it := by simpa using hb
    subst e
    exact ⟨h1, hL, h2, h3⟩
  · obtain ⟨o, es, ep, ho, r⟩ := hm
    exact ⟨o, es, ep, k _ o (Ne.symm hL) ho, r⟩
  · refine (I.hok b u e).stay (fun c v hc q => k c v ?_ q) (fun _ q => q) fun _ _ q => q
    rcases hc with z | z
    · rw [z]; exact nit b u e
    · exact nit c _ z
theorem Inv.tok (I : Inv X pins σ H s) (t : Nat) : Inv X pins σ H { s with toks := t } := I.un (h' := s.heap) (t' := t) Un.refl I.hok
/-- all objects kept -/
theorem Inv.kept {t' : Nat} (I : Inv X pins σ H s) (k : ∀ b u, s.heap.get? b = some u → h'.get? b = some u) : Inv X pins σ H { s with heap := h', toks := t' } := I.un (Un.kept k) (I.hok.kept k)
/-- a new object laid and tracked -/
theorem Inv.laid {a : Addr} {o : HO} {t' : Nat} (I : Inv X pins σ H s) (k : ∀ b u, s.heap.get? b = some u → h'.get? b = some u) (hp : s.heap.objs.size ≤ a) (new : ObjOk X.prog X.w (upd H a o) h' a o) :
    Inv X pins σ (upd H a o) { s with heap := h', toks := t' } := I.un (Un.laid k hp (I.hok.fresh hp)) (I.hok.laid k hp new)
/-- an object written -/
theorem Inv.write {x e : Addr} {o : HO} {t' : Nat} (I : Inv X pins σ H s) (mu : Mut (H x)) (he : e = x ∨ H e = some (.own x)) (k : ∀ b u, b ≠ e → s.heap.get? b = some u → h'.get? b = some u) (heo : ∃ u, h'.get? e = some u)
    (new : ObjOk X.prog X.w (upd H x o) h' x o) : Inv X pins σ (upd H x o) { s with heap := h', toks := t' } := I.un (Un.write mu he k heo) (I.hok.write mu he k heo new)
/-- forgetting slots, pins -/
theorem Inv.weak {σ' : List (Option V)} (I : Inv X pins σ H s) (hl : σ'.length = σ.length) (w : ∀ (i : Nat) v, σ'[i]? = some (some v) → σ[i]? = some (some v)) : Inv X pins σ' H s :=
  ⟨I.ok, I.os, I.bare, I.base, let ⟨m, hn, hl'⟩ := I.loc; ⟨m, hn, fun i x v e1 e2 e3 => hl' i x v e1 (w i v e2) e3⟩, I.cell, I.free, I.freeC, I.pin, I.hok, hl.trans I.len⟩
theorem Inv.pins_of {pins' : List (Addr × Obj)} (I : Inv X pins σ H s) (h : ∀ p ∈ pins', s.heap.get? p.1 = some p.2 ∧ H p.1 = none ∧ p.1 ≠ X.env.locals ∧ p.1 ∉ X.fs ∧ ∀ v, p.2.data ≠ .cell v) : Inv X pins' σ H s :=
  ⟨I.ok, I.os, I.bare, I.base, I.loc, I.cell, I.free, I.freeC, fun p hp => (List.mem_append.mp hp).elim (fun z => I.pin p (List.mem_append_left _ z)) (h p), I.hok, I.len⟩

theorem nodup_ix {N : List Str} (hN : N.Nodup) {i j : Nat} {x : Str} (a : N[i]? = some x) (b : N[j]? = some x) : i = j := by
  obtain ⟨h1, e1⟩ := List.getElem?_eq_some_iff.mp a
  obtain ⟨h2, e2⟩ := List.getElem?_eq_some_iff.mp b
  exact (List.getElem_inj hN).mp (e1.trans e2.symm)

/-- a name is stored; what changed -/
theorem store_ok2 {M : Model} {A : Around} {E : Value → Shared → Prop} {i : Nat} {x : Str} {v : V} {u : Value} {Q : Unit → Shared → Prop} (I : Inv X pins σ H s) (hN : X.N.Nodup) (hi : X.N[i]? = some x) (hx : Loc X.env.scope x) (r : RelV v u)
    (h : ∀ s', Inv X pins (σ.set i (some v)) H s' → (∃ a, Heap.SameBut a s.heap s'.heap ∧ (a = X.env.locals ∨ X.env.cells.lookup x = some a)) → Q () s') (hf : X.fn x = true ∨ X.env.scope.names.lookup x = some .local := by first | exact .inl rfl | exact .inr rfl | assumption) : wpAny M A (storeName X.env x u) Q E s := by
  obtain ⟨m, hn, hl⟩ := id I.loc
  have hcls : (X.env.scope.kind == .class || (X.env.scope.kind == .module && X.env.locals != X.env.globals)) = false := by rw [I.ok.kind]; rfl
  have hiσ : i < σ.length := by rw [I.len]; exact (List.getElem?_eq_some_iff.mp hi).1
  have cne := I.cne
  have tracked : ∀ {a : Addr} {h' : Heap}, (∃ o, s.heap.get? a = some o ∧ H a = none) → Heap.SameBut a s.heap h' → HOk X.prog X.w H h' := fun {a h'} ha hs b ob e => by
    obtain ⟨_, _, hfree⟩ := ha
    refine (I.hok b ob e).stay (fun c w' hc q => (hs.2 c ?_).trans q) (fun _ q => q) fun _ _ q => q
    rintro rfl
    rcases hc with rfl | hc
    · rw [hfree] at e; cases e
    · rw [hfree] at hc; cases hc
  rcases hx with hk | hk
  · refine wpAny_storeName_local hk hn (fun h' hn' hs => ?_) hcls
    obtain ⟨oL, _, _, hoL, _⟩ := id hn
    refine h _ ⟨I.ok, I.os, I.bare, ⟨fun b o e n hb hx => ?_, fun b o e n hb hx => ?_, I.base.free, fun b o e hx => ?_, I.base.tups, I.base.frzs, I.base.tbls⟩, ⟨_, hn', fun j y v' e1 e2 e3 => ?_⟩, fun y c e => ?_, I.free, I.freeC, fun p hp => ?_, tracked ⟨oL, hoL, I.free⟩ hs, by simpa using I.len⟩ ⟨_, hs, .inl rfl⟩
    · exact (hs.2 b (Nat.ne_of_lt (Nat.lt_of_lt_of_le (Heap.lt_size e) I.ok.above))).trans (I.base.keep b o e n hb hx)
    · obtain ⟨sl, e1⟩ := I.base.slot b o e n hb hx
      exact ⟨sl, (hs.2 b (Nat.ne_of_lt (Nat.lt_of_lt_of_le (Heap.lt_size e) I.ok.above))).trans e1⟩
    · obtain ⟨o', e1⟩ := I.base.there b o e hx
      exact ⟨o', (hs.2 b (Nat.ne_of_lt (Nat.lt_of_lt_of_le (Heap.lt_size e) I.ok.above))).trans e1⟩
    · by_cases hj : j = i
      · subst hj
        rw [hi] at e1; cases e1
        rw [List.getElem?_set_self hiσ] at e2
        cases e2
        exact ⟨u, r, .inl ⟨hk, by simp⟩⟩
      · rw [List.getElem?_set_ne (Ne.symm hj)] at e2
        obtain ⟨u', r', q⟩ := hl j y v' e1 e2 e3
        refine ⟨u', r', ?_⟩
        rcases q with ⟨k, e⟩ | ⟨k, c, e, z⟩
        · refine .inl ⟨k, ?_⟩
          have : y ≠ x := fun e => hj (nodup_ix hN e1 (e ▸ hi))
          simp [this, e]
        · exact .inr ⟨k, c, e, z.sameBut hs (cne y c e)⟩
    · obtain ⟨w', z⟩ := I.cell y c e
      exact ⟨w', z.sameBut hs (cne y c e)⟩
    · obtain ⟨e, n, ne, nf, d⟩ := I.pin p hp
      exact ⟨(hs.2 p.1 ne).trans e, n, ne, nf, d⟩
  · have hfn : X.fn x = true := by
      rcases hf with z | z
      · exact z
      · rw [z] at hk; cases hk
    obtain ⟨c, hc⟩ := I.ok.has x (.inl hk)
    obtain ⟨w', z⟩ := I.cell x c hc
    refine wpAny_storeName_cell I.ok.kind hk hc z (fun h' hc' hs => ?_)
    obtain ⟨oc, hoc, hocd⟩ := id z
    refine h { s with heap := h' } ⟨I.ok, I.os, I.bare, ⟨fun b o e n hb hx => ?_, fun b o e n hb hx => ?_, I.base.free, fun b o e hx => ?_, I.base.tups, I.base.frzs, I.base.tbls⟩, ⟨m, hn.sameBut hs (Ne.symm (cne x c hc)), fun j y v' e1 e2 e3 => ?_⟩, fun y c' e => ?_, I.free, I.freeC, fun p hp => ?_, tracked ⟨oc, hoc, I.freeC x c hc⟩ hs, by simpa using I.len⟩ ⟨c, hs, .inr hc⟩
    · exact (hs.2 b (Nat.ne_of_lt (Nat.lt_of_lt_of_le (Heap.lt_size e) (I.ok.cab x c hfn hc)))).trans (I.base.keep b o e n hb hx)
    · obtain ⟨sl, e1⟩ := I.base.slot b o e n hb hx
      exact ⟨sl, (hs.2 b (Nat.ne_of_lt (Nat.lt_of_lt_of_le (Heap.lt_size e) (I.ok.cab x c hfn hc)))).trans e1⟩
    · obtain ⟨o', e1⟩ := I.base.there b o e hx
      exact ⟨o', (hs.2 b (Nat.ne_of_lt (Nat.lt_of_lt_of_le (Heap.lt_size e) (I.ok.cab x c hfn hc)))).trans e1⟩
    · by_cases hj : j = i
      · subst hj
        rw [hi] at e1; cases e1
        rw [List.getElem?_set_self hiσ] at e2
        cases e2
        exact ⟨u, r, .inr ⟨.inl hk, c, hc, hc'⟩⟩
      · rw [List.getElem?_set_ne (Ne.symm hj)] at e2
        obtain ⟨u', r', q⟩ := hl j y v' e1 e2 e3
        refine ⟨u', r', ?_⟩
        rcases q with q | ⟨k, c', e, z'⟩
        · exact .inl q
        · refine .inr ⟨k, c', e, z'.sameBut hs ?_⟩
          rintro rfl
          exact hj (nodup_ix hN e1 (I.ok.inj _ _ _ e hc ▸ hi))
    · by_cases hcc : c' = c
      · subst hcc; exact ⟨_, hc'⟩
      · obtain ⟨w2, z2⟩ := I.cell y c' e
        exact ⟨w2, z2.sameBut hs hcc⟩
    · obtain ⟨e, n, ne, nf, d⟩ := I.pin p hp
      refine ⟨(hs.2 p.1 ?_).trans e, n, ne, nf, d⟩
      intro q
      rw [q, hoc] at e
      have q' : oc = p.2 := Option.some.inj e
      exact d w' (by rw [← q']; exact hocd)
theorem store_ok {M : Model} {A : Around} {E : Value → Shared → Prop} {i : Nat} {x : Str} {v : V} {u : Value} {Q : Unit → Shared → Prop} (I : Inv X pins σ H s) (hN : X.N.Nodup) (hi : X.N[i]? = some x) (hx : Loc X.env.scope x) (r : RelV v u)
    (h : ∀ s', Inv X pins (σ.set i (some v)) H s' → Q () s') (hf : X.fn x = true ∨ X.env.scope.names.lookup x = some .local := by first | exact .inl rfl | exact .inr rfl | assumption) : wpAny M A (storeName X.env x u) Q E s :=
  store_ok2 I hN hi hx r (fun s' I' _ => h s' I') hf
/-- behind a call or a block, the state as it is -/
theorem Inv.call' {s' : Shared} {ch : List Addr} (I : Inv X pins σ H s) (ho : s'.os = s.os) (u : Un (frs X.stack) ch H H' s.heap s'.heap) (hok : HOk X.prog X.w H' s'.heap) (hg : AllBare s'.gens)
    (hch : ∀ b ∈ ch, (b ∈ X.ex ∨ X.s₀.heap.objs.size ≤ b) ∧ b ≠ X.env.locals ∧ (∀ x c, X.env.cells.lookup x = some c → c ≠ b) ∧ ∀ p ∈ X.pn ++ pins, p.1 ≠ b) : Inv X pins σ H' s' := by
  obtain ⟨h', g', d', t', o'⟩ := s'
  have e : o' = s.os := ho
  subst e
  exact I.call (g' := g') (t' := t') (d' := d') u hok hg hch
end

/-! ### the judgements -/
/-- an exception: its class, its own dict's address (where it has one), the abstract heap behind it -/
abbrev XK := Value → Option Addr → Hp → Prop
abbrev St := List (Option V)
abbrev VK := V → Hp → Prop
/-- an expression's reading; a test's; an argument list's -/
abbrev TE := St → Hp → VK → Prop
abbrev TT := St → Hp → (Bool → Hp → Prop) → Prop
abbrev TA := St → Hp → (List V → Hp → Prop) → Prop
/-- what is wanted behind a statement -/
structure Ends where
  nx : St → Hp → Prop
  rt : VK
  bk : St → Hp → Prop := fun _ _ => False
  ct : St → Hp → Prop := fun _ _ => False
abbrev TS := Ends → St → Hp → Prop

def EP (X : Cx) (pins : List (Addr × Obj)) (σ : St) (Q : VK) (u : Value) (s' : Shared) : Prop := ∃ v H', Inv X pins σ H' s' ∧ RelV v u ∧ Q v H'
def TP (X : Cx) (pins : List (Addr × Obj)) (σ : St) (Q : Bool → Hp → Prop) (b : Bool) (s' : Shared) : Prop := ∃ H', Inv X pins σ H' s' ∧ Q b H'
def AP (X : Cx) (pins : List (Addr × Obj)) (σ : St) (Q : List V → Hp → Prop) (us : List Value) (s' : Shared) : Prop := ∃ vs H', Inv X pins σ H' s' ∧ Vals vs us ∧ Q vs H'
def SP (X : Cx) (pins : List (Addr × Obj)) (D : Ends) (f : Flow) (s' : Shared) : Prop :=
  match f with
  | .next => ∃ σ' H', Inv X pins σ' H' s' ∧ D.nx σ' H'
  | .brk => ∃ σ' H', Inv X pins σ' H' s' ∧ D.bk σ' H'
  | .cont => ∃ σ' H', Inv X pins σ' H' s' ∧ D.ct σ' H'
  | .ret u => ∃ v σ' H', Inv X pins σ' H' s' ∧ RelV v u ∧ D.rt v H'

def PE (X : Cx) (e : Expr) (t : TE) : Prop :=
  ∀ (pins : List (Addr × Obj)) (s : Shared) (σ : St) (H : Hp) (Q : VK), Inv X pins σ H s → t σ H Q → wpAny (model X.prog X.w) X.A (eval e X.env) (EP X pins σ Q) X.xe s
def PT (X : Cx) (e : Expr) (t : TT) : Prop :=
  ∀ (pins : List (Addr × Obj)) (s : Shared) (σ : St) (H : Hp) (Q : Bool → Hp → Prop), Inv X pins σ H s → t σ H Q → wpAny (model X.prog X.w) X.A (isTrue e X.env (eval e X.env)) (TP X pins σ Q) X.xe s
/-- a test whatever its 'whole' is (and, or) -/
def PW (X : Cx) (e : Expr) (t : TT) : Prop :=
  ∀ (whole : Sem Value) (pins : List (Addr × Obj)) (s : Shared) (σ : St) (H : Hp) (Q : Bool → Hp → Prop), Inv X pins σ H s → t σ H Q → wpAny (model X.prog X.w) X.A (isTrue e X.env whole) (TP X pins σ Q) X.xe s
theorem PW.pt {X : Cx} {e : Expr} {t : TT} (h : PW X e t) : PT X e t := h _
/-- an argument list (no star), from the left -/
def PA (X : Cx) (es : List Expr) (t : TA) : Prop :=
  ∀ (pos : Pos) (pins : List (Addr × Obj)) (s : Shared) (σ : St) (H : Hp) (Q : List V → Hp → Prop), Inv X pins σ H s → t σ H Q → wpAny (model X.prog X.w) X.A (spliced (backTo pos (starEach es X.env))) (AP X pins σ Q) X.xe s
def PS (X : Cx) (st : Stmt) (t : TS) : Prop :=
  ∀ (pins : List (Addr × Obj)) (s : Shared) (σ : St) (H : Hp) (D : Ends), Inv X pins σ H s → t D σ H → wpAny (model X.prog X.w) X.A (exec st X.env) (SP X pins D) X.xe s
def PSs (X : Cx) (st : List Stmt) (t : TS) : Prop :=
  ∀ (pins : List (Addr × Obj)) (s : Shared) (σ : St) (H : Hp) (D : Ends), Inv X pins σ H s → t D σ H → wpAny (model X.prog X.w) X.A (execs st X.env) (SP X pins D) X.xe s
/-- weaken the end -/
theorem thn {α : Type} {t : Sem α} {Q Q' : α → Shared → Prop} {M : Model} {A : Around} {E : Value → Shared → Prop} {s : Shared} (h : wpAny M A t Q E s) (hQ : ∀ a s, Q a s → Q' a s) : wpAny M A t Q' E s := wpAny_mono h hQ fun _ _ x => x
end L2

namespace L2
open PySem PySem.Spec PyProof.Rows
section
variable {X : Cx}

/-- two expressions in a row -/
theorem bin {a b : Expr} {ta tb : TE} (ha : PE X a ta) (hb : PE X b tb) {pins : List (Addr × Obj)} {s : Shared} {σ : St} {H : Hp} {R : V → V → Hp → Prop} (I : Inv X pins σ H s) (h : ta σ H fun x H1 => tb σ H1 fun y H2 => R x y H2)
    {α : Type} {Q : α → Shared → Prop} {f : Value → Value → Sem α}
    (hf : ∀ v u s2 x y H2, Inv X pins σ H2 s2 → RelV x v → RelV y u → R x y H2 → wpAny (model X.prog X.w) X.A (f v u) Q X.xe s2) :
    wpAny (model X.prog X.w) X.A (eval a X.env) (fun v s₁ => wpAny (model X.prog X.w) X.A (eval b X.env) (fun u s₂ => wpAny (model X.prog X.w) X.A (f v u) Q X.xe s₂) X.xe s₁) X.xe s := by
  refine thn (ha pins s σ H _ I h) fun v s1 ⟨x, H1, I1, r1, q1⟩ => ?_
  refine thn (hb pins s1 σ H1 _ I1 q1) fun u s2 ⟨y, H2, I2, r2, q2⟩ => ?_
  exact hf v u s2 x y H2 I2 r1 r2 q2

/-! ### names and constants -/
def tVar (i : Nat) : TE := fun σ H Q => ∃ v, σ[i]? = some (some v) ∧ Q v H
def tC (v : V) : TE := fun _ H Q => Q v H
theorem pe_var {i : Nat} {x : Str} {pos : Pos} (hN : X.N[i]? = some x) (hv : Vis X.env.scope x) (hd : (x == ("__debug__" : Str)) = false := by decide) (hcd : (x == ("__classdict__" : Str)) = false := by decide) : PE X (.Name x pos) (tVar i) := by
  intro pins s σ H Q I h
  obtain ⟨v, e, h⟩ := h
  obtain ⟨m, hn, hl⟩ := I.loc
  obtain ⟨u, r, l⟩ := hl i x v hN e hv
  have fin : EP X pins σ Q u s := ⟨v, H, I, r, h⟩
  rcases l with ⟨hk, hm⟩ | ⟨hk, c, hc, hcell⟩
  · exact wpAny_Name (wpAny_loadName_local I.ok.kind hk hn hm fin) hd
  · rcases hk with hk | hk
    · exact wpAny_Name (wpAny_loadName_cell I.ok.kind hk hc hcell fin) hd
    · exact wpAny_Name (wpAny_loadName_free I.ok.kind hk hc hcell fin hcd) hd
theorem pe_int {i j pos} : PE X (.Constant (.int i) j pos) (tC (.int i)) := fun _ _ _ H _ I h => wpAny_Constant_int ⟨.int i, H, I.tok _, ⟨_, rfl⟩, h⟩
theorem pe_bl {b j pos} : PE X (.Constant (.bool b) j pos) (tC (.bl b)) := fun _ _ _ H _ I h => Constant_bool ⟨.bl b, H, I, rfl, h⟩
/-- a global name of the def -/
def Gl (X : Cx) (x : Str) : Prop := X.env.kindOf x = some .globalImplicit
theorem ld_glob {E : Value → Shared → Prop} {pins : List (Addr × Obj)} {s : Shared} {σ : St} {H : Hp} {x : Str} {u : Value} {pos : Pos} {Q : Value → Shared → Prop} (I : Inv X pins σ H s) (hg : Gl X x) (hm : X.mg x = some u) (h : Q u s)
    (hd : (x == ("__debug__" : Str)) = false := by decide) : wpAny (model X.prog X.w) X.A (eval (.Name x pos) X.env) Q E s :=
  Calls.Name_function_global I.ok.kind hg (Calls.loadGlobal_global (by rw [I.ok.glob]; exact I.mod.glob.keeps I.bk) hm h) hd
theorem ld_blt {E : Value → Shared → Prop} {pins : List (Addr × Obj)} {s : Shared} {σ : St} {H : Hp} {x : Str} {u : Value} {pos : Pos} {Q : Value → Shared → Prop} (I : Inv X pins σ H s) (hg : Gl X x) (hm : X.mg x = none) (hv : bootBuiltins x = some u) (h : Q u s)
    (hn : x ≠ "__name__" := by decide) (hd : (x == ("__debug__" : Str)) = false := by decide) : wpAny (model X.prog X.w) X.A (eval (.Name x pos) X.env) Q E s := by
  obtain ⟨mb, h1, h2⟩ := I.mod.blt
  exact Calls.Name_function_global I.ok.kind hg (Calls.loadGlobal_builtin (by rw [I.ok.glob]; exact I.mod.glob.keeps I.bk) hm (by rw [I.ok.blt]; exact h1.keeps I.bk) ((h2 x hn).trans hv) h) hd
/-! ### arithmetic -/
/-- two ints -/
def t2I (ta tb : TE) (k : Int → Int → Hp → Prop) : St → Hp → Prop := fun σ H => ta σ H fun x H1 => tb σ H1 fun y H2 => ∃ i j, x = .int i ∧ y = .int j ∧ k i j H2
def tAdd (ta tb : TE) : TE := fun σ H Q => t2I ta tb (fun i j H2 => Q (.int (i + j)) H2) σ H
def tSub (ta tb : TE) : TE := fun σ H Q => t2I ta tb (fun i j H2 => Q (.int (i - j)) H2) σ H
/-- the left factor below 2^64 -/
def tMul (ta tb : TE) : TE := fun σ H Q => t2I ta tb (fun i j H2 => (-(2 ^ 64) < i ∧ i < 2 ^ 64) ∧ Q (.int (i * j)) H2) σ H
variable {a b : Expr} {ta tb : TE} {pos : Pos}
/-! ### comparisons -/
def PC (X : Cx) (op : CmpOp) (a b : Expr) (t : TE) : Prop :=
  ∀ (pins : List (Addr × Obj)) (s : Shared) (σ : St) (H : Hp) (Q : VK), Inv X pins σ H s → t σ H Q →
    wpAny (model X.prog X.w) X.A (eval a X.env) (fun v s₁ => wpAny (model X.prog X.w) X.A (eval b X.env) (fun u s₂ => wpAny (model X.prog X.w) X.A (compareOp op v u) (EP X pins σ Q) X.xe s₂) X.xe s₁) X.xe s
def tCmp (p : Int → Int → Bool) (ta tb : TE) : TE := fun σ H Q => t2I ta tb (fun i j H2 => Q (.bl (p i j)) H2) σ H
abbrev tLt : TE → TE → TE := tCmp fun i j => decide (i < j)
abbrev tLe : TE → TE → TE := tCmp fun i j => decide (i ≤ j)
abbrev tGt : TE → TE → TE := tCmp fun i j => decide (j < i)
abbrev tGe : TE → TE → TE := tCmp fun i j => decide (j ≤ i)
abbrev tEqI : TE → TE → TE := tCmp fun i j => decide (i = j)
abbrev tNeI : TE → TE → TE := tCmp fun i j => !decide (i = j)
/-- a comparison of two ints, by its rule -/
theorem pc_int {op : CmpOp} {p : Int → Int → Bool} (ha : PE X a ta) (hb : PE X b tb)
    (rule : ∀ (i j : Int) (t u : Tok) (Q : Value → Shared → Prop) (s : Shared), Q (.bool (p i j)) s → wpAny (model X.prog X.w) X.A (compareOp op (.int i t) (.int j u)) Q X.xe s) : PC X op a b (tCmp p ta tb) := by
  intro pins s σ H Q I h
  refine bin ha hb I h fun v u s2 x y H2 I2 rx ry q => ?_
  obtain ⟨i, j, rfl, rfl, q⟩ := q
  obtain ⟨t, rfl⟩ := rx
  obtain ⟨t', rfl⟩ := ry
  exact rule i j t t' _ s2 ⟨.bl _, H2, I2, rfl, q⟩
theorem pc_le (ha : PE X a ta) (hb : PE X b tb) : PC X .LtE a b (tLe ta tb) := pc_int ha hb fun _ _ _ _ _ _ h => le_int h
/-- is None -/
def tIsN (ta : TE) : TE := fun σ H Q => ta σ H fun x H1 => Q (.bl (decide (x = .non))) H1
def tNotN (ta : TE) : TE := fun σ H Q => ta σ H fun x H1 => Q (.bl (!decide (x = .non))) H1
/-- a comparison as a value, as a test -/
def tB (t : TE) : TT := fun σ H Q => t σ H fun x H1 => ∃ c, x = .bl c ∧ Q c H1
/-! ### and, or, not -/
variable {tA tB' : TT} {rest : List Expr}
def tAnd (t u : TT) : TT := fun σ H Q => t σ H fun c H1 => if c = true then u σ H1 Q else Q false H1
def tOr (t u : TT) : TT := fun σ H Q => t σ H fun c H1 => if c = true then Q true H1 else u σ H1 Q
def tNot (t : TT) : TT := fun σ H Q => t σ H fun c H1 => Q (!c) H1
theorem pw_and1 (ha : PT X a tA) : PW X (.BoolOp .And [a] pos) tA := by
  intro wh pins s σ H Q I h
  refine isTrue_and (thn (ha pins s σ H Q I h) fun c s1 e => ?_)
  cases c with
  | true => exact isTrue_and_nil e
  | false => exact e
theorem pw_or1 (ha : PT X a tA) : PW X (.BoolOp .Or [a] pos) tA := by
  intro wh pins s σ H Q I h
  refine isTrue_or (thn (ha pins s σ H Q I h) fun c s1 e => ?_)
  cases c with
  | false => exact isTrue_or_nil e
  | true => exact e
theorem pw_and (ha : PT X a tA) (hb : PW X (.BoolOp .And (b :: rest) pos) tB') : PW X (.BoolOp .And (a :: b :: rest) pos) (tAnd tA tB') := by
  intro wh pins s σ H Q I h
  refine isTrue_and (thn (ha pins s σ H _ I h) fun c s1 ⟨H1, I1, q1⟩ => ?_)
  cases c with
  | true => exact hb wh pins s1 σ H1 Q I1 q1
  | false => exact ⟨H1, I1, q1⟩
theorem pw_or (ha : PT X a tA) (hb : PW X (.BoolOp .Or (b :: rest) pos) tB') : PW X (.BoolOp .Or (a :: b :: rest) pos) (tOr tA tB') := by
  intro wh pins s σ H Q I h
  refine isTrue_or (thn (ha pins s σ H _ I h) fun c s1 ⟨H1, I1, q1⟩ => ?_)
  cases c with
  | true => exact ⟨H1, I1, q1⟩
  | false => exact hb wh pins s1 σ H1 Q I1 q1
/-- .. as values (bools) -/
def tAndV (ta tb : TE) : TE := fun σ H Q => ta σ H fun x H1 => ∃ c, x = .bl c ∧ if c = true then tb σ H1 Q else Q (.bl false) H1
def tOrV (ta tb : TE) : TE := fun σ H Q => ta σ H fun x H1 => ∃ c, x = .bl c ∧ if c = true then Q (.bl true) H1 else tb σ H1 Q
def tNotV (ta : TE) : TE := fun σ H Q => ta σ H fun x H1 => ∃ c, x = .bl c ∧ Q (.bl (!c)) H1
/-- a if t else b -/
def tIf (t : TT) (ta tb : TE) : TE := fun σ H Q => t σ H fun c H1 => if c = true then ta σ H1 Q else tb σ H1 Q
theorem pe_ifExp {c : Expr} (hc : PT X c tA) (ha : PE X a ta) (hb : PE X b tb) : PE X (.IfExp c a b pos) (tIf tA ta tb) := by
  intro pins s σ H Q I h
  refine wpAny_IfExp (thn (hc pins s σ H _ I h) fun d s1 ⟨H1, I1, q1⟩ => ?_)
  cases d with
  | true => exact ha pins s1 σ H1 Q I1 q1
  | false => exact hb pins s1 σ H1 Q I1 q1
end
end L2

namespace L2
open PySem PySem.Spec PyProof.Rows

/-! ### a list, a tuple that is read: tracked, frozen, or an object of the module -/
def SqL (K : PySem.W.Frag) (H : Hp) (a : Addr) (xs : List V) : Prop :=
  Rd H a (.lst xs) ∨
    ∃ (o : Obj) (its : Array Value) (n : Nat), K.lookup a = some o ∧ o.cls = .type "list" ∧ o.dict = none ∧ o.data = .seq its n ∧ its.size ≤ sizeLine ∧ Vals xs its.toList
def SqT (K : PySem.W.Frag) (H : Hp) (a : Addr) (xs : List V) : Prop :=
  Rd H a (.tup xs) ∨
    ∃ (o : Obj) (its : Array Value) (n : Nat), K.lookup a = some o ∧ o.cls = .type "tuple" ∧ o.data = .seq its n ∧ its.size ≤ sizeLine ∧ Vals xs its.toList
def absV : Value → Option V
  | .none => some .non
  | .bool b => some (.bl b)
  | .int i _ => some (.int i)
  | .str x _ => some (.str x)
  | .bytes b _ => some (.byt b)
  | .float b _ => some (.flt b)
  | .ref a => some (.ref a)
  | .type n => some (.ty n)
  | _ => none
theorem RelV.abs {x : V} {u : Value} (r : RelV x u) : absV u = some x := by
  cases x with
  | non => cases r; rfl
  | bl _ => cases r; rfl
  | int _ => obtain ⟨t, rfl⟩ := r; rfl
  | str _ => obtain ⟨t, rfl⟩ := r; rfl
  | byt _ => obtain ⟨t, rfl⟩ := r; rfl
  | flt _ => obtain ⟨t, rfl⟩ := r; rfl
  | ref _ => cases r; rfl
  | ty _ => cases r; rfl
theorem RelV.inj {x y : V} {u : Value} (r : RelV x u) (q : RelV y u) : x = y := Option.some.inj (r.abs.symm.trans q.abs)
theorem Vals.inj : ∀ {xs ys : List V} {us : List Value}, Vals xs us → Vals ys us → xs = ys
  | _, _, _, .nil, .nil => rfl
  | _, _, _, .cons r t, .cons r' t' => by rw [r.inj r', Vals.inj t t']
section
variable {X : Cx} {pins : List (Addr × Obj)} {σ : St} {H : Hp} {s : Shared} {a : Addr} {xs ys : List V}
theorem SqL.of {K : PySem.W.Frag} (h : H a = some (.lst xs)) : SqL K H a xs := .inl (.inl h)
theorem SqT.of {K : PySem.W.Frag} (h : H a = some (.tup xs)) : SqT K H a xs := .inl (.inl h)
theorem Inv.list (I : Inv X pins σ H s) (h : SqL X.K H a xs) : ∃ its : List Value, Vals xs its ∧ PlainL s.heap a its.toArray ∧ xs.length ≤ sizeLine := by
  rcases h with h | ⟨o, its, n, hk, hc, hd, hs, hz, r⟩
  · obtain ⟨z, its, n, r, e⟩ := h.ok I.hok
    exact ⟨its, r, ⟨_, n, e, rfl, rfl, rfl⟩, z⟩
  · refine ⟨its.toList, r, ⟨o, n, I.kIn a o hk, hc, hd, by simpa using hs⟩, ?_⟩
    have e := r.length
    simp only [Array.length_toList] at e
    omega
theorem Inv.tuple (I : Inv X pins σ H s) (h : SqT X.K H a xs) : ∃ its : List Value, Vals xs its ∧ IsTup s.heap a its.toArray ∧ xs.length ≤ sizeLine := by
  rcases h with h | ⟨o, its, n, hk, hc, hs, hz, r⟩
  · obtain ⟨z, its, r, p⟩ := h.ok I.hok
    exact ⟨its, r, p, z⟩
  · refine ⟨its.toList, r, ⟨o, I.kIn a o hk, hc, n, by simpa using hs⟩, ?_⟩
    have e := r.length
    simp only [Array.length_toList] at e
    omega
theorem Inv.list_inj (I : Inv X pins σ H s) (h : SqL X.K H a xs) (h' : SqL X.K H a ys) : xs = ys := by
  obtain ⟨its, r, ⟨o, n, e, _, _, d⟩, _⟩ := I.list h
  obtain ⟨its', r', ⟨o', n', e', _, _, d'⟩, _⟩ := I.list h'
  rw [e] at e'; cases e'
  rw [d] at d'
  injection d' with d1 _
  have : its = its' := by simpa using congrArg Array.toList d1
  subst this
  exact r.inj r'
end

/-! ### another wish about exceptions -/
abbrev Cx.wish (X : Cx) (E : Value → Shared → Prop) : Cx := { X with xe := E }
/-- no exception leaves -/
abbrev Cx.nox (X : Cx) : Cx := X.wish fun _ _ => False
theorem Cx.Ok.wish {X : Cx} (ok : X.Ok) (E : Value → Shared → Prop) : (X.wish E).Ok :=
  ⟨ok.mod, ok.kind, ok.glob, ok.blt, ok.above, ok.inj, ok.has, ok.cab, ok.hd, ok.frames, ok.stk, ok.exf, ok.bs, ok.bsz, ok.noex, ok.exfs, ok.funs, ok.frf⟩
theorem Cx.Ok.unwish {X : Cx} {E : Value → Shared → Prop} (ok : (X.wish E).Ok) : X.Ok :=
  ⟨ok.mod, ok.kind, ok.glob, ok.blt, ok.above, ok.inj, ok.has, ok.cab, ok.hd, ok.frames, ok.stk, ok.exf, ok.bs, ok.bsz, ok.noex, ok.exfs, ok.funs, ok.frf⟩
section
variable {X : Cx} {pins : List (Addr × Obj)} {σ : St} {H : Hp} {s : Shared} {E : Value → Shared → Prop}
theorem Inv.wish (I : Inv X pins σ H s) (E : Value → Shared → Prop) : Inv (X.wish E) pins σ H s := ⟨I.ok.wish E, I.os, I.bare, I.base, I.loc, I.cell, I.free, I.freeC, I.pin, I.hok, I.len⟩
theorem Inv.unwish (I : Inv (X.wish E) pins σ H s) : Inv X pins σ H s := ⟨I.ok.unwish, I.os, I.bare, I.base, I.loc, I.cell, I.free, I.freeC, I.pin, I.hok, I.len⟩
theorem SP.unwish {D : Ends} {f : Flow} {s' : Shared} (h : SP (X.wish E) pins D f s') : SP X pins D f s' := by
  cases f with
  | next => obtain ⟨σ', H', I, q⟩ := h; exact ⟨σ', H', I.unwish, q⟩
  | brk => obtain ⟨σ', H', I, q⟩ := h; exact ⟨σ', H', I.unwish, q⟩
  | cont => obtain ⟨σ', H', I, q⟩ := h; exact ⟨σ', H', I.unwish, q⟩
  | ret u => obtain ⟨v, σ', H', I, r, q⟩ := h; exact ⟨v, σ', H', I.unwish, r, q⟩
theorem PE.nox {e : Expr} {t : TE} (h : PE X.nox e t) : PE X e t := fun pins s σ H Q I hw =>
  wpAny_mono (h pins s σ H Q (I.wish _) hw) (fun _ _ ⟨v, H', I', r, q⟩ => ⟨v, H', I'.unwish, r, q⟩) fun _ _ z => False.elim z
theorem PT.nox {e : Expr} {t : TT} (h : PT X.nox e t) : PT X e t := fun pins s σ H Q I hw =>
  wpAny_mono (h pins s σ H Q (I.wish _) hw) (fun _ _ ⟨H', I', q⟩ => ⟨H', I'.unwish, q⟩) fun _ _ z => False.elim z
theorem PSs.nox {st : List Stmt} {t : TS} (h : PSs X.nox st t) : PSs X st t := fun pins s σ H D I hw =>
  wpAny_mono (h pins s σ H D (I.wish _) hw) (fun _ _ q => q.unwish) fun _ _ z => False.elim z
end

/-! ### blocks and small statements -/
section
variable {X : Cx} {st : Stmt} {rest : List Stmt} {t u : TS} {e : Expr} {te : TE} {pos : Pos}
def tNext : TS := fun D σ H => D.nx σ H
def tSeq (t u : TS) : TS := fun D σ H => t { D with nx := u D } σ H
theorem pss_nil : PSs X [] tNext := fun _ _ σ H _ I h => wpAny_execs_nil ⟨σ, H, I, h⟩
theorem pss_cons (h1 : PS X st t) (h2 : PSs X rest u) : PSs X (st :: rest) (tSeq t u) := by
  intro pins s σ H D I h
  refine wpAny_execs_cons (thn (h1 pins s σ H { D with nx := u D } I h) fun f s1 q => ?_)
  cases f with
  | next =>
    obtain ⟨σ', H', I', q⟩ := q
    exact h2 pins s1 σ' H' D I' q
  | ret v => exact q
  | brk => exact q
  | cont => exact q
theorem pss_one (h1 : PS X st t) : PSs X [st] t := by
  intro pins s σ H D I h
  refine wpAny_execs_cons (thn (h1 pins s σ H D I h) fun f s1 q => ?_)
  cases f with
  | next => exact wpAny_execs_nil q
  | ret v => exact q
  | brk => exact q
  | cont => exact q
def tBreak : TS := fun D σ H => D.bk σ H
def tCont : TS := fun D σ H => D.ct σ H
/-- in a def's body nothing is shown -/
theorem Inv.quiet {pins : List (Addr × Obj)} {σ : St} {H : Hp} {s : Shared} (I : Inv X pins σ H s) : interactive X.env = false := by simp [interactive, I.ok.kind]
/-- an expression whose value is dropped -/
def tDrop (te : TE) : TS := fun D σ H => te σ H fun _ H1 => D.nx σ H1
theorem ps_expr (he : PE X e te) (hs : swapsWith e none pos.line X.env = pure false := by rfl) : PS X (.Expr e pos) (tDrop te) := by
  intro pins s σ H D I h
  exact wpAny_Expr_any (thn (he pins s σ H _ I h) fun v s1 ⟨x, H1, I1, r1, q1⟩ => ⟨σ, H1, I1, q1⟩) I.quiet hs
def tRet (te : TE) : TS := fun D σ H => te σ H D.rt
theorem ps_ret (he : PE X e te) : PS X (.Return (some e) pos) (tRet te) := by
  intro pins s σ H D I h
  exact wpAny_Return_some (thn (he pins s σ H _ I h) fun v s1 ⟨x, H1, I1, r1, q1⟩ => ⟨x, σ, H1, I1, r1, q1⟩)
def tRetN : TS := fun D _ H => D.rt .non H
def tIfS (c : TT) (t u : TS) : TS := fun D σ H => c σ H fun b H1 => if b = true then t D σ H1 else u D σ H1
theorem ps_if {c : Expr} {a b : List Stmt} {tc : TT} (hc : PT X c tc) (ha : PSs X a t) (hb : PSs X b u) : PS X (.If c a b pos) (tIfS tc t u) := by
  intro pins s σ H D I h
  refine wpAny_If (thn (hc pins s σ H _ I h) fun d s1 ⟨H1, I1, q1⟩ => ?_)
  cases d with
  | true => exact ha pins s1 σ H1 D I1 q1
  | false => exact hb pins s1 σ H1 D I1 q1
/-- code that the proof never comes to -/
def tNever : TS := fun _ _ _ => False
end

/-! ### targets -/
abbrev TG := V → St → Hp → (St → Hp → Prop) → Prop
abbrev TGs := List V → St → Hp → (St → Hp → Prop) → Prop
def PG (X : Cx) (target : Expr) (t : TG) : Prop :=
  ∀ (pins : List (Addr × Obj)) (s : Shared) (σ : St) (H : Hp) (v : V) (u : Value) (Q : St → Hp → Prop), Inv X pins σ H s → RelV v u → t v σ H Q →
    wpAny (model X.prog X.w) X.A (assign target X.env u) (fun _ s' => ∃ σ' H', Inv X pins σ' H' s' ∧ Q σ' H') X.xe s
/-- several targets, one after another -/
def PGs (X : Cx) (ts : List Expr) (t : TGs) : Prop :=
  ∀ (pins : List (Addr × Obj)) (s : Shared) (σ : St) (H : Hp) (vs : List V) (us : List Value) (Q : St → Hp → Prop), Inv X pins σ H s → Vals vs us → t vs σ H Q →
    wpAny (model X.prog X.w) X.A (assignInOrder ((assignEach ts X.env).map (·.2)) us) (fun _ s' => ∃ σ' H', Inv X pins σ' H' s' ∧ Q σ' H') X.xe s
/-- o[i] = v, by values -/
abbrev TSet := V → V → V → Hp → (Hp → Prop) → Prop
def PSet (X : Cx) (t : TSet) : Prop :=
  ∀ (pins : List (Addr × Obj)) (s : Shared) (σ : St) (H : Hp) (o i v : V) (ov iv u : Value) (Q : Hp → Prop), Inv X pins σ H s → RelV o ov → RelV i iv → RelV v u → t o i v H Q →
    wpAny (model X.prog X.w) X.A (setItem ov iv u) (fun _ s' => ∃ H', Inv X pins σ H' s' ∧ Q H') X.xe s
/-- a op= b, by values -/
abbrev TIp := V → V → Hp → VK → Prop
def PIp (X : Cx) (op : Operator) (t : TIp) : Prop :=
  ∀ (pins : List (Addr × Obj)) (s : Shared) (σ : St) (H : Hp) (x y : V) (v u : Value) (Q : VK), Inv X pins σ H s → RelV x v → RelV y u → t x y H Q →
    wpAny (model X.prog X.w) X.A (inplaceOp op v u) (EP X pins σ Q) X.xe s
section
variable {X : Cx} {pos : Pos}
def gName (i : Nat) : TG := fun v σ H Q => Q (σ.set i (some v)) H
theorem pg_name {i : Nat} {x : Str} (hN : X.N.Nodup) (hi : X.N[i]? = some x) (hx : Loc X.env.scope x) (hf : X.fn x = true ∨ X.env.scope.names.lookup x = some .local := by first | exact .inl rfl | exact .inr rfl | assumption) : PG X (.Name x pos) (gName i) := by
  intro pins s σ H v u Q I r h
  exact wpAny_assign_Name (store_ok I hN hi hx r (fun s' I' => ⟨_, H, I', h⟩) hf)
def gNil : TGs := fun vs σ H Q => vs = [] ∧ Q σ H
def gCons (t : TG) (u : TGs) : TGs := fun vs σ H Q => ∃ v r, vs = v :: r ∧ t v σ H fun σ' H' => u r σ' H' Q
theorem pgs_nil : PGs X [] gNil := by
  intro pins s σ H vs us Q I r h
  obtain ⟨e, h⟩ := h
  subst e
  cases r
  exact assignInOrder_nil ⟨σ, H, I, h⟩
theorem pgs_cons {e : Expr} {es : List Expr} {t : TG} {u : TGs} (h1 : PG X e t) (h2 : PGs X es u)
    (hs : (assignEach (e :: es) X.env).map (·.2) = assign e X.env :: (assignEach es X.env).map (·.2) := by rfl) : PGs X (e :: es) (gCons t u) := by
  intro pins s σ H vs us Q I r h
  obtain ⟨v, vr, e1, h⟩ := h
  subst e1
  cases r with
  | cons r rr =>
    rw [hs]
    refine assignInOrder_cons (thn (h1 pins s σ H _ _ _ I r h) fun _ s1 ⟨σ1, H1, I1, q1⟩ => ?_)
    exact h2 pins s1 σ1 H1 _ _ Q I1 rr q1
/-- (a, b, ..) = a tuple of that length -/
def gTup (K : PySem.W.Frag) (n : Nat) (t : TGs) : TG := fun v σ H Q => ∃ a xs, v = .ref a ∧ SqT K H a xs ∧ xs.length = n ∧ t xs σ H Q
theorem pg_tup {es : List Expr} {k : Nat} {t : TGs} {n : Nat} (hc : X.calm = true) (h : PGs X es t)
    (hn : (assignEach es X.env).length = n := by rfl) (hst : (assignEach es X.env).findIdx? (·.1) = none := by rfl) : PG X (.Tuple es k pos) (gTup X.K n t) := by
  intro pins s σ H v u Q I r hw
  obtain ⟨a, xs, e1, hq, hl, hw⟩ := hw
  subst e1
  cases r
  obtain ⟨its, rv, ht, hz⟩ := I.tuple hq
  refine assign_Tuple_tuple (I.ok.hd hc) ht (by simp [hn, ← hl, rv.length]) hst fun h' hx => ?_
  have I1 : Inv X pins σ H { s with heap := h' } := I.kept (t' := s.toks) fun b o e => hx b o (Nat.ne_of_lt (Heap.lt_size e)) e
  exact h pins _ σ H xs _ Q I1 (by simpa using rv) hw
/-- o[i] = .. -/
def gSub (to ti : TE) (t : TSet) : TG := fun v σ H Q => to σ H fun o H1 => ti σ H1 fun i H2 => t o i v H2 fun H3 => Q σ H3
theorem pg_sub {o i : Expr} {to ti : TE} {t : TSet} (ho : PE X o to) (hi : PE X i ti) (hs : PSet X t)
    (ha : ∀ v, assign (.Subscript o i pos) X.env v = (do
      let ov ← holding [v] (eval o X.env)
      let iv ← holding [v, ov] (eval i X.env)
      standAt pos
      holding [v, ov, iv] (setItem ov iv v)
      release [v, ov, iv] []) := by intro _; rfl) : PG X (.Subscript o i pos) (gSub to ti t) := by
  intro pins s σ H v u Q I r h
  rw [ha]
  refine wpAny_bind (wpAny_holding (thn (ho pins s σ H _ I h) fun ov s1 ⟨x, H1, I1, r1, q1⟩ => ?_))
  refine wpAny_bind (wpAny_holding (thn (hi pins s1 σ H1 _ I1 q1) fun iv s2 ⟨y, H2, I2, r2, q2⟩ => ?_))
  refine wpAny_bind (wpAny_standAt (wpAny_bind (wpAny_holding (thn (hs pins s2 σ H2 x y v ov iv u _ I2 r1 r2 r q2) fun _ s3 ⟨H3, I3, q3⟩ => ?_))))
  exact wpAny_release ⟨σ, H3, I3, q3⟩
/-- target = value -/
def tAsg (te : TE) (g : TG) : TS := fun D σ H => te σ H fun x H1 => g x σ H1 D.nx
theorem ps_asg {tg e : Expr} {te : TE} {g : TG} (he : PE X e te) (hg : PG X tg g) (hs : swapsWithSole [tg] e pos.line X.env = pure false := by rfl) (hw : swappedStores [tg] e X.env = pure none := by rfl)
    (h1 : (assignEach [tg] X.env).map (·.2) = [assign tg X.env] := by rfl) : PS X (.Assign [tg] e pos) (tAsg te g) := by
  intro pins s σ H D I h
  refine wpAny_Assign_stores (thn (he pins s σ H _ I h) fun v s1 ⟨x, H1, I1, r1, q1⟩ => ?_) hs hw
  rw [h1]
  exact thn (hg pins s1 σ H1 x v _ I1 r1 q1) fun _ s2 q => q
/-- name = value -/
theorem ps_set {i : Nat} {x : Str} {e : Expr} {te : TE} {pos' : Pos} (hN : X.N.Nodup) (hi : X.N[i]? = some x) (hx : Loc X.env.scope x) (he : PE X e te) (hs : swapsWith e (some (.Name x pos')) pos.line X.env = pure false := by rfl) (hf : X.fn x = true ∨ X.env.scope.names.lookup x = some .local := by first | exact .inl rfl | exact .inr rfl | assumption) :
    PS X (.Assign [.Name x pos'] e pos) (tAsg te (gName i)) := by
  intro pins s σ H D I h
  refine wpAny_Assign_Name (thn (he pins s σ H _ I h) fun v s1 ⟨y, H1, I1, r1, q1⟩ => ?_) hs
  exact store_ok I1 hN hi hx r1 (fun s2 I2 => ⟨_, H1, I2, q1⟩) hf
/-- a, b = x, y with plain local names: stored from the right; the pair itself is not tracked (the opening rows as in PyProof/Rows/TupAssign.lean:23) -/
def tPar (i j : Nat) (ta : TA) : TS := fun D σ H => ta σ H fun vs H1 => ∃ v w, vs = [v, w] ∧ D.nx ((σ.set i (some v)).set j (some w)) H1
theorem ps_par {i j : Nat} {x y : Str} {a b : Expr} {ta : TA} {px py pt : Pos} {kt k2 pt2} (hc : X.calm = true) (hN : X.N.Nodup) (hi : X.N[i]? = some x) (hj : X.N[j]? = some y) (hij : i ≠ j)
    (hx : X.env.scope.names.lookup x = some .local) (hy : X.env.scope.names.lookup y = some .local) (ha : PA X [a, b] ta)
    (hw : swappedStores [.Tuple [.Name x px, .Name y py] kt pt] (.Tuple [a, b] k2 pt2) X.env = pure (some [x, y]))
    (hs : swapsWithSole [.Tuple [.Name x px, .Name y py] kt pt] (.Tuple [a, b] k2 pt2) pos.line X.env = pure false := by rfl) :
    PS X (.Assign [.Tuple [.Name x px, .Name y py] kt pt] (.Tuple [a, b] k2 pt2) pos) (tPar i j ta) := by
  intro pins s σ H D I h
  rw [exec_Assign_arm]
  refine wpAny_bind (wpAny_standAt ?_)
  rw [hs]
  refine wpAny_bind (wpAny_pure ?_)
  rw [if_neg (by decide)]
  refine wpAny_bind (Tuple_ (thn (ha _ pins s σ H _ I h) fun us s1 ⟨vs, H1, I1, r1, q1⟩ => ?_))
  obtain ⟨v, w, e1, q1⟩ := q1
  subst e1
  obtain ⟨u1, u2, rfl, rv, rw'⟩ : ∃ u1 u2, us = [u1, u2] ∧ RelV v u1 ∧ RelV w u2 := by
    cases r1 with
    | cons p q =>
      cases q with
      | cons p' q' =>
        cases q'
        exact ⟨_, _, rfl, p, p'⟩
  refine wpAny_newObj_type ?_ (by show 2 ≤ sizeLine; decide)
  have I2 : Inv X pins σ H1 { s1 with heap := s1.heap.push { cls := .type "tuple", data := .seq [u1, u2].toArray } } := I1.kept (t' := s1.toks) fun b o e => Heap.get?_push_of_some _ e
  rw [hw]
  refine wpAny_bind (wpAny_pure ?_)
  show wpAny (model X.prog X.w) X.A (do rule "assign.swapped-stores"; let items ← unpackItems (.ref s1.heap.objs.size) 2 none; assignInOrder [fun v => bindName X.env y v, fun v => bindName X.env x v] items.reverse; pure Flow.next) _ _ _
  refine wpAny_bind (wpAny_rule (wpAny_bind (unpackItems_tuple (items := #[u1, u2]) (I.ok.hd hc) (IsTup.new s1.heap _) fun h' hx' => ?_)))
  have I3 := I2.kept (h' := h') (t' := s1.toks) fun b o e => hx' b o (Nat.ne_of_lt (Heap.lt_size e)) e
  show wpAny _ _ (assignInOrder [fun v => bindName X.env y v, fun v => bindName X.env x v] [u2, u1] >>= fun _ => pure Flow.next) _ _ _
  refine wpAny_bind (assignInOrder_cons (wpAny_bindName (store_ok I3 hN hj (.inl hy) rw' (fun s2 I4 => ?_) (.inr hy))))
  refine assignInOrder_cons (wpAny_bindName (store_ok I4 hN hi (.inl hx) rv (fun s3 I5 => assignInOrder_nil (wpAny_pure ?_)) (.inr hx)))
  rw [List.set_comm _ _ (Ne.symm hij)] at I5
  exact ⟨_, H1, I5, q1⟩
/-- name op= e -/
def tAug (i : Nat) (te : TE) (ti : TIp) : TS := fun D σ H => ∃ x, σ[i]? = some (some x) ∧ te σ H fun y H1 => ti x y H1 fun z H2 => D.nx (σ.set i (some z)) H2
/-- o[i] op= e -/
def tAugS (to ti te : TE) (tget : V → V → Hp → VK → Prop) (tip : TIp) (tset : TSet) : TS := fun D σ H => to σ H fun o H1 => ti σ H1 fun i H2 => tget o i H2 fun x H3 => te σ H3 fun y H4 => tip x y H4 fun z H5 => tset o i z H5 fun H6 => D.nx σ H6
/-- o[i], by values -/
def PGet (X : Cx) (t : V → V → Hp → VK → Prop) : Prop :=
  ∀ (pins : List (Addr × Obj)) (s : Shared) (σ : St) (H : Hp) (o i : V) (ov iv : Value) (Q : VK), Inv X pins σ H s → RelV o ov → RelV i iv → t o i H Q →
    wpAny (model X.prog X.w) X.A (getItem ov iv) (EP X pins σ Q) X.xe s
/-- ints -/
def ipI (f : Int → Int → Int) : TIp := fun x y H Q => ∃ i j, x = .int i ∧ y = .int j ∧ Q (.int (f i j)) H
end

/-! ### while -/
section
variable {X : Cx} {pos : Pos}
/-- the invariant W with its measure -/
def tWhile (c : TT) (tb : TS) : TS := fun D σ H => ∃ W : Nat → St → Hp → Prop, (∃ m, W m σ H) ∧ ∀ m σ H, W m σ H →
  c σ H fun b H1 => if b = true then ∃ N : St → Hp → Prop, (∀ σ' H', N σ' H' → ∃ m', m' < m ∧ W m' σ' H') ∧ tb { D with nx := N, ct := N, bk := D.nx } σ H1 else D.nx σ H1
theorem ps_while {c : Expr} {body : List Stmt} {tc : TT} {tb : TS} (hp : PassesOwn (model X.prog X.w) X.A X.env X.xe) (hc : PT X c tc) (hb : PSs X body tb) : PS X (.While c body [] pos) (tWhile tc tb) := by
  intro pins s σ H D I h
  obtain ⟨W, ⟨m0, w0⟩, turn⟩ := h
  refine wpAny_While (codeAny_whileLoop (fun n s' => ∃ σ' H', Inv X pins σ' H' s' ∧ W n σ' H') ?_ m0 ⟨σ, H, I, w0⟩)
  rintro n s1 ⟨σ1, H1, I1, w1⟩
  refine wpAny_passesOwn hp (thn (hc pins s1 σ1 H1 _ I1 (turn n σ1 H1 w1)) fun b s2 ⟨H2, I2, q2⟩ => ?_)
  cases b with
  | true =>
    obtain ⟨N, hN, q2⟩ := q2
    rw [if_pos rfl]
    refine wpAny_passesOwn hp (thn (hb pins s2 σ1 H2 _ I2 q2) fun f s3 q3 => ?_)
    cases f with
    | next =>
      obtain ⟨σ3, H3, I3, n3⟩ := q3
      obtain ⟨m', hm, w3⟩ := hN σ3 H3 n3
      exact ⟨m', hm, σ3, H3, I3, w3⟩
    | cont =>
      obtain ⟨σ3, H3, I3, n3⟩ := q3
      obtain ⟨m', hm, w3⟩ := hN σ3 H3 n3
      exact ⟨m', hm, σ3, H3, I3, w3⟩
    | brk => exact q3
    | ret v => exact q3
  | false =>
    rw [if_neg Bool.false_ne_true]
    exact wpAny_execs_nil ⟨σ1, H2, I2, q2⟩
end

/-! ### what a loop or a comprehension walks -/
/-- at turn i: it yields x (the heap may grow), or it stops -/
structure It where
  go : Nat → Hp → Prop
  yld : Nat → Hp → V → Hp → Prop
  stop : Nat → Hp → Prop
/-- the iterator's own objects may turn: they are not the frame's, not pinned, younger than the entry (or a comprehension's own) -/
def FpOk (X : Cx) (pins : List (Addr × Obj)) (H : Hp) (b : Addr) : Prop :=
  H b = none ∧ b ≠ X.env.locals ∧ b ∉ X.fs ∧ (b ∈ X.ex ∨ X.s₀.heap.objs.size ≤ b) ∧ (∀ x c, X.env.cells.lookup x = some c → c ≠ b) ∧ ∀ p ∈ X.pn ++ pins, p.1 ≠ b
theorem Inv.fpOk {X : Cx} {pins : List (Addr × Obj)} {σ : St} {H H' : Hp} {s : Shared} {b : Addr} (I : Inv X pins σ H s) (hb : s.heap.objs.size ≤ b) (hn : H' b = none) : FpOk X pins H' b := by
  refine ⟨hn, Nat.ne_of_gt (Nat.lt_of_lt_of_le I.lt hb), I.nofs hb, .inr (Nat.le_trans I.sz hb), fun x c e z => ?_, fun p hp z => ?_⟩
  · obtain ⟨v, q⟩ := I.cell x c e
    exact absurd (Nat.lt_of_lt_of_le q.lt (by rw [z]; exact hb)) (Nat.lt_irrefl _)
  · exact absurd (Nat.lt_of_lt_of_le (Heap.lt_size (I.pin p hp).1) (by rw [z]; exact hb)) (Nat.lt_irrefl _)
structure Turn (P : Program) (w : World) (K : PySem.W.Frag) (tg : Expr) (J : It) (fp : List Addr) (it : Addr) (tn : Nat → Heap → Prop) : Prop where
  mem : it ∈ fp
  obj : ∀ i h, tn i h → ∀ b ∈ fp, ∃ o, h.get? b = some o ∧ ∀ v, o.data ≠ .cell v
  keep : ∀ i h h', tn i h → (∀ b ∈ fp, ∀ o, h.get? b = some o → h'.get? b = some o) → tn i h'
  item : ∀ (X : Cx), X.prog = P → X.w = w → X.K = K → X.calm = true → ∀ (i : Nat) (pins : List (Addr × Obj)) (s : Shared) (σ : St) (H : Hp) (E : Value → Shared → Prop), Inv X pins σ H s → (∀ b ∈ fp, FpOk X pins H b) → tn i s.heap → J.go i H →
    wpAny (model P w) X.A (pyNext (.ref it)) (fun r s1 => ∃ u, r = some u ∧
      wpAny (model P w) X.A (letOwnedTupleGo tg (.ref it) u) (fun _ s2 => ∃ x H', Inv X pins σ H' s2 ∧ RelV x u ∧ J.yld i H x H' ∧ tn (i + 1) s2.heap ∧ ∀ b ∈ fp, H' b = none) E s1) E s
  done : ∀ (X : Cx), X.prog = P → X.w = w → X.K = K → X.calm = true → ∀ (i : Nat) (pins : List (Addr × Obj)) (s : Shared) (σ : St) (H : Hp) (E : Value → Shared → Prop), Inv X pins σ H s → (∀ b ∈ fp, FpOk X pins H b) → tn i s.heap → J.stop i H →
    wpAny (model P w) X.A (pyNext (.ref it)) (fun r s1 => r = none ∧ Inv X pins σ H s1) E s
  self : ∀ (A : Around) (i : Nat) (s : Shared) (Q : Value → Shared → Prop) (E : Value → Shared → Prop), tn i s.heap → Q (.ref it) s → wpAny (model P w) A (pyIter (.ref it)) Q E s
abbrev TI := St → Hp → (It → Hp → Prop) → Prop
/-- an iterator has come -/
def PIE (X : Cx) (pins : List (Addr × Obj)) (σ : St) (tg : Expr) (R : It → Hp → Prop) (itv : Value) (s2 : Shared) : Prop :=
  ∃ (it : Addr) (fp : List Addr) (tn : Nat → Heap → Prop) (J : It) (H' : Hp), itv = .ref it ∧ Inv X pins σ H' s2 ∧ Turn X.prog X.w X.K tg J fp it tn ∧ tn 0 s2.heap ∧ (∀ b ∈ fp, FpOk X pins H' b) ∧ R J H'
def PI (X : Cx) (tg iter : Expr) (wi : TI) : Prop :=
  ∀ (pins : List (Addr × Obj)) (s : Shared) (σ : St) (H : Hp) (R : It → Hp → Prop), Inv X pins σ H s → wi σ H R →
    wpAny (model X.prog X.w) X.A (eval iter X.env) (fun v s1 => wpAny (model X.prog X.w) X.A (pyIter v) (PIE X pins σ tg R) X.xe s1) X.xe s

/-- the step ahead of the store is nothing for an iterator that keeps no tuple -/
theorem go_of {M : Model} {A : Around} {E : Value → Shared → Prop} {s : Shared} {tg : Expr} {it : Addr} {u : Value} {o : Obj} {n : String} {vs : Array Value} {Q : Unit → Shared → Prop} (ho : s.heap.get? it = some o) (hc : o.cls = .type n) (hd : o.data = .fields vs)
    (hn : ["enumerate", "zip", "dict_itemiterator", "dict_reverseitemiterator", "odict_iterator", "itertools.zip_longest", "itertools.pairwise"].contains n = false) (hQ : Q () s) : wpAny M A (letOwnedTupleGo tg (.ref it) u) Q E s := by
  unfold letOwnedTupleGo
  cases tg <;> first
    | exact wpAny_pure hQ
    | (cases u <;> first
        | exact wpAny_pure hQ
        | (refine wpAny_bind (wpAny_load ho ?_)
           rw [hc, hd]
           show wpAny M A (if (["enumerate", "zip", "dict_itemiterator", "dict_reverseitemiterator", "odict_iterator", "itertools.zip_longest", "itertools.pairwise"].contains n && vs[0]? == some (rawInt _)) = true then _ else _) Q E s
           rw [if_neg (by intro h; rw [hn, Bool.false_and] at h; cases h)]
           exact wpAny_pure hQ))

/-- the list at a, as it stands at each turn (a loop may append to it) -/
def Itl (K : PySem.W.Frag) (a : Addr) : It :=
  ⟨fun i H => ∃ xs x, SqL K H a xs ∧ xs[i]? = some x, fun i H x H' => H' = H ∧ ∀ xs, SqL K H a xs → xs[i]? = some x, fun i H => ∃ xs, SqL K H a xs ∧ xs.length ≤ i⟩
def Itt (K : PySem.W.Frag) (a : Addr) : It :=
  ⟨fun i H => ∃ xs x, SqT K H a xs ∧ xs[i]? = some x, fun i H x H' => H' = H ∧ ∀ xs, SqT K H a xs → xs[i]? = some x, fun i H => ∃ xs, SqT K H a xs ∧ xs.length ≤ i⟩
/-- lo, lo + 1, .. (n of them) -/
def Itr (lo : Int) (n : Nat) : It := ⟨fun i _ => i < n, fun i H x H' => H' = H ∧ x = .int (lo + i), fun i _ => n ≤ i⟩
theorem turn_list {P : Program} {w : World} {K : PySem.W.Frag} {tg : Expr} (a it : Addr) : Turn P w K tg (Itl K a) [it] it (fun i h => h.IsListIter it a i) where
  mem := by simp
  obj := fun i h st b hb => by
    have e : b = it := by simpa using hb
    subst e
    obtain ⟨o, e, c, d⟩ := st
    exact ⟨o, e, fun v z => by rw [d] at z; cases z⟩
  keep := fun i h h' st k => st.at fun o e => k it (by simp) o e
  item := by
    intro X hP hw hK hc i pins s σ H E I hf st hg
    subst hP hw hK
    obtain ⟨xs, x, hq, hx⟩ := hg
    obtain ⟨its, rv, p, hz⟩ := I.list hq
    obtain ⟨u, hu, ru⟩ := rv.get hx
    obtain ⟨f0, f1, f2, f3, f4, f5⟩ := hf it (by simp)
    refine wpAny_pyNext_list_item st p.isList (x := u) (by simpa using hu) fun h' st' sb => ?_
    have I1 : Inv X pins σ H { s with heap := h' } := I.turned (t' := s.toks) (fun b o hb e => (sb.2 b hb).trans e) f0 f1 f3 f4 f5
    obtain ⟨o, e, c, d⟩ := id st'
    exact ⟨u, rfl, go_of (s := { s with heap := h' }) e c d (by decide) ⟨x, H, I1, ru, ⟨rfl, fun ys hy => by rw [I.list_inj hy hq]; exact hx⟩, st', fun b hb => (hf b hb).1⟩⟩
  done := by
    intro X hP hw hK hc i pins s σ H E I hf st hg
    subst hP hw hK
    obtain ⟨xs, hq, hx⟩ := hg
    obtain ⟨its, rv, p, hz⟩ := I.list hq
    obtain ⟨f0, f1, f2, f3, f4, f5⟩ := hf it (by simp)
    have hl := rv.length
    exact wpAny_pyNext_list_end (I.ok.hd hc) st p.isList (by simp; omega) fun h' eb => ⟨rfl, I.turned (t' := s.toks) (fun b o hb e => eb b o hb e) f0 f1 f3 f4 f5⟩
  self := fun _ _ _ _ _ st h => wpAny_pyIter_listiter st h
theorem turn_range {P : Program} {w : World} {K : PySem.W.Frag} {tg : Expr} (it : Addr) (lo : Int) (n : Nat) : Turn P w K tg (Itr lo n) [it] it (fun i h => IsRangeIter h it (lo + (i : Nat) * 1) ((n : Int) - (i : Nat)) 1) where
  mem := by simp
  obj := fun i h st b hb => by
    have e : b = it := by simpa using hb
    subst e
    exact ⟨_, st, fun v z => by
      have z' : Data.fields _ = Data.cell v := z
      cases z'⟩
  keep := fun i h h' st k => k it (by simp) _ st
  item := by
    intro X hP hw hK hc i pins s σ H E I hf st hg
    subst hP hw hK
    obtain ⟨f0, f1, f2, f3, f4, f5⟩ := hf it (by simp)
    have W := Walks.range (prog := X.prog) (w := X.w) (I.ok.hd hc) it lo 1 n
    refine W.item i s _ _ hg st fun v h' tk hv st' kk => ?_
    obtain ⟨t, rfl⟩ := hv
    have I1 : Inv X pins σ H { s with heap := h', toks := tk } := I.turned (fun b o hb e => kk b o (by simpa using hb) e) f0 f1 f3 f4 f5
    refine ⟨_, rfl, go_of (s := { s with heap := h', toks := tk }) (n := "range_iterator") st' rfl rfl (by decide) ⟨.int (lo + i), H, I1, ⟨t, ?_⟩, ⟨rfl, rfl⟩, st', fun b hb => (hf b hb).1⟩⟩
    rw [Int.mul_one]
  done := by
    intro X hP hw hK hc i pins s σ H E I hf st hg
    subst hP hw hK
    obtain ⟨f0, f1, f2, f3, f4, f5⟩ := hf it (by simp)
    exact wpAny_pyNext_range_end (I.ok.hd hc) st (by have : n ≤ i := hg; omega) fun h' eb => ⟨rfl, I.turned (t' := s.toks) (fun b o hb e => eb b o hb e) f0 f1 f3 f4 f5⟩
  self := fun _ _ _ _ _ st h => wpAny_pyIter_rangeiter st h
end L2

namespace L2
open PySem PySem.Spec PyProof.Rows
section
variable {X : Cx} {tg : Expr}
def iList (K : PySem.W.Frag) (tl : TE) : TI := fun σ H R => tl σ H fun x H1 => ∃ a, x = .ref a ∧ (∃ xs, SqL K H1 a xs) ∧ R (Itl K a) H1
def iTup (K : PySem.W.Frag) (tl : TE) : TI := fun σ H R => tl σ H fun x H1 => ∃ a, x = .ref a ∧ (∃ xs, SqT K H1 a xs) ∧ R (Itt K a) H1
theorem pi_list {l : Expr} {tl : TE} (hl : PE X l tl) : PI X tg l (iList X.K tl) := by
  intro pins s σ H R I h
  refine thn (hl pins s σ H _ I h) fun v s1 ⟨x, H1, I1, r1, q1⟩ => ?_
  obtain ⟨a, e, ⟨xs, hq⟩, q⟩ := q1
  subst e
  cases r1
  obtain ⟨its, rv, p, hz⟩ := I1.list hq
  refine wpAny_pyIter_list p.isList ?_
  refine ⟨s1.heap.objs.size, [s1.heap.objs.size], _, _, H1, rfl, I1.kept (t' := s1.toks) fun b o e => Heap.get?_push_of_some _ e, turn_list a _, ⟨_, Heap.get?_push_size _ rfl, rfl, rfl⟩, fun b hb => ?_, q⟩
  have e : b = s1.heap.objs.size := by simpa using hb
  subst e
  exact I1.fpOk (Nat.le_refl _) (I1.hok.fresh (Nat.le_refl _))
/-- a range object just made, walked -/
theorem range_it {pins : List (Addr × Obj)} {σ : St} {H : Hp} {s : Shared} {R : It → Hp → Prop} {E : Value → Shared → Prop} {lo hi : Int} {t u v : Tok} {tk : Nat} (I : Inv X pins σ H s) (h1 : -(2 ^ 62) ≤ lo) (h2 : lo < 2 ^ 62) (h3 : -(2 ^ 62) ≤ hi) (h4 : hi < 2 ^ 62)
    (q : R (Itr lo (hi - lo).toNat) H) : wpAny (model X.prog X.w) X.A (pyIter (.ref s.heap.objs.size)) (PIE X pins σ tg R) E { s with heap := s.heap.push { cls := .type "range", data := .fields #[.int lo t, .int hi u, .int 1 v] }, toks := tk } := by
  refine wpAny_pyIter_range (IsRange.new ..) (small_one h1 h2 h3 h4) ?_
  have I1 : Inv X pins σ H { s with heap := s.heap.push { cls := .type "range", data := .fields #[.int lo t, .int hi u, .int 1 v] }, toks := tk } := I.kept fun b o e => Heap.get?_push_of_some _ e
  refine ⟨(s.heap.push { cls := .type "range", data := .fields #[.int lo t, .int hi u, .int 1 v] }).objs.size, [(s.heap.push { cls := .type "range", data := .fields #[.int lo t, .int hi u, .int 1 v] }).objs.size], _, _, H, rfl,
    I1.kept (t' := tk) fun b o e => Heap.get?_push_of_some _ e, turn_range _ lo (hi - lo).toNat, ?_, fun b hb => ?_, q⟩
  · have e1 : lo + ((0 : Nat) : Int) * 1 = lo := by simp
    have e2 : (((hi - lo).toNat : Nat) : Int) - ((0 : Nat) : Int) = Builtin.Range.rangeSize lo hi 1 := by rw [rangeSize_one]; split <;> omega
    show IsRangeIter _ _ (lo + ((0 : Nat) : Int) * 1) ((((hi - lo).toNat : Nat) : Int) - ((0 : Nat) : Int)) 1
    rw [e1, e2]
    exact Heap.get?_push_size _ rfl
  · have e : b = (s.heap.push { cls := .type "range", data := .fields #[.int lo t, .int hi u, .int 1 v] }).objs.size := by simpa using hb
    subst e
    exact I1.fpOk (Nat.le_refl _) (I1.hok.fresh (Nat.le_refl _))
def iRng1 (ta : TA) : TI := fun σ H R => ta σ H fun vs H1 => ∃ j : Int, vs = [.int j] ∧ -(2 ^ 62) ≤ j ∧ j < 2 ^ 62 ∧ R (Itr 0 j.toNat) H1
def iRng2 (ta : TA) : TI := fun σ H R => ta σ H fun vs H1 => ∃ i j : Int, vs = [.int i, .int j] ∧ (-(2 ^ 62) ≤ i ∧ i < 2 ^ 62 ∧ -(2 ^ 62) ≤ j ∧ j < 2 ^ 62) ∧ R (Itr i (j - i).toNat) H1
theorem pi_range1 {a : Expr} {ta : TA} {p pos : Pos} (hg : Gl X "range") (hm : X.mg "range" = none) (ha : PA X [a] ta) (hs : starEach [a] X.env = [(false, eval a X.env)] := by rfl) : PI X tg (.Call (.Name "range" p) [a] [] pos) (iRng1 ta) := by
  intro pins s σ H R I h
  refine Call_ (ld_blt I hg hm boot_range (PyProof.Rows.callWith_type1 (thn (ha pos pins s σ H _ I h) fun us s1 ⟨vs, H1, I1, r1, q1⟩ => ?_) hs rfl))
  obtain ⟨j, e, q1, q2, q⟩ := q1
  subst e
  cases r1 with
  | cons r rr =>
    cases rr
    obtain ⟨t, rfl⟩ := r
    exact call_range_1 (range_it I1 (by omega) (by omega) q1 q2 (by simpa using q))
theorem pi_range2 {a b : Expr} {ta : TA} {p pos : Pos} (hg : Gl X "range") (hm : X.mg "range" = none) (ha : PA X [a, b] ta) (hs : starEach [a, b] X.env = [(false, eval a X.env), (false, eval b X.env)] := by rfl) (hs2 : starEach [b] X.env = [(false, eval b X.env)] := by rfl) :
    PI X tg (.Call (.Name "range" p) [a, b] [] pos) (iRng2 ta) := by
  intro pins s σ H R I h
  refine Call_ (ld_blt I hg hm boot_range (PyProof.Rows.callWith_type1 (thn (ha pos pins s σ H _ I h) fun us s1 ⟨vs, H1, I1, r1, q1⟩ => ?_) (by rw [hs, hs2]) (by rw [hs2]; rfl)))
  obtain ⟨i, j, e, ⟨q1, q2, q3, q4⟩, q⟩ := q1
  subst e
  cases r1 with
  | cons r rr =>
    cases rr with
    | cons r' rr =>
      cases rr
      obtain ⟨t, rfl⟩ := r
      obtain ⟨t', rfl⟩ := r'
      exact call_range_2 (range_it I1 q1 q2 q3 q4 q)

/-! ### for -/
/-- W: the invariant by the turn and a measure; N: what the body is to reach -/
def tFor (wi : TI) (g : TG) (tb : TS) : TS := fun D σ H => wi σ H fun J H1 => ∃ W : Nat → Nat → St → Hp → Prop, (∃ m, W 0 m σ H1) ∧ ∀ i m σ H, W i m σ H →
  (J.stop i H ∧ D.nx σ H) ∨ (J.go i H ∧ ∃ N : St → Hp → Prop, (∀ σ' H', N σ' H' → ∃ m', m' < m ∧ W (i + 1) m' σ' H') ∧ ∀ x H', J.yld i H x H' → g x σ H' fun σ2 H2 => tb { D with nx := N, ct := N, bk := D.nx } σ2 H2)
/-- the records at fp as they stand -/
def pinsAt (fp : List Addr) (h : Heap) : List (Addr × Obj) := fp.filterMap fun b => (h.get? b).map fun o => (b, o)
theorem mem_pinsAt {fp : List Addr} {h : Heap} {b : Addr} {o : Obj} (hb : b ∈ fp) (e : h.get? b = some o) : (b, o) ∈ pinsAt fp h := List.mem_filterMap.mpr ⟨b, hb, by rw [e]; rfl⟩
theorem of_pinsAt {fp : List Addr} {h : Heap} {p : Addr × Obj} (hp : p ∈ pinsAt fp h) : p.1 ∈ fp ∧ h.get? p.1 = some p.2 := by
  obtain ⟨b, hb, e⟩ := List.mem_filterMap.mp hp
  cases q : h.get? b with
  | none => rw [q] at e; cases e
  | some o =>
    rw [q] at e
    have e' : (b, o) = p := Option.some.inj e
    subst e'
    exact ⟨hb, q⟩
theorem Inv.pinned {pins : List (Addr × Obj)} {σ : St} {H : Hp} {s : Shared} {fp : List Addr} (I : Inv X pins σ H s) (hf : ∀ b ∈ fp, FpOk X pins H b) (ho : ∀ b ∈ fp, ∃ o, s.heap.get? b = some o ∧ ∀ v, o.data ≠ .cell v) : Inv X (pins ++ pinsAt fp s.heap) σ H s :=
  I.pins_of fun p hp => (List.mem_append.mp hp).elim (fun z => I.pin p (List.mem_append_right _ z)) fun z => by
    obtain ⟨hb, e⟩ := of_pinsAt z
    obtain ⟨f0, f1, f2, _⟩ := hf p.1 hb
    obtain ⟨o, e', d⟩ := ho p.1 hb
    rw [e] at e'; cases e'
    exact ⟨e, f0, f1, f2, d⟩
theorem Inv.unpinned {pins pl : List (Addr × Obj)} {σ : St} {H : Hp} {s : Shared} (I : Inv X (pins ++ pl) σ H s) : Inv X pins σ H s := I.pins_of fun p hp => I.pin p (List.mem_append_right _ (List.mem_append_left _ hp))
theorem ps_for {iter : Expr} {body : List Stmt} {wi : TI} {g : TG} {tb : TS} {pos : Pos} (hp : PassesOwn (model X.prog X.w) X.A X.env X.xe) (hc : X.calm = true) (hi : PI X tg iter wi) (hg : PG X tg g) (hb : PSs X body tb)
    (hs : ∀ x, foldedSetIterable iter X.env x = pure x := by intro _; rfl) : PS X (.For tg iter body [] pos) (tFor wi g tb) := by
  intro pins s σ H D I h
  refine wpAny_For (thn (hi pins s σ H _ I h) fun v s1 h1 => thn h1 fun itv s2 h2 => ?_) hs
  obtain ⟨it, fp, tn, J, H2, e, I2, T, st2, f2, W, ⟨m0, w0⟩, turn⟩ := h2
  subst e
  -- what stays true of the iterator's objects through the loop
  have stat : ∀ {H' : Hp}, (∀ b ∈ fp, H' b = none) → ∀ b ∈ fp, FpOk X pins H' b := fun hn b hb => ⟨hn b hb, (f2 b hb).2⟩
  refine codeAny_forLoop_any (fun n s' => ∃ i σ' H', Inv X pins σ' H' s' ∧ tn i s'.heap ∧ (∀ b ∈ fp, H' b = none) ∧ W i n σ' H') ?_ m0 ⟨0, σ, H2, I2, st2, fun b hb => (f2 b hb).1, w0⟩
  rintro n s3 ⟨i, σ3, H3, I3, st3, fr3, w3⟩
  rcases turn i n σ3 H3 w3 with ⟨stop, qn⟩ | ⟨go, N, hN, step⟩
  · refine wpAny_passesOwn hp (thn (T.done X rfl rfl rfl hc i pins s3 σ3 H3 X.xe I3 (stat fr3) st3 stop) fun r s4 ⟨hr, I4⟩ => ?_)
    subst hr
    exact wpAny_execs_nil ⟨σ3, H3, I4, qn⟩
  · refine wpAny_passesOwn hp (thn (T.item X rfl rfl rfl hc i pins s3 σ3 H3 X.xe I3 (stat fr3) st3 go) fun r s4 ⟨u, hr, h4⟩ => ?_)
    subst hr
    refine wpAny_passesOwn hp (thn h4 fun _ s5 ⟨x, H5, I5, r5, y5, st5, fr5⟩ => ?_)
    have I5' := I5.pinned (stat fr5) (T.obj _ _ st5)
    refine wpAny_passesOwn hp (thn (hg _ s5 σ3 H5 x u _ I5' r5 (step x H5 y5)) fun _ s6 ⟨σ6, H6, I6, q6⟩ => ?_)
    refine wpAny_passesOwn hp (thn (hb _ s6 σ6 H6 _ I6 q6) fun f s7 q7 => ?_)
    have again : ∀ {σ7 : St} {H7 : Hp}, Inv X (pins ++ pinsAt fp s5.heap) σ7 H7 s7 → N σ7 H7 → ∃ m, m < n ∧ ∃ i σ' H', Inv X pins σ' H' s7 ∧ tn i s7.heap ∧ (∀ b ∈ fp, H' b = none) ∧ W i m σ' H' := fun {σ7 H7} I7 n7 => by
      obtain ⟨m', hm, w7⟩ := hN σ7 H7 n7
      refine ⟨m', hm, i + 1, σ7, H7, I7.unpinned, T.keep _ _ _ st5 fun b hb o e => (I7.pin (b, o) (List.mem_append_right _ (List.mem_append_right _ (mem_pinsAt hb e)))).1, fun b hb => ?_, w7⟩
      obtain ⟨o, e, d⟩ := T.obj _ _ st5 b hb
      exact (I7.pin (b, o) (List.mem_append_right _ (List.mem_append_right _ (mem_pinsAt hb e)))).2.1
    cases f with
    | next => obtain ⟨σ7, H7, I7, n7⟩ := q7; exact again I7 n7
    | cont => obtain ⟨σ7, H7, I7, n7⟩ := q7; exact again I7 n7
    | brk => obtain ⟨σ7, H7, I7, q7⟩ := q7; exact ⟨σ7, H7, I7.unpinned, q7⟩
    | ret v => obtain ⟨x7, σ7, H7, I7, r7, q7⟩ := q7; exact ⟨x7, σ7, H7, I7.unpinned, r7, q7⟩
end

/-! ### the forms one uses -/
/-- over a list that the body leaves as it is -/
theorem for_list {K : PySem.W.Frag} {a : Addr} {xs : List V} {g : TG} {tb : TS} {D : Ends} {σ : St} {H : Hp} (Pv : Nat → St → Hp → Prop) (h0 : Pv 0 σ H) (hl : ∀ i σ H, i ≤ xs.length → Pv i σ H → SqL K H a xs)
    (hs : ∀ i x σ H, xs[i]? = some x → Pv i σ H → g x σ H fun σ2 H2 => tb { D with nx := Pv (i + 1), ct := Pv (i + 1), bk := D.nx } σ2 H2) (hd : ∀ σ H, Pv xs.length σ H → D.nx σ H) :
    ∃ W : Nat → Nat → St → Hp → Prop, (∃ m, W 0 m σ H) ∧ ∀ i m σ H, W i m σ H →
      ((Itl K a).stop i H ∧ D.nx σ H) ∨ ((Itl K a).go i H ∧ ∃ N : St → Hp → Prop, (∀ σ' H', N σ' H' → ∃ m', m' < m ∧ W (i + 1) m' σ' H') ∧ ∀ x H', (Itl K a).yld i H x H' → g x σ H' fun σ2 H2 => tb { D with nx := N, ct := N, bk := D.nx } σ2 H2) := by
  refine ⟨fun i m σ H => m = xs.length - i ∧ i ≤ xs.length ∧ Pv i σ H, ⟨xs.length, by simp, Nat.zero_le _, h0⟩, ?_⟩
  rintro i m σ H ⟨rfl, hi, p⟩
  have q := hl i σ H hi p
  by_cases hlt : i < xs.length
  · refine .inr ⟨⟨xs, xs[i], q, by simp [hlt]⟩, Pv (i + 1), fun σ' H' p' => ⟨xs.length - (i + 1), by omega, rfl, hlt, p'⟩, fun x H' y => ?_⟩
    obtain ⟨e, y⟩ := y
    subst e
    exact hs i x σ _ (y xs q) p
  · have e : i = xs.length := by omega
    subst e
    exact .inl ⟨⟨xs, q, Nat.le_refl _⟩, hd σ H p⟩
theorem for_range {lo : Int} {n : Nat} {g : TG} {tb : TS} {D : Ends} {σ : St} {H : Hp} (Pv : Nat → St → Hp → Prop) (h0 : Pv 0 σ H)
    (hs : ∀ i σ H, i < n → Pv i σ H → g (.int (lo + i)) σ H fun σ2 H2 => tb { D with nx := Pv (i + 1), ct := Pv (i + 1), bk := D.nx } σ2 H2) (hd : ∀ σ H, Pv n σ H → D.nx σ H) :
    ∃ W : Nat → Nat → St → Hp → Prop, (∃ m, W 0 m σ H) ∧ ∀ i m σ H, W i m σ H →
      ((Itr lo n).stop i H ∧ D.nx σ H) ∨ ((Itr lo n).go i H ∧ ∃ N : St → Hp → Prop, (∀ σ' H', N σ' H' → ∃ m', m' < m ∧ W (i + 1) m' σ' H') ∧ ∀ x H', (Itr lo n).yld i H x H' → g x σ H' fun σ2 H2 => tb { D with nx := N, ct := N, bk := D.nx } σ2 H2) := by
  refine ⟨fun i m σ H => m = n - i ∧ i ≤ n ∧ Pv i σ H, ⟨n, by simp, Nat.zero_le _, h0⟩, ?_⟩
  rintro i m σ H ⟨rfl, hi, p⟩
  by_cases hlt : i < n
  · refine .inr ⟨hlt, Pv (i + 1), fun σ' H' p' => ⟨n - (i + 1), by omega, rfl, hlt, p'⟩, fun x H' y => ?_⟩
    obtain ⟨e, y⟩ := y
    subst e y
    exact hs i σ _ hlt p
  · have e : i = n := by omega
    subst e
    exact .inl ⟨Nat.le_refl _, hd σ H p⟩
/-- while, by a word and a measure of the state -/
theorem while_by {c : TT} {tb : TS} {D : Ends} {σ : St} {H : Hp} (Pv : St → Hp → Prop) (μ : St → Hp → Nat) (h0 : Pv σ H)
    (hs : ∀ σ H, Pv σ H → c σ H fun b H1 => if b = true then tb { D with nx := fun σ' H' => Pv σ' H' ∧ μ σ' H' < μ σ H, ct := fun σ' H' => Pv σ' H' ∧ μ σ' H' < μ σ H, bk := D.nx } σ H1 else D.nx σ H1)
    (mono : ∀ σ H Q Q', (∀ b H1, Q b H1 → Q' b H1) → c σ H Q → c σ H Q') : tWhile c tb D σ H := by
  refine ⟨fun m σ H => m = μ σ H ∧ Pv σ H, ⟨_, rfl, h0⟩, ?_⟩
  rintro m σ H ⟨rfl, p⟩
  refine mono σ H _ _ (fun b H1 q => ?_) (hs σ H p)
  cases b with
  | true => exact ⟨_, fun σ' H' ⟨p', l⟩ => ⟨_, l, rfl, p'⟩, q⟩
  | false => exact q
end L2

namespace L2
open PySem PySem.Spec PyProof.Rows

abbrev R2 := V → V → Hp → VK → Prop
/-- a two-place operation on values: f is binaryOp op, inplaceOp op or compareOp op -/
def OpR (X : Cx) (f : Value → Value → Sem Value) (r : R2) : Prop :=
  ∀ (pins : List (Addr × Obj)) (s : Shared) (σ : St) (H : Hp) (x y : V) (v u : Value) (Q : VK), Inv X pins σ H s → RelV x v → RelV y u → r x y H Q →
    wpAny (model X.prog X.w) X.A (f v u) (EP X pins σ Q) X.xe s
/-- a one-place operation -/
def UnR (X : Cx) (f : Value → Sem Value) (r : V → Hp → VK → Prop) : Prop :=
  ∀ (pins : List (Addr × Obj)) (s : Shared) (σ : St) (H : Hp) (x : V) (v : Value) (Q : VK), Inv X pins σ H s → RelV x v → r x H Q →
    wpAny (model X.prog X.w) X.A (f v) (EP X pins σ Q) X.xe s
/-- a call of a value that is known (a builtin, a type) with values -/
def CallR (X : Cx) (f : Value) (r : List V → Hp → VK → Prop) : Prop :=
  ∀ (pins : List (Addr × Obj)) (s : Shared) (σ : St) (H : Hp) (xs : List V) (us : List Value) (Q : VK), Inv X pins σ H s → Vals xs us → r xs H Q →
    wpAny (model X.prog X.w) X.A (call f us) (EP X pins σ Q) X.xe s
/-- a value's truth -/
def TruR (X : Cx) (r : V → Hp → (Bool → Hp → Prop) → Prop) : Prop :=
  ∀ (pins : List (Addr × Obj)) (s : Shared) (σ : St) (H : Hp) (x : V) (v : Value) (Q : Bool → Hp → Prop), Inv X pins σ H s → RelV x v → r x H Q →
    wpAny (model X.prog X.w) X.A (truthy v) (TP X pins σ Q) X.xe s

def tOp (r : R2) (ta tb : TE) : TE := fun σ H Q => ta σ H fun x H1 => tb σ H1 fun y H2 => r x y H2 Q
def tUn (r : V → Hp → VK → Prop) (ta : TE) : TE := fun σ H Q => ta σ H fun x H1 => r x H1 Q
/-- ints in, under C, and a value out -/
def rI (C : Int → Int → Prop) (g : Int → Int → V) : R2 := fun x y H Q => ∃ i j, x = .int i ∧ y = .int j ∧ C i j ∧ Q (g i j) H
def rI0 (g : Int → Int → V) : R2 := fun x y H Q => ∃ i j, x = .int i ∧ y = .int j ∧ Q (g i j) H
def rU (g : Int → V) : V → Hp → VK → Prop := fun x H Q => ∃ i, x = .int i ∧ Q (g i) H

section
variable {X : Cx} {a b c : Expr} {ta tb tc : TE} {pos : Pos}

theorem binT (ha : PE X a ta) (hb : PE X b tb) {pins : List (Addr × Obj)} {s : Shared} {σ : St} {H : Hp} {R : V → V → Hp → Prop} (I : Inv X pins σ H s)
    (h : ta σ H fun x H1 => tb σ H1 fun y H2 => R x y H2) {Q : Value → Shared → Prop} {f : Value → Value → Sem Value}
    (hf : ∀ v u s2 x y H2, Inv X pins σ H2 s2 → RelV x v → RelV y u → R x y H2 → wpAny (model X.prog X.w) X.A (f v u) Q X.xe s2) :
    wpAny (model X.prog X.w) X.A (eval a X.env) (fun v s₁ => wpAny (model X.prog X.w) X.A (eval b X.env) (fun u s₂ => wpAny (model X.prog X.w) X.A (f v u) Q X.xe s₂) X.xe s₁) X.xe s := by
  refine thn (ha pins s σ H _ I h) fun v s1 ⟨x, H1, I1, r1, q1⟩ => ?_
  refine thn (hb pins s1 σ H1 _ I1 q1) fun u s2 ⟨y, H2, I2, r2, q2⟩ => ?_
  exact hf v u s2 x y H2 I2 r1 r2 q2

theorem pe_op {op : Operator} {r : R2} (ho : OpR X (binaryOp op) r) (ha : PE X a ta) (hb : PE X b tb) : PE X (.BinOp a op b pos) (tOp r ta tb) := by
  intro pins s σ H Q I h
  exact wpAny_BinOp (binT ha hb I h fun v u s2 x y H2 I2 rx ry q => ho pins s2 σ H2 x y v u Q I2 rx ry q)
theorem pe_un {op : UnaryOp} {r : V → Hp → VK → Prop} (ho : UnR X (unaryOp op) r) (ha : PE X a ta) : PE X (.UnaryOp op a pos) (tUn r ta) := by
  intro pins s σ H Q I h
  exact UnaryOp_ (thn (ha pins s σ H _ I h) fun v s1 ⟨x, H1, I1, r1, q1⟩ => ho pins s1 σ H1 x v Q I1 r1 q1)
/-! ### ints -/
theorem opI {f : Value → Value → Sem Value} {C : Int → Int → Prop} {g : Int → Int → Int}
    (rule : ∀ (i j : Int) (t u : Tok) (s : Shared) (Q : Value → Shared → Prop) (E : Value → Shared → Prop), C i j → Q (.int (g i j) s.toks) { s with toks := s.toks + 1 } → wpAny (model X.prog X.w) X.A (f (.int i t) (.int j u)) Q E s) :
    OpR X f (rI C fun i j => .int (g i j)) := by
  intro pins s σ H x y v u Q I rx ry h
  obtain ⟨i, j, rfl, rfl, hc, q⟩ := h
  obtain ⟨t, rfl⟩ := rx
  obtain ⟨t', rfl⟩ := ry
  exact rule i j t t' s _ _ hc ⟨.int (g i j), H, I.tok _, ⟨_, rfl⟩, q⟩
theorem opI0 {f : Value → Value → Sem Value} {g : Int → Int → Int}
    (rule : ∀ (i j : Int) (t u : Tok) (s : Shared) (Q : Value → Shared → Prop) (E : Value → Shared → Prop), Q (.int (g i j) s.toks) { s with toks := s.toks + 1 } → wpAny (model X.prog X.w) X.A (f (.int i t) (.int j u)) Q E s) :
    OpR X f (rI0 fun i j => .int (g i j)) := by
  intro pins s σ H x y v u Q I rx ry h
  obtain ⟨i, j, rfl, rfl, q⟩ := h
  obtain ⟨t, rfl⟩ := rx
  obtain ⟨t', rfl⟩ := ry
  exact rule i j t t' s _ _ ⟨.int (g i j), H, I.tok _, ⟨_, rfl⟩, q⟩
theorem opB0 {f : Value → Value → Sem Value} {g : Int → Int → Bool}
    (rule : ∀ (i j : Int) (t u : Tok) (s : Shared) (Q : Value → Shared → Prop) (E : Value → Shared → Prop), Q (.bool (g i j)) s → wpAny (model X.prog X.w) X.A (f (.int i t) (.int j u)) Q E s) :
    OpR X f (rI0 fun i j => .bl (g i j)) := by
  intro pins s σ H x y v u Q I rx ry h
  obtain ⟨i, j, rfl, rfl, q⟩ := h
  obtain ⟨t, rfl⟩ := rx
  obtain ⟨t', rfl⟩ := ry
  exact rule i j t t' s _ _ ⟨.bl (g i j), H, I, rfl, q⟩

def CDiv (i j : Int) : Prop := 0 < j ∧ j < 1073741824
def CDivN (i j : Int) : Prop := j ≠ 0 ∧ j.natAbs < 1073741824
def CPow (i j : Int) : Prop := 0 ≤ j ∧ j ≤ 1000000 ∧ i.natAbs < 2 ^ 64
def CMul (i j : Int) : Prop := (-(2 ^ 64) < i ∧ i < 2 ^ 64) ∨ (-(2 ^ 64) < j ∧ j < 2 ^ 64)
theorem CMul.ok {i j : Int} (h : CMul i j) : IntMulOk i j := by
  rcases h with ⟨h1, h2⟩ | ⟨h1, h2⟩
  · exact .of_left (intBits_le_64 h1 h2)
  · exact .of_right (intBits_le_64 h1 h2)
theorem two_pow_nn (k : Nat) : (0 : Int) ≤ 2 ^ k := by
  rw [two_pow_cast]
  exact Int.natCast_nonneg _

theorem op_add : OpR X (binaryOp .Add) (rI0 fun i j => .int (i + j)) := opI0 fun _ _ _ _ _ _ _ q => add_int q
theorem op_sub : OpR X (binaryOp .Sub) (rI0 fun i j => .int (i - j)) := opI0 fun _ _ _ _ _ _ _ q => sub_int q
theorem op_mul : OpR X (binaryOp .Mult) (rI CMul fun i j => .int (i * j)) := opI fun _ _ _ _ _ _ _ hc q => mul_int q hc.ok
/-- // by a positive divisor -/
theorem op_fdiv : OpR X (binaryOp .FloorDiv) (rI CDiv fun i j => .int (i / j)) := opI fun i j _ _ _ _ _ hc q => by
  have h1 : (0 : Int) < j := hc.1
  have h2 : j < 1073741824 := hc.2
  exact floordiv_int (by omega) (by rw [Int.fdiv_eq_ediv_of_nonneg i (by omega)]; exact q) (.inl (PyProof.noPylong_small (by omega)))
/-- % by a positive divisor of any size -/
theorem op_mod : OpR X (binaryOp .Mod) (rI (fun _ j => 0 < j) fun i j => .int (i % j)) := opI fun i j _ _ _ _ _ hc q => by
  have h1 : (0 : Int) < j := hc
  exact mod_int' (by omega) (by rw [Int.fmod_eq_emod_of_nonneg i (by omega)]; exact q)
theorem op_pow : OpR X (binaryOp .Pow) (rI CPow fun i j => .int (i ^ j.toNat)) := opI fun _ _ _ _ _ _ _ hc q => pow_int_small hc.1 hc.2.1 hc.2.2 q
theorem op_shl : OpR X (binaryOp .LShift) (rI CPow fun i j => .int (i * 2 ^ j.toNat)) := opI fun _ _ _ _ _ _ _ hc q => lshift_int_small hc.1 hc.2.1 hc.2.2 q
theorem op_shr : OpR X (binaryOp .RShift) (rI (fun _ j => 0 ≤ j) fun i j => .int (i / 2 ^ j.toNat)) := opI fun i j _ _ _ _ _ hc q =>
  rshift_int hc (by rw [Int.fdiv_eq_ediv_of_nonneg i (two_pow_nn _)]; exact q)
theorem op_and : OpR X (binaryOp .BitAnd) (rI0 fun i j => .int (Builtin.bitAnd i j)) := opI0 fun _ _ _ _ _ _ _ q => and_int q
theorem unI {f : Value → Sem Value} {g : Int → Int}
    (rule : ∀ (i : Int) (t : Tok) (s : Shared) (Q : Value → Shared → Prop) (E : Value → Shared → Prop), Q (.int (g i) s.toks) { s with toks := s.toks + 1 } → wpAny (model X.prog X.w) X.A (f (.int i t)) Q E s) :
    UnR X f (rU fun i => .int (g i)) := by
  intro pins s σ H x v Q I rx h
  obtain ⟨i, rfl, q⟩ := h
  obtain ⟨t, rfl⟩ := rx
  exact rule i t s _ _ ⟨.int (g i), H, I.tok _, ⟨_, rfl⟩, q⟩
theorem un_neg : UnR X (unaryOp .USub) (rU fun i => .int (-i)) := unI fun _ _ _ _ _ q => neg_int q
/-! ### bools among ints: n += (a < b) -/
end

/-! ### comparisons -/
/-- the scalars that == tells apart as data does -/
def scal : V → V → Bool
  | .non, .non => true | .non, .int _ => true | .int _, .non => true | .non, .bl _ => true | .bl _, .non => true | .non, .str _ => true | .str _, .non => true
  | .int _, .int _ => true | .bl _, .bl _ => true | .str _, .str _ => true | .byt _, .byt _ => true
  | .int _, .str _ => true | .str _, .int _ => true | .bl _, .str _ => true | .str _, .bl _ => true
  | _, _ => false
def rEq : R2 := fun x y H Q => scal x y = true ∧ Q (.bl (decide (x = y))) H
def rNe : R2 := fun x y H Q => scal x y = true ∧ Q (.bl (!decide (x = y))) H

theorem dec_int {i j : Int} : decide (V.int i = V.int j) = (i == j) := by
  rw [Bool.eq_iff_iff]
  simp
theorem dec_bl {i j : Bool} : decide (V.bl i = V.bl j) = (i == j) := by
  rw [Bool.eq_iff_iff]
  simp
theorem dec_str {i j : Str} : decide (V.str i = V.str j) = (i == j) := by
  rw [Bool.eq_iff_iff]
  simp
theorem dec_byt {i j : Array UInt8} : decide (V.byt i = V.byt j) = (i.toList == j.toList) := by
  rw [Bool.eq_iff_iff]
  cases i
  cases j
  simp

section
variable {X : Cx} {a b c : Expr} {ta tb tc : TE} {pos : Pos}
theorem fin_bl {pins : List (Addr × Obj)} {σ : St} {H : Hp} {s : Shared} {Q : VK} {k k' : Bool} (I : Inv X pins σ H s) (q : Q (.bl k) H) (e : k = k') : EP X pins σ Q (.bool k') s := by
  subst e
  exact ⟨.bl k, H, I, rfl, q⟩
theorem op_eq : OpR X (compareOp .Eq) rEq := by
  intro pins s σ H x y v u Q I rx ry h
  obtain ⟨hs, q⟩ := h
  cases x with
  | non =>
    cases rx
    cases y with
    | non => cases ry; exact PySem.EqNone.eq_none_none (fin_bl I q (by simp))
    | bl j => cases ry; exact PySem.EqNone.eq_none_bool (fin_bl I q (by simp))
    | int j => obtain ⟨t', rfl⟩ := ry; exact PySem.EqNone.eq_none_int (fin_bl I q (by simp))
    | str j => obtain ⟨t', rfl⟩ := ry; exact PySem.EqNone.eq_none_str (fin_bl I q (by simp))
    | _ => exact absurd (show false = true from hs) Bool.false_ne_true
  | bl i =>
    cases rx
    cases y with
    | non => cases ry; exact PySem.EqNone.eq_bool_none (fin_bl I q (by simp))
    | bl j => cases ry; exact eq_bool (fin_bl I q dec_bl)
    | str j => obtain ⟨t', rfl⟩ := ry; exact PySem.EqMixed.eq_bool_str (fin_bl I q (by simp))
    | _ => exact absurd (show false = true from hs) Bool.false_ne_true
  | int i =>
    obtain ⟨t, rfl⟩ := rx
    cases y with
    | non => cases ry; exact PySem.EqNone.eq_int_none (fin_bl I q (by simp))
    | int j => obtain ⟨t', rfl⟩ := ry; exact eq_int (fin_bl I q dec_int)
    | str j => obtain ⟨t', rfl⟩ := ry; exact PySem.EqMixed.eq_int_str (fin_bl I q (by simp))
    | _ => exact absurd (show false = true from hs) Bool.false_ne_true
  | str i =>
    obtain ⟨t, rfl⟩ := rx
    cases y with
    | non => cases ry; exact PySem.EqNone.eq_str_none (fin_bl I q (by simp))
    | bl j => cases ry; exact PySem.EqMixed.eq_str_bool (fin_bl I q (by simp))
    | int j => obtain ⟨t', rfl⟩ := ry; exact PySem.EqMixed.eq_str_int (fin_bl I q (by simp))
    | str j => obtain ⟨t', rfl⟩ := ry; exact eq_str (fin_bl I q dec_str)
    | _ => exact absurd (show false = true from hs) Bool.false_ne_true
  | byt i =>
    obtain ⟨t, rfl⟩ := rx
    cases y with
    | byt j => obtain ⟨t', rfl⟩ := ry; exact PySem.W.eq_bytes (fin_bl I q dec_byt)
    | _ => exact absurd (show false = true from hs) Bool.false_ne_true
  | _ => cases y <;> exact absurd (show false = true from hs) Bool.false_ne_true
theorem op_ne : OpR X (compareOp .NotEq) rNe := by
  intro pins s σ H x y v u Q I rx ry h
  obtain ⟨hs, q⟩ := h
  cases x with
  | non =>
    cases rx
    cases y with
    | non => cases ry; exact PySem.EqNone.ne_none_none (fin_bl I q (by simp))
    | bl j => cases ry; exact PySem.EqNone.ne_none_bool (fin_bl I q (by simp))
    | int j => obtain ⟨t', rfl⟩ := ry; exact PySem.EqNone.ne_none_int (fin_bl I q (by simp))
    | str j => obtain ⟨t', rfl⟩ := ry; exact PySem.EqNone.ne_none_str (fin_bl I q (by simp))
    | _ => exact absurd (show false = true from hs) Bool.false_ne_true
  | bl i =>
    cases rx
    cases y with
    | non => cases ry; exact PySem.EqNone.ne_bool_none (fin_bl I q (by simp))
    | bl j => cases ry; exact ne_bool (fin_bl I q (congrArg not dec_bl))
    | str j => obtain ⟨t', rfl⟩ := ry; exact PySem.EqMixed.ne_bool_str (fin_bl I q (by simp))
    | _ => exact absurd (show false = true from hs) Bool.false_ne_true
  | int i =>
    obtain ⟨t, rfl⟩ := rx
    cases y with
    | non => cases ry; exact PySem.EqNone.ne_int_none (fin_bl I q (by simp))
    | int j => obtain ⟨t', rfl⟩ := ry; exact ne_int (fin_bl I q (congrArg not dec_int))
    | str j => obtain ⟨t', rfl⟩ := ry; exact PySem.EqMixed.ne_int_str (fin_bl I q (by simp))
    | _ => exact absurd (show false = true from hs) Bool.false_ne_true
  | str i =>
    obtain ⟨t, rfl⟩ := rx
    cases y with
    | non => cases ry; exact PySem.EqNone.ne_str_none (fin_bl I q (by simp))
    | bl j => cases ry; exact PySem.EqMixed.ne_str_bool (fin_bl I q (by simp))
    | int j => obtain ⟨t', rfl⟩ := ry; exact PySem.EqMixed.ne_str_int (fin_bl I q (by simp))
    | str j => obtain ⟨t', rfl⟩ := ry; exact ne_str (fin_bl I q (congrArg not dec_str))
    | _ => exact absurd (show false = true from hs) Bool.false_ne_true
  | byt i =>
    obtain ⟨t, rfl⟩ := rx
    cases y with
    | byt j => obtain ⟨t', rfl⟩ := ry; exact PySem.W.ne_bytes (fin_bl I q (congrArg not dec_byt))
    | _ => exact absurd (show false = true from hs) Bool.false_ne_true
  | _ => cases y <;> exact absurd (show false = true from hs) Bool.false_ne_true

theorem op_le : OpR X (compareOp .LtE) (rI0 fun i j => .bl (decide (i ≤ j))) := opB0 fun _ _ _ _ _ _ _ q => le_int q
theorem op_gt : OpR X (compareOp .Gt) (rI0 fun i j => .bl (decide (j < i))) := opB0 fun _ _ _ _ _ _ _ q => gt_int q
theorem op_ge : OpR X (compareOp .GtE) (rI0 fun i j => .bl (decide (j ≤ i))) := opB0 fun _ _ _ _ _ _ _ q => ge_int q
/-- is, is not of two objects that are tracked lists or instances -/
def isObj : HO → Bool
  | .lst _ => true
  | .ins _ _ _ => true
  | _ => false
theorem nomark (b : Expr) {op : CmpOp} (h : op ≠ .In := by decide) (h2 : op ≠ .NotIn := by decide) : behindInMarks op b = false := by
  have e1 : (op == CmpOp.In) = false := by cases op <;> first | rfl | exact absurd rfl h
  have e2 : (op == CmpOp.NotIn) = false := by cases op <;> first | rfl | exact absurd rfl h2
  cases b <;> simp [behindInMarks, e1, e2]
/-- a reading of a value as a test -/
def tTest (t : TE) : TT := fun σ H Q => t σ H fun x H' => ∃ k, x = .bl k ∧ Q k H'
theorem pt_cmpR {op : CmpOp} {r : R2} (ho : OpR X (compareOp op) r) (ha : PE X a ta) (hb : PE X b tb) (hm : behindInMarks op b = false) : PT X (.Compare a [op] [b] pos) (tTest (tOp r ta tb)) := by
  intro pins s σ H Q I h
  refine wpAny_isTrue_Compare1 (thn (ha pins s σ H _ I h) fun v s1 ⟨x, H1, I1, r1, q1⟩ => thn (hb pins s1 σ H1 _ I1 q1) fun u s2 ⟨y, H2, I2, r2, q2⟩ =>
    thn (ho pins s2 σ H2 x y v u _ I2 r1 r2 q2) fun c s3 ⟨z, H3, I3, r3, k, e, q3⟩ => ?_) hm
  subst e
  cases r3
  exact wpAny_truthy_bool ⟨H3, I3, q3⟩
/-- a op1 b op2 c -/
def tChain (r r' : R2) (ta tb tc : TE) : TE := fun σ H Q => ta σ H fun x H1 => tb σ H1 fun y H2 => r x y H2 fun z H3 => ∃ k, z = .bl k ∧
  (if k = true then tc σ H3 fun w' H4 => r' y w' H4 Q else Q (.bl false) H3)
/-! ### truth -/
/-- a value's truth by the abstract heap -/
def TruV (K : PySem.W.Frag) (x : V) (H : Hp) (k : Bool) : Prop :=
  match x with
  | .non => k = false
  | .bl b => k = b
  | .int i => k = (i != 0)
  | .str y => y.length ≤ sizeLine ∧ k = ((y.length : Int) != 0)
  | .byt y => y.size ≤ sizeLine ∧ k = ((y.size : Int) != 0)
  | .ref p => (∃ xs, SqL K H p xs ∧ k = !xs.isEmpty) ∨ (∃ xs, SqT K H p xs ∧ k = !xs.isEmpty) ∨ ∃ kvs, H p = some (.dK kvs) ∧ k = !kvs.isEmpty
  | _ => False
theorem line63 : (sizeLine : Nat) < 2 ^ 63 := by rw [sizeLine_eq]; decide
/-! ### strs and bytes -/
def PlainIxT (b : Expr) : Prop := ∀ o i, subscripted b false o i = operate [o, i] (getItem o i)
/-! ### scalar builtins, by CallR -/
theorem vals1 {x : V} {us : List Value} (r : Vals [x] us) : ∃ u, us = [u] ∧ RelV x u := by
  cases r with
  | cons r1 r2 => cases r2; exact ⟨_, rfl, r1⟩
theorem vals2 {x y : V} {us : List Value} (r : Vals [x, y] us) : ∃ u w', us = [u, w'] ∧ RelV x u ∧ RelV y w' := by
  cases r with
  | cons r1 r2 =>
    cases r2 with
    | cons r3 r4 => cases r4; exact ⟨_, _, rfl, r1, r3⟩
theorem call_max2 (hc : X.calm = true) : CallR X (.builtin "max") (fun xs H Q => ∃ i j, xs = [.int i, .int j] ∧ Q (.int (if j > i then j else i)) H) := by
  intro pins s σ H xs us Q I r h
  obtain ⟨i, j, rfl, q⟩ := h
  obtain ⟨u, w', rfl, ⟨t, rfl⟩, ⟨t', rfl⟩⟩ := vals2 r
  refine max_two_ints (I.ok.hd hc) fun h' tk k => ⟨_, H, I.kept k, ?_, q⟩
  by_cases hj : j > i
  · rw [if_pos hj, if_pos hj]; exact ⟨_, rfl⟩
  · rw [if_neg hj, if_neg hj]; exact ⟨_, rfl⟩
/-- len of a str, a bytes, a list, a tuple -/
def LenV (K : PySem.W.Frag) (x : V) (H : Hp) (n : Nat) : Prop :=
  match x with
  | .str y => y.length ≤ sizeLine ∧ n = y.length
  | .byt y => y.size ≤ sizeLine ∧ n = y.size
  | .ref p => (∃ xs, SqL K H p xs ∧ n = xs.length) ∨ ∃ xs, SqT K H p xs ∧ n = xs.length
  | _ => False
end
end L2

namespace L2
open PySem PySem.Spec PyProof.Rows

/-! ### an instance, its attributes a map -/
structure ObjM (h : Heap) (x dx C : Addr) (mA : Str → Option Value) : Prop where
  obj : h.get? x = some (PySem.W.instObj C dx)
  ns : h.Ns1 dx mA
  ne : dx ≠ x

section
variable {prog : Program} {w : World} {A : Around} {E : Value → Shared → Prop} {s : Shared} {K : PySem.W.Frag} {x dx C f : Addr} {mA : Str → Option Value} {name : Str} {v : Value}

end

/-! ### the attributes as a list of pairs -/
def putF (f : Str) (v : V) : List (Str × V) → List (Str × V)
  | [] => [(f, v)]
  | (g, x) :: r => if g = f then (g, v) :: r else (g, x) :: putF f v r
theorem RelO.some_of {v : V} {o : Option Value} (r : RelO (some v) o) : ∃ u, o = some u ∧ RelV v u := by
  cases o with
  | none => exact (show False from r).elim
  | some u => exact ⟨u, rfl, r⟩
section
variable {P : Program} {w : World} {H H' : Hp} {h h' : Heap} {a C dx : Addr} {fs fs' : List (Str × V)}
end

/-! ### what of the text a class must have -/
structure Cls (K : PySem.W.Frag) (C : Addr) : Prop where
  pg : PySem.W.plainGet K C Str.empty = true
  hd : PySem.W.hasDictIn K C = true
  po : PySem.W.plainOver K C = true
  sa : PySem.W.findIn K (.ref C) "__setattr__" = some (some (.builtin "object.__setattr__"))
theorem Cls.get {K : PySem.W.Frag} {C : Addr} (c : Cls K C) (f : Str) : PySem.W.plainGet K C f = true := c.pg
/-- no class of it has the name -/
def NoAttr (K : PySem.W.Frag) (C : Addr) (f : Str) : Prop := PySem.W.findIn K (.ref C) f = some none
/-- a constant of the class -/
structure Con (K : PySem.W.Frag) (C : Addr) (f : Str) (v : V) (u : Value) : Prop where
  at_ : PySem.W.findIn K (.ref C) f = some (some u)
  rel : RelV v u
  get : PySem.W.specialIn K u "__get__" = some none
  cp : PySem.W.copiedNames.contains f = false
/-- a method: a plain def of the class or of one above it -/
structure Meth (K : PySem.W.Frag) (C : Addr) (m : Str) (f : Addr) : Prop where
  at_ : PySem.W.findIn K (.ref C) m = some (some (.ref f))
  fn : PySem.W.isFn K (.ref f) = true
  kp : PySem.W.keepIn K (.ref f) = true

section
variable {X : Cx} {pins : List (Addr × Obj)} {σ : St} {H : Hp} {s : Shared} {a C dx : Addr} {fs : List (Str × V)} {f : Str} {v : V} {A : Around} {E : Value → Shared → Prop}

end

/-! ### readings and rules -/
/-- e.f, an attribute of the instance -/
def tFld (K : PySem.W.Frag) (ta : TE) (f : Str) : TE := fun σ H Q => ta σ H fun x H1 => ∃ a C dx fs v, x = .ref a ∧ H1 a = some (.ins C dx fs) ∧ Cls K C ∧ NoAttr K C f ∧ fs.lookup f = some v ∧ Q v H1
/-- e.f, a constant of the class -/
def tCon (K : PySem.W.Frag) (ta : TE) (f : Str) : TE := fun σ H Q => ta σ H fun x H1 => ∃ a C dx fs v u, x = .ref a ∧ H1 a = some (.ins C dx fs) ∧ Cls K C ∧ Con K C f v u ∧ fs.lookup f = none ∧ Q v H1
/-- e.f = value -/
def sFld (K : PySem.W.Frag) (ta tv : TE) (f : Str) : TS := fun D σ H => tv σ H fun y H1 => ta σ H1 fun x H2 => ∃ a C dx fs, x = .ref a ∧ H2 a = some (.ins C dx fs) ∧ Cls K C ∧ NoAttr K C f ∧ fs.length < 1000 ∧
  D.nx σ (upd H2 a (.ins C dx (putF f y fs)))
/-- an augmented operator on two values -/
def InOp (X : Cx) (op : Operator) (rd : V → V → Hp → VK → Prop) : Prop :=
  ∀ (pins : List (Addr × Obj)) (s : Shared) (σ : St) (H : Hp) (x y : V) (u v : Value) (Q : VK), Inv X pins σ H s → RelV x u → RelV y v → rd x y H Q → wpAny (model X.prog X.w) X.A (inplaceOp op u v) (EP X pins σ Q) X.xe s
/-- e.f op= value -/
def sFldAug (K : PySem.W.Frag) (ta tv : TE) (rd : V → V → Hp → VK → Prop) (f : Str) : TS := fun D σ H => ta σ H fun x H1 => ∃ a C dx fs v, x = .ref a ∧ H1 a = some (.ins C dx fs) ∧ Cls K C ∧ NoAttr K C f ∧ fs.lookup f = some v ∧
  tv σ H1 fun y H2 => rd v y H2 fun z H3 => ∃ dx' fs', H3 a = some (.ins C dx' fs') ∧ fs'.length < 1000 ∧ D.nx σ (upd H3 a (.ins C dx' (putF f z fs')))

section
variable {X : Cx} {o e value : Expr} {f : Str} {pos pos' tpos : Pos} {ta tv : TE}
def rAdd : V → V → Hp → VK → Prop := fun x y H Q => ∃ i j, x = .int i ∧ y = .int j ∧ Q (.int (i + j)) H
def rSub : V → V → Hp → VK → Prop := fun x y H Q => ∃ i j, x = .int i ∧ y = .int j ∧ Q (.int (i - j)) H
end

/-! ### isinstance -/
section
variable {X : Cx} {pins : List (Addr × Obj)} {σ : St} {H : Hp} {s : Shared} {A : Around} {E : Value → Shared → Prop} {Q : Value → Shared → Prop} {c : Value} {b : Bool}
/-- the type of a value, as the fragment's deciders take it; for an instance its class -/
inductive TyOf (K : PySem.W.Frag) (H : Hp) : V → Value → Prop where
  | non : TyOf K H .non (.type "NoneType")
  | bl (x : Bool) : TyOf K H (.bl x) (.type "bool")
  | int (i : Int) : TyOf K H (.int i) (.type "int")
  | str (x : Str) : TyOf K H (.str x) (.type "str")
  | flt (x : UInt64) : TyOf K H (.flt x) (.type "float")
  | lst {a : Addr} {xs : List V} (e : H a = some (.lst xs)) : TyOf K H (.ref a) (.type "list")
  | frz {a : Addr} {o : Obj} {xs : List V} (e : H a = some (.frz o (.lst xs))) : TyOf K H (.ref a) (.type "list")
  | tup {a : Addr} {xs : List V} (e : H a = some (.tup xs)) : TyOf K H (.ref a) (.type "tuple")
  | dK {a : Addr} {kvs : List (Key × V)} (e : H a = some (.dK kvs)) : TyOf K H (.ref a) (.type "dict")
  | dT {a : Addr} {kvs : List (List Key × V)} (e : H a = some (.dT kvs)) : TyOf K H (.ref a) (.type "dict")
  | ins {a C dx : Addr} {fs : List (Str × V)} (e : H a = some (.ins C dx fs)) (cl : Cls K C) (ha : PySem.W.findIn K (.ref C) "__class__" = some (some (.builtin "object.__class__")))
      (hn : PySem.W.specialIn K (.builtin "object.__class__") "__get__" = some (some (.builtin "getset_descriptor.__get__"))) (htk : PySem.W.takesIn K (.builtin "object.__class__") = some true)
      (hm : PySem.W.mroIn K C (.type "object") = some true) : TyOf K H (.ref a) (.ref C)
end
end L2

namespace L2
open PySem PySem.Spec PyProof.Rows

/-! ### room -/
structure Room (k : Nat) (A : Around) : Prop where
  hd : A.handled = none
  dp : A.depth + 3 * k + 5 < recursionLimit
  un : A.units + 16 * k + 200 < cLine
  gd : A.guards = some []
theorem Room.mono {j k : Nat} {A : Around} (r : Room k A) (h : j ≤ k) : Room j A := ⟨r.hd, by have := r.dp; omega, by have := r.un; omega, r.gd⟩
theorem Room.deeper {k : Nat} {A : Around} (r : Room (k + 1) A) (env : Env) : Room k (A.deeper env) :=
  ⟨r.hd, by have := r.dp; show A.depth + 1 + 3 * k + 5 < _; omega, by have := r.un; show A.units + 3 + 16 * k + 200 < _; omega, r.gd⟩
theorem Room.depth {k : Nat} {A : Around} (r : Room k A) : A.depth < recursionLimit := by have := r.dp; omega
theorem Room.units {k : Nat} {A : Around} (r : Room k A) : A.units + 64 < cLine := by have := r.un; omega
/-! ### argument lists and displays -/
def tNil : TA := fun _ H Q => Q [] H
def tCons (ta : TE) (tr : TA) : TA := fun σ H Q => ta σ H fun x H1 => tr σ H1 fun xs H2 => Q (x :: xs) H2
section
variable {X : Cx} {e : Expr} {es : List Expr} {te : TE} {t : TA} {pos : Pos}
theorem pa_nil : PA X [] tNil := fun _ _ _ _ H Q I h => Calls.spliced_nil ⟨[], H, I, .nil, h⟩
theorem pa_cons (ha : PE X e te) (hr : PA X es t) (hs : starEach (e :: es) X.env = (false, eval e X.env) :: starEach es X.env := by rfl) : PA X (e :: es) (tCons te t) := by
  intro pos pins s σ H Q I h
  rw [hs]
  show wpAny _ _ (spliced ((false, eval e X.env) :: backTo pos (starEach es X.env))) _ _ s
  refine Calls.spliced_cons (thn (ha pins s σ H _ I h) fun u s1 ⟨x, H1, I1, r1, q1⟩ => ?_)
  exact thn (hr pos pins s1 σ H1 _ I1 q1) fun us s2 ⟨xs, H2, I2, r2, q2⟩ => ⟨x :: xs, H2, I2, .cons r1 r2, q2⟩

/-- a tuple, a list of written items -/
def tTup (t : TA) : TE := fun σ H Q => t σ H fun xs H1 => xs.length ≤ sizeLine ∧ ∀ p, H1 p = none → Q (.ref p) (upd H1 p (.tup xs))
def tLst (t : TA) : TE := fun σ H Q => t σ H fun xs H1 => xs.length ≤ sizeLine ∧ ∀ p, H1 p = none → Q (.ref p) (upd H1 p (.lst xs))
theorem pe_tup {x1} (h : PA X es t) : PE X (.Tuple es x1 pos) (tTup t) := by
  intro pins s σ H Q I hq
  refine wpAny_Tuple_spliced (thn (h pos pins s σ H _ I hq) fun us s1 ⟨xs, H1, I1, r, z, q⟩ => ⟨by rw [← r.length]; exact z, ?_⟩)
  have hf : H1 s1.heap.objs.size = none := I1.hok.fresh (Nat.le_refl _)
  refine ⟨.ref s1.heap.objs.size, upd H1 s1.heap.objs.size (.tup xs), I1.laid (t' := s1.toks) (fun b u e => Heap.get?_push_of_some _ e) (Nat.le_refl _) ?_, rfl, q _ hf⟩
  exact ⟨z, us, r, ⟨_, Heap.get?_push_size _ rfl, rfl, _, rfl⟩⟩
theorem pe_lst (h : PA X es t) : PE X (.List es pos) (tLst t) := by
  intro pins s σ H Q I hq
  refine wpAny_List_spliced (thn (h pos pins s σ H _ I hq) fun us s1 ⟨xs, H1, I1, r, z, q⟩ => ⟨by rw [← r.length]; exact z, ?_⟩)
  have hf : H1 s1.heap.objs.size = none := I1.hok.fresh (Nat.le_refl _)
  refine ⟨.ref s1.heap.objs.size, upd H1 s1.heap.objs.size (.lst xs), I1.laid (t' := s1.toks) (fun b u e => Heap.get?_push_of_some _ e) (Nat.le_refl _) ?_, rfl, q _ hf⟩
  exact ⟨z, us, 0, r, Heap.get?_push_size _ rfl⟩
end

/-! ### what a def promises -/
/-- a def's promise: the bound arguments in the parameters' order, the heap, the wanted end, the wanted exception -/
abbrev Sp := List V → Hp → VK → XK → Prop
/-- how an exception lies behind a call (file 08 gives it): the callers' frames, abstract heap and state ahead of the call, the wish, the exception, the state -/
abbrev CXT := List Env → Hp → Shared → XK → Value → Shared → Prop

/-- the state at a call -/
structure Env0 (P : Program) (w : World) (K : PySem.W.Frag) (mg : Str → Option Value) (base : Heap) (A : Around) (outer : List Env) (s : Shared) (H : Hp) : Prop where
  frames : A.frames = some outer
  mod : Mod K mg base
  bs : ∀ b o, base.get? b = some o → s.heap.get? b = some o ∧ H b = none
  bsz : base.objs.size ≤ s.heap.objs.size
  funs : s.heap.FunFrames base outer
  frf : ∀ b ∈ frs outer, H b = none
  hok : HOk P w H s.heap
  bare : AllBare s.gens
/-- a call's end -/
def CE (outer : List Env) (P : Program) (w : World) (H : Hp) (s : Shared) (Q : VK) (u : Value) (s' : Shared) : Prop :=
  ∃ v H', s'.os = s.os ∧ AllBare s'.gens ∧ Un (frs outer) [] H H' s.heap s'.heap ∧ HOk P w H' s'.heap ∧ RelV v u ∧ Q v H'
def CR (CX : CXT) (outer : List Env) (P : Program) (w : World) (H : Hp) (s : Shared) (Q : VK) (E : XK) (r : Result) (s' : Shared) : Prop :=
  match r with
  | .ok (.ret u) => CE outer P w H s Q u s'
  | .ok _ => False
  | .error e => CX outer H s E e s'
structure FnOk (P : Program) (w : World) (K : PySem.W.Frag) (mg : Str → Option Value) (base : Heap) (CX : CXT) (k : Nat) (f : Addr) (fd : FuncData) (ps : List Str) (sp : Sp) : Prop where
  len : ∀ vs H Q E, sp vs H Q E → vs.length = ps.length
  run : ∀ (A : Around) (outer : List Env) (s : Shared) (H : Hp) (args : Args) (us : List Value) (vs : List V) (Q : VK) (E : XK), Room k A → Env0 P w K mg base A outer s H → BindsTo s fd args (ps.zip us) → Vals vs us → sp vs H Q E →
    codeAny (model P w) A (.call (.ref f) args) (CR CX outer P w H s Q E) s
theorem FnOk.mono {P : Program} {w : World} {K : PySem.W.Frag} {mg : Str → Option Value} {base : Heap} {CX : CXT} {j k : Nat} {f : Addr} {fd : FuncData} {ps : List Str} {sp : Sp} (F : FnOk P w K mg base CX j f fd ps sp) (h : j ≤ k) :
    FnOk P w K mg base CX k f fd ps sp := ⟨F.len, fun A outer s H args us vs Q E hr => F.run A outer s H args us vs Q E (hr.mono h)⟩
section
variable {X : Cx} {pins : List (Addr × Obj)} {σ : St} {H : Hp} {s s' : Shared}
/-- from a body: what a callee wants -/
theorem Inv.env0 (I : Inv X pins σ H s) : Env0 X.prog X.w X.K X.mg X.base X.A X.stack s H :=
  ⟨I.ok.frames, I.ok.mod, I.bs, Nat.le_trans I.ok.bsz I.sz, I.stack, I.stkFree, I.hok, I.bare⟩
/-- behind a call -/
theorem Inv.after {Q : VK} {u : Value} (I : Inv X pins σ H s) (h : CE X.stack X.prog X.w H s Q u s') : EP X pins σ Q u s' := by
  obtain ⟨v, H', os, bare, un, hok, r, q⟩ := h
  obtain ⟨hh, g, d, t, os'⟩ := s'
  obtain rfl : os' = s.os := os
  exact ⟨v, H', I.call (h' := hh) (g' := g) (d' := d) (t' := t) (ch := []) un hok bare (fun b z => absurd z (by simp)), r, q⟩
end

/-! ### calls -/
/-- f(..): the written arguments, then the defaults dvs; E: what is wanted of an exception -/
def tCall (sp : Sp) (dvs : List V) (E : XK) (t : TA) : TE := fun σ H Q => t σ H fun vs H1 => sp (vs ++ dvs) H1 Q E
/-- o.m(..) of an instance of the class at C -/
def tMeth (C : Addr) (m : Str) (sp : Sp) (dvs : List V) (E : XK) (ta : TE) (t : TA) : TE := fun σ H Q => ta σ H fun x H1 => ∃ a dx fs, x = .ref a ∧ H1 a = some (.ins C dx fs) ∧ fs.lookup m = none ∧
  t σ H1 fun vs H2 => sp (x :: (vs ++ dvs)) H2 Q E
/-- C(..): a new instance and its dict, then __init__ -/
def tMake (C : Addr) (sp : Sp) (dvs : List V) (E : XK) (t : TA) : TE := fun σ H Q => t σ H fun vs H1 => ∀ x dx, H1 x = none → H1 dx = none → dx ≠ x →
  sp (.ref x :: (vs ++ dvs)) (upd (upd H1 dx (.own x)) x (.ins C dx [])) (fun v H2 => v = .non ∧ Q (.ref x) H2) E

/-- how the parameters are bound: us the positional arguments, kw the keywords' values by name, ds the defaults that fill up -/
def Binds (K : PySem.W.Frag) (fd : FuncData) (ps : List Str) (ds : List Value) : Prop :=
  ∀ (s : Shared) (us : List Value), K.In s.heap → (us ++ ds).length = ps.length → BindsTo s fd ⟨us, []⟩ (ps.zip (us ++ ds))
/-- every parameter is given -/
theorem Binds.all {K : PySem.W.Frag} {fd : FuncData} {ps : List Str} (h : ∀ us : List Value, us.length = ps.length → bindArgs fd ⟨us, []⟩ = pure (ps.zip us)) : Binds K fd ps [] := fun s us _ hl => by
  rw [List.append_nil] at hl ⊢
  exact .of_eq (h us hl)

/-- an exception of a callee reaches what this body wants of exceptions -/
def Passes (CX : CXT) (X : Cx) (E : XK) : Prop := ∀ (pins : List (Addr × Obj)) (σ : St) (H : Hp) (s : Shared) (e : Value) (s' : Shared), Inv X pins σ H s → CX X.stack H s E e s' → X.xe e s'

section
variable {X : Cx} {CX : CXT} {k : Nat} {f C : Addr} {fd : FuncData} {ps : List Str} {sp : Sp} {dvs : List V} {ds : List Value} {E : XK} {x m : Str} {p pos apos : Pos} {e o : Expr} {es : List Expr} {ta : TE} {t : TA}

/-- the callee runs -/
theorem run_fn {pins : List (Addr × Obj)} {σ : St} {H : Hp} {s : Shared} {Q : VK} {us : List Value} {vs : List V} (F : FnOk X.prog X.w X.K X.mg X.base CX k f fd ps sp) (hr : Room k X.A) (hb : Binds X.K fd ps ds) (hd : Vals dvs ds) (hx : Passes CX X E)
    (I : Inv X pins σ H s) (r : Vals vs us) (h : sp (vs ++ dvs) H Q E) : wpAny (model X.prog X.w) X.A (call (.ref f) us) (EP X pins σ Q) X.xe s := by
  have r2 : Vals (vs ++ dvs) (us ++ ds) := r.append hd
  have hl : (us ++ ds).length = ps.length := by rw [← r2.length]; exact F.len _ _ _ _ h
  refine wpAny_call (codeAny_mono (F.run X.A X.stack s H ⟨us, []⟩ (us ++ ds) (vs ++ dvs) Q E hr I.env0 (hb s us I.kIn hl) r2 h) fun r s' hq => ?_)
  cases r with
  | error e => exact hx pins σ H s e s' I hq
  | ok fl =>
    cases fl with
    | ret u => exact I.after hq
    | next => exact False.elim hq
    | brk => exact False.elim hq
    | cont => exact False.elim hq

theorem pe_call (F : FnOk X.prog X.w X.K X.mg X.base CX k f fd ps sp) (hr : Room k X.A) (hg : Gl X x) (hm : X.mg x = some (.ref f)) (hk : PySem.W.keepIn X.K (.ref f) = true) (hb : Binds X.K fd ps ds) (hd : Vals dvs ds) (hx : Passes CX X E)
    (ha : PA X (e :: es) t) (hdb : (x == ("__debug__" : Str)) = false := by decide) (he : starEach (e :: es) X.env = (false, eval e X.env) :: starEach es X.env := by rfl) (hpl : (backTo pos (starEach es X.env)).any (·.1) = false := by rfl) :
    PE X (.Call (.Name x p) (e :: es) [] pos) (tCall sp dvs E t) := by
  intro pins s σ H Q I h
  refine wpAny_Call_Name_kw (ld_glob I hg hm ?_ hdb)
  refine PySem.W.callWith_K (h₀ := X.base) I.ok.mod.kin hk (thn (ha pos pins s σ H _ I h) fun us s1 ⟨vs, H1, I1, r, q⟩ => ⟨I1.kIn, ?_⟩) he hpl
  exact run_fn F hr hb hd hx I1 r q
/-- what a class must have to be made -/
structure Mk (K : PySem.W.Frag) (C f : Addr) : Prop where
  makes : PySem.W.makesIn K C = true
  init : PySem.W.findIn K (.ref C) "__init__" = some (some (.ref f))
  fn : PySem.W.isFn K (.ref f) = true
  kp : PySem.W.keepIn K (.ref C) = true

end

/-! ### keywords -/
/-- the values of the keywords, from the left -/
def PK (X : Cx) (kws : List Keyword) (t : TA) : Prop :=
  ∀ (pos : Pos) (pins : List (Addr × Obj)) (s : Shared) (σ : St) (H : Hp) (Q : List V → Hp → Prop), Inv X pins σ H s → t σ H Q → wpAny (model X.prog X.w) X.A (evalAll ((backToKw pos (keywordEach kws X.env)).map (·.2))) (AP X pins σ Q) X.xe s
section
variable {X : Cx} {CX : CXT} {k : Nat} {f C : Addr} {fd : FuncData} {ps ks : List Str} {sp : Sp} {E : XK} {x m : Str} {p pos apos kpos : Pos} {e o : Expr} {es : List Expr} {kws : List Keyword} {te ta : TE} {t tk : TA} {nm : Option Str}
/-- how a call with keywords binds: g puts the positional values us and the keywords' values ws (names ks) in the parameters' order, defaults among them -/
structure KBinds (K : PySem.W.Frag) (fd : FuncData) (ps ks : List Str) (g : List Value → List Value → List Value) (gV : List V → List V → List V) : Prop where
  to : ∀ (s : Shared) (us ws : List Value), K.In s.heap → (g us ws).length = ps.length → BindsTo s fd ⟨us, ks.zip ws⟩ (ps.zip (g us ws))
  rel : ∀ {vs : List V} {us : List Value} {zs : List V} {ws : List Value}, Vals vs us → Vals zs ws → Vals (gV vs zs) (g us ws)
def tCallK (sp : Sp) (gV : List V → List V → List V) (E : XK) (t tk : TA) : TE := fun σ H Q => t σ H fun vs H1 => tk σ H1 fun zs H2 => sp (gV vs zs) H2 Q E
variable {g : List Value → List Value → List Value} {gV : List V → List V → List V}
end

/-! ### a def's body keeps its promise -/
/-- names: the parameters first -/
structure FnScope (N P : List Str) (sc : Scope) : Prop where
  kind : sc.kind = .function
  co : sc.isCoroutine = false
  gen : sc.isGenerator = false
  nd : N.Nodup
  pre : N.take P.length = P
  par : ∀ x ∈ P, sc.names.lookup x = some .local ∨ sc.names.lookup x = some .cell
  nofree : ∀ y ∈ sc.names, y.2 ≠ .free

theorem bindL_out {kindOf : Str → Option NameKind} {x : Str} : ∀ {binds : List (Str × Value)} {m : Str → Option Value}, (∀ v, (x, v) ∉ binds) → bindL kindOf binds m x = m x
  | [], _, _ => rfl
  | (n, v) :: r, m, h => by
    unfold bindL
    rw [bindL_out fun w hw => h w (List.mem_cons_of_mem _ hw)]
    split
    · have : x ≠ n := by rintro rfl; exact h v List.mem_cons_self
      simp [this]
    · rfl
theorem bindC_out {kindOf : Str → Option NameKind} {x : Str} : ∀ {binds : List (Str × Value)} {m : Str → Option Value}, (∀ v, (x, v) ∉ binds) → bindC kindOf binds m x = m x
  | [], _, _ => rfl
  | (n, v) :: r, m, h => by
    unfold bindC
    rw [bindC_out fun w hw => h w (List.mem_cons_of_mem _ hw)]
    split
    · rfl
    · have : x ≠ n := by rintro rfl; exact h v List.mem_cons_self
      simp [this]
theorem bindL_get {kindOf : Str → Option NameKind} {x : Str} {v : Value} : ∀ {P : List Str} {vs : List Value} {i : Nat} {m : Str → Option Value}, P.Nodup → P[i]? = some x → vs[i]? = some v → kindOf x = some .local →
    bindL kindOf (P.zip vs) m x = some v
  | [], _, _, _, _, h, _, _ => by simp at h
  | _ :: _, [], _, _, _, _, h, _ => by simp at h
  | p :: P, w :: vs, 0, m, nd, h1, h2, hk => by
    simp at h1 h2; subst h1; subst h2
    show bindL kindOf ((p, w) :: P.zip vs) m p = _
    unfold bindL
    rw [bindL_out fun v hv => (List.nodup_cons.mp nd).1 (List.of_mem_zip hv).1, if_pos hk]
    simp
  | p :: P, w :: vs, i + 1, m, nd, h1, h2, hk => by
    show bindL kindOf ((p, w) :: P.zip vs) m x = _
    unfold bindL
    exact bindL_get (i := i) (List.nodup_cons.mp nd).2 (by simpa using h1) (by simpa using h2) hk
theorem bindC_get {kindOf : Str → Option NameKind} {x : Str} {v : Value} : ∀ {P : List Str} {vs : List Value} {i : Nat} {m : Str → Option Value}, P.Nodup → P[i]? = some x → vs[i]? = some v → kindOf x ≠ some .local →
    bindC kindOf (P.zip vs) m x = some v
  | [], _, _, _, _, h, _, _ => by simp at h
  | _ :: _, [], _, _, _, _, h, _ => by simp at h
  | p :: P, w :: vs, 0, m, nd, h1, h2, hk => by
    simp at h1 h2; subst h1; subst h2
    show bindC kindOf ((p, w) :: P.zip vs) m p = _
    unfold bindC
    rw [bindC_out fun v hv => (List.nodup_cons.mp nd).1 (List.of_mem_zip hv).1, if_neg hk]
    simp
  | p :: P, w :: vs, i + 1, m, nd, h1, h2, hk => by
    show bindC kindOf ((p, w) :: P.zip vs) m x = _
    unfold bindC
    exact bindC_get (i := i) (List.nodup_cons.mp nd).2 (by simpa using h1) (by simpa using h2) hk

/-- the names' values at the entry -/
def start (N : List Str) (vs : List V) : St := vs.map some ++ List.replicate (N.length - vs.length) none

/-- the context of a def's body, at its entry; an exception leaves the frame, then lies as CX says -/
def cxOf (CX : CXT) (P : Program) (w : World) (K : PySem.W.Frag) (mg : Str → Option Value) (base : Heap) (N : List Str) (qual : Str) (scope : Scope) (f : Addr) (cd : Value) (A : Around) (outer : List Env) (s : Shared) (H : Hp) (E : XK) : Cx where
  prog := P
  w := w
  K := K
  mg := mg
  base := base
  A := A.deeper (envOfC qual scope s.heap.objs.size f cd)
  N := N
  s₀ := s
  H₀ := H
  env := envOfC qual scope s.heap.objs.size f cd
  outer := outer
  stack := envOfC qual scope s.heap.objs.size f cd :: outer
  ex := []
  calm := true
  fn := fun _ => true
  pn := []
  xe := fun e s' => wpAny (model P w) (A.deeper (envOfC qual scope s.heap.objs.size f cd)) (leaving (envOfC qual scope s.heap.objs.size f cd) e) (fun _ s'' => CX outer H s E e s'') (fun e' s'' => CX outer H s E e' s'') s'

theorem cell_has {sc : Scope} {n : Nat} {x : Str} (h : sc.names.lookup x = some .cell) : ∃ c, (cellsFrom n sc.names []).lookup x = some c := by
  have q := PySem.W.cellsFrom_some sc.names n [] (.inl h)
  exact Option.isSome_iff_exists.mp q

theorem inv_start {CX : CXT} {P : Program} {w : World} {K : PySem.W.Frag} {mg : Str → Option Value} {base : Heap} {N ps : List Str} {qual : Str} {scope : Scope} {f : Addr} {cd : Value} {A : Around} {outer : List Env} {s s1 : Shared} {H : Hp} {E : XK} {us : List Value} {vs : List V}
    (S : FnScope N ps scope) (hd : A.handled = none) (e0 : Env0 P w K mg base A outer s H) (hl : vs.length = ps.length) (r : Vals vs us)
    (x : InCallC s s.heap.objs.size (bindL (envOfC qual scope s.heap.objs.size f cd).kindOf (ps.zip us) fun _ => none) (cellsFrom (s.heap.objs.size + 1) scope.names []) (bindC (envOfC qual scope s.heap.objs.size f cd).kindOf (ps.zip us) fun _ => none) s1) :
    Inv (cxOf CX P w K mg base N qual scope f cd A outer s H E) [] (start N vs) H s1 := by
  have hpl : ps.length ≤ N.length := by have := congrArg List.length S.pre; rw [List.length_take] at this; omega
  obtain ⟨h1, tk, rfl, hk⟩ := x.done
  have noA : ∀ b : Addr, b ∉ (cxOf CX P w K mg base N qual scope f cd A outer s H E).ex := fun b z => absurd (show b ∈ ([] : List Addr) from z) (by simp)
  refine ⟨⟨e0.mod, S.kind, rfl, rfl, Nat.le_refl _, fun y z c h1 h2 => ?_, fun y hy => ?_, fun y c _ h => ?_, fun _ => hd, Around.frames_deeper e0.frames, .inr ⟨rfl, rfl⟩, fun b z => absurd z (noA b), e0.bs, e0.bsz, fun b _ _ => noA b, fun b z => absurd z (noA b), e0.funs, e0.frf⟩,
    rfl, e0.bare, Un.kept hk, ⟨_, x.toInCall.ns, fun i y v h1 h2 h3 => ?_⟩, fun y c h => ⟨_, x.cell y c h⟩, e0.hok.fresh (Nat.le_refl _), fun y c h => ?_, fun p hp => absurd (show p ∈ ([] : List (Addr × Obj)) from hp) (by simp), e0.hok.kept hk, ?_⟩
  · exact name_of_addr x.apart (PySem.mem_of_lookup h1) (PySem.mem_of_lookup h2)
  · have hy : scope.names.lookup y = some .cell ∨ scope.names.lookup y = some .free := hy
    rcases hy with hy | hy
    · exact cell_has hy
    · exact absurd rfl (S.nofree _ (PySem.mem_of_lookup hy))
  · exact Nat.le_of_lt (x.above y c (PySem.mem_of_lookup h))
  · have hi : i < vs.length := by
      unfold start at h2
      by_cases hi : i < vs.length
      · exact hi
      · rw [List.getElem?_append_right (by simpa using hi)] at h2
        rw [List.getElem?_replicate] at h2
        split at h2 <;> cases h2
    have ha : vs[i]? = some v := by
      unfold start at h2
      rw [List.getElem?_append_left (by simpa using hi), List.getElem?_map] at h2
      cases e : vs[i]? with
      | none => rw [e] at h2; cases h2
      | some a => rw [e] at h2; cases h2; rfl
    obtain ⟨u, hu, rv⟩ := r.get ha
    have hp : ps[i]? = some y := by
      rw [← S.pre, List.getElem?_take_of_lt (by omega)]; exact h1
    have ndP : ps.Nodup := by rw [← S.pre]; exact S.nd.sublist (List.take_sublist _ _)
    refine ⟨u, rv, ?_⟩
    rcases S.par y (List.mem_of_getElem? hp) with k | k
    · exact .inl ⟨k, bindL_get ndP hp hu k⟩
    · obtain ⟨c, e⟩ := cell_has (n := s.heap.objs.size + 1) k
      refine .inr ⟨.inl k, c, e, ?_⟩
      have q := x.cell y c e
      rw [bindC_get ndP hp hu (by show scope.names.lookup y ≠ _; rw [k]; decide)] at q
      exact q
  · exact e0.hok.fresh (Nat.le_of_lt (x.above y c (PySem.mem_of_lookup h)))
  · unfold start
    show _ = N.length
    rw [List.length_append, List.length_map, List.length_replicate]
    omega

/-- THE RULE: a def (or a method) of the text, by its body. The body's reading t is chosen for each entry; it is run at the parameters' values -/
theorem fn_of {CX : CXT} {P : Program} {w : World} {K : PySem.W.Frag} {mg : Str → Option Value} {base : Heap} {k : Nat} {f : Addr} {name qual : Str} {params : Arguments} {body : List Stmt} {scope : Scope} {dV kV doc pm cdv ct oc : Value} {an od : Option Addr}
    {osl : Array (Option Value)} {N ps : List Str} {sp : Sp} (lk : K.lookup f = some ⟨oc, od, .func (PySem.W.fnOf name qual params body scope dV kV doc pm an cdv ct), osl⟩) (hcd : PySem.W.codeIn K cdv qual = true) (S : FnScope N ps scope)
    (len : ∀ vs H Q E, sp vs H Q E → vs.length = ps.length)
    (hbody : ∀ (A : Around) (outer : List Env) (s : Shared) (H : Hp) (vs : List V) (Q : VK) (E : XK), Room k (A.deeper (envOfC qual scope s.heap.objs.size f cdv)) → sp vs H Q E →
      ∃ t, PSs (cxOf CX P w K mg base N qual scope f cdv A outer s H E) body t ∧ t { nx := fun _ H' => Q .non H', rt := Q } (start N vs) H) :
    FnOk P w K mg base CX (k + 1) f (PySem.W.fnOf name qual params body scope dV kV doc pm an cdv ct) ps sp := by
  refine ⟨len, fun A outer s H args us vs Q E hr e0 hb r hsp => ?_⟩
  have hl := len _ _ _ _ hsp
  have KX : K.In s.heap := e0.mod.kin.keeps fun b o e => (e0.bs b o e).1
  have lim : s.heap.NoLimit := e0.mod.nolimit.keeps fun b o e => (e0.bs b o e).1
  have hkind : ∀ y ∈ ps.zip us, scope.names.lookup y.1 = some .local ∨ (scope.names.lookup y.1 = some .cell ∧ ((cellsFrom (s.heap.objs.size + 1) scope.names []).lookup y.1).isSome = true) := fun ⟨n, v⟩ hy => by
    rcases S.par n (List.of_mem_zip hy).1 with q | q
    · exact .inl q
    · exact .inr ⟨q, PySem.W.cellsFrom_some _ _ _ (.inl q)⟩
  refine codeAny_call_function hr.depth (KX _ _ lk) rfl S.co S.gen rfl (PySem.W.codeRec_of KX hcd) (hb _ _ _ _ ?_)
  refine wpAny_newFunctionEnv_cells S.kind hkind fun env he s1 x => ?_
  subst he
  refine ⟨lim.keeps x.toInCall.keep, codeAny_func ?_⟩
  obtain ⟨t, ht, hq⟩ := hbody A outer s H vs Q E (hr.deeper _) hsp
  have I : Inv (cxOf CX P w K mg base N qual scope f cdv A outer s H E) [] (start N vs) H s1 := inv_start S hr.hd e0 hl r x
  refine wpAny_mono (ht [] s1 (start N vs) H _ I hq) (fun fl s' hs => ?_) fun e s' hs => hs
  have fin : ∀ {σ' : St} {H' : Hp} {v : V} {u : Value}, Inv (cxOf CX P w K mg base N qual scope f cdv A outer s H E) [] σ' H' s' → RelV v u → Q v H' → CE outer P w H s Q u s' :=
    fun {σ' H' v u} J rv q => ⟨v, H', J.os, J.bare, J.base, J.hok, rv, q⟩
  cases fl with
  | ret u =>
    obtain ⟨v, σ', H', J, rv, q⟩ := hs
    exact fin J rv q
  | next =>
    obtain ⟨σ', H', J, q⟩ := hs
    exact fin (v := V.non) (u := Value.none) J rfl q
  | brk =>
    obtain ⟨_, _, _, q⟩ := hs
    exact False.elim q
  | cont =>
    obtain ⟨_, _, _, q⟩ := hs
    exact False.elim q
end L2

namespace L2
open PySem PySem.Spec PyProof.Rows
section
variable {X : Cx} {x : Str} {p pos : Pos} {e : Expr} {es : List Expr} {t : TA} {id T : String} {r : List V → Hp → VK → Prop}

def tCB (r : List V → Hp → VK → Prop) (t : TA) : TE := fun σ H Q => t σ H fun vs H1 => r vs H1 Q
/-- f(e, ..), f a built-in function -/
theorem pe_callB (hc : CallR X (.builtin id) r) (hg : Gl X x) (hm : X.mg x = none) (hv : bootBuiltins x = some (.builtin id)) (ha : PA X (e :: es) t) (hn : x ≠ "__name__" := by decide) (hdb : (x == ("__debug__" : Str)) = false := by decide)
    (he : starEach (e :: es) X.env = (false, eval e X.env) :: starEach es X.env := by rfl) (hpl : (backTo pos (starEach es X.env)).any (·.1) = false := by rfl) : PE X (.Call (.Name x p) (e :: es) [] pos) (tCB r t) := by
  intro pins s σ H Q I h
  refine wpAny_Call_Name_kw (ld_blt I hg hm hv ?_ hn hdb)
  exact PyProof.Rows.callWith_builtin1 (thn (ha pos pins s σ H _ I h) fun us s1 ⟨vs, H1, I1, r1, q1⟩ => hc pins s1 σ H1 vs us Q I1 r1 q1) he hpl
/-- T(e, ..), T a built-in type -/
theorem pe_callTy (hc : CallR X (.type T) r) (hg : Gl X x) (hm : X.mg x = none) (hv : bootBuiltins x = some (.type T)) (ha : PA X (e :: es) t) (hn : x ≠ "__name__" := by decide) (hdb : (x == ("__debug__" : Str)) = false := by decide)
    (he : starEach (e :: es) X.env = (false, eval e X.env) :: starEach es X.env := by rfl) (hpl : (backTo pos (starEach es X.env)).any (·.1) = false := by rfl) : PE X (.Call (.Name x p) (e :: es) [] pos) (tCB r t) := by
  intro pins s σ H Q I h
  refine wpAny_Call_Name_kw (ld_blt I hg hm hv ?_ hn hdb)
  exact PyProof.Rows.callWith_type1 (thn (ha pos pins s σ H _ I h) fun us s1 ⟨vs, H1, I1, r1, q1⟩ => hc pins s1 σ H1 vs us Q I1 r1 q1) he hpl
end
end L2

namespace HT
open PySem PyProof.Rows

/-- t < u of tuples of ints -/
def lexLt : List Int → List Int → Bool
  | [], [] => false
  | [], _ :: _ => true
  | _ :: _, [] => false
  | x :: xs, y :: ys => if x = y then lexLt xs ys else decide (x < y)
section
open PySem.SeqAt
open PySem.AutoSeq1 (wpAny_loadPart')
open PySem.MeetsSeq PySem.MeetsSeq2 PySem.MeetsSeq3

end

section
variable {prog : Program} {w : World} {A : Around} {E : Value → Shared → Prop} {s : Shared}

/-! ### t[a:b], not the whole -/
/-- a slice's bound as a place among n (d where it is left out) -/
def sIx (n d : Nat) : Option Int → Nat
  | none => d
  | some v => if v < 0 then (v + (n : Int)).toNat else min v.toNat n
theorem sIx_nat (n d k : Nat) : sIx n d (some (k : Int)) = min k n := by
  show (if (k : Int) < 0 then ((k : Int) + (n : Int)).toNat else min (k : Int).toNat n) = min k n
  rw [if_neg (by omega), Int.toNat_natCast]
end
end HT

namespace L2
open PySem PySem.Spec PyProof.Rows

/-! ### the parts of a slice -/
abbrev TO := St → Hp → (Option Int → Hp → Prop) → Prop
/-- a slice's part (left out, or an int) -/
def PO (X : Cx) (e : Option Expr) (t : TO) : Prop :=
  ∀ (pins : List (Addr × Obj)) (s : Shared) (σ : St) (H : Hp) (Q : Option Int → Hp → Prop), Inv X pins σ H s → t σ H Q →
    wpAny (model X.prog X.w) X.A (evalPart e X.env) (fun u s' => ∃ o H', Inv X pins σ H' s' ∧ IsPart u o ∧ Q o H') X.xe s
def tNoPart : TO := fun _ H Q => Q none H
def tPart (t : TE) : TO := fun σ H Q => t σ H fun x H1 => ∃ i, x = .int i ∧ Q (some i) H1

theorem intsAre_of {ns : List Int} : ∀ {us : List Value}, Vals (ns.map V.int) us → IntsAre us ns := by
  induction ns with
  | nil => intro us r; rw [List.map_nil] at r; cases r; exact .nil
  | cons n ns ih =>
    intro us r
    rw [List.map_cons] at r
    cases r with
    | cons r1 r2 =>
      obtain ⟨t, e⟩ := r1
      subst e
      exact .cons n t (ih r2)

section
variable {X : Cx} {e : Expr} {te : TE} {lo hi : Option Expr} {tl th : TO} {pos p2 : Pos}

theorem po_none : PO X none tNoPart := by
  intro pins s σ H Q I h
  rw [evalPart_none]
  exact wpAny_pure ⟨none, H, I, .none, h⟩
theorem po_some (h : PE X e te) : PO X (some e) (tPart te) := by
  intro pins s σ H Q I hw
  rw [evalPart_some]
  refine thn (h pins s σ H _ I hw) fun u s1 ⟨x, H1, I1, r1, q1⟩ => ?_
  obtain ⟨i, rfl, q⟩ := q1
  obtain ⟨t, rfl⟩ := r1
  exact ⟨some i, H1, I1, .int i t, q⟩

/-- what a slice of a value is, by values: the slice object stands at sl -/
def SlR (X : Cx) (r : V → Option Int → Option Int → Hp → VK → Prop) : Prop :=
  ∀ (pins : List (Addr × Obj)) (s : Shared) (σ : St) (H : Hp) (x : V) (v vl vu : Value) (lo hi : Option Int) (sl : Addr) (Q : VK), Inv X pins σ H s → RelV x v → s.heap.IsSliceOf sl vl vu .none → IsPart vl lo → IsPart vu hi → r x lo hi H Q →
    ∃ T id, typeLookup (.type T) "__getitem__" = pure (some (.builtin id)) ∧ s.TypeIs v T ∧ wpAny (model X.prog X.w) X.A (getItem v (.ref sl)) (EP X pins σ Q) X.xe s
def tSl (r : V → Option Int → Option Int → Hp → VK → Prop) (te : TE) (tl th : TO) : TE := fun σ H Q => te σ H fun x H1 => tl σ H1 fun l H2 => th σ H2 fun u H3 => r x l u H3 Q
/-- a[lo:hi], any a -/
theorem pe_slice {r : V → Option Int → Option Int → Hp → VK → Prop} (hr : SlR X r) (he : PE X e te) (hl : PO X lo tl) (hu : PO X hi th) : PE X (.Subscript e (.Slice lo hi none p2) pos) (tSl r te tl th) := by
  intro pins s σ H Q I h
  refine Subscript_ (thn (he pins s σ H _ I h) fun v s1 ⟨x, H1, I1, r1, q1⟩ => ?_)
  refine wpAny_Slice (thn (hl pins s1 σ H1 _ I1 q1) fun vl s2 ⟨l, H2, I2, pl, q2⟩ => thn (hu pins s2 σ H2 _ I2 q2) fun vu s3 ⟨u, H3, I3, pu, q3⟩ => ?_)
  rw [evalPart_none]
  refine wpAny_pure ?_
  have I4 : Inv X pins σ H3 { s3 with heap := s3.heap.push { cls := .type "slice", data := .fields #[vl, vu, .none] } } := I3.kept (t' := s3.toks) fun b ob q => Heap.get?_push_of_some _ q
  obtain ⟨T, id, hT, ht, hg⟩ := hr pins { s3 with heap := s3.heap.push { cls := .type "slice", data := .fields #[vl, vu, .none] } } σ H3 x v vl vu l u s3.heap.objs.size Q I4 r1 (Heap.IsSliceOf.new ..) pl pu q3
  show wpAny (model X.prog X.w) X.A (subscriptTail e (.Slice lo hi none p2) v (.ref s3.heap.objs.size)) (EP X pins σ Q) X.xe { s3 with heap := s3.heap.push { cls := .type "slice", data := .fields #[vl, vu, .none] } }
  exact tail_any (ops := [.ref s3.heap.objs.size, v]) ht hT hg (by with_unfolding_all rfl)

/-- the items of xs[lo:hi] -/
def cutV (xs : List V) (lo hi : Option Int) : List V := (xs.drop (HT.sIx xs.length 0 lo)).take (HT.sIx xs.length xs.length hi - HT.sIx xs.length 0 lo)
theorem cutV_length (xs : List V) (lo hi : Option Int) : (cutV xs lo hi).length ≤ xs.length := by
  unfold cutV
  rw [List.length_take, List.length_drop]
  omega
/-- t[lo:hi], not the whole of it (the whole would be t itself) -/
def rSlT (K : PySem.W.Frag) : V → Option Int → Option Int → Hp → VK → Prop := fun x lo hi H Q => ∃ a xs, x = .ref a ∧ SqT K H a xs ∧
  ¬ (HT.sIx xs.length 0 lo = 0 ∧ HT.sIx xs.length xs.length hi = xs.length) ∧ ∀ p, H p = none → Q (.ref p) (upd H p (.tup (cutV xs lo hi)))
/-! ### t < u, t + u -/
def rLtT (K : PySem.W.Frag) : R2 := fun x y H Q => ∃ a b ns ms, x = .ref a ∧ y = .ref b ∧ SqT K H a (ns.map V.int) ∧ SqT K H b (ms.map V.int) ∧ Q (.bl (HT.lexLt ns ms)) H
/-- t + u, t not empty: u empty gives t itself -/
def rCatT (K : PySem.W.Frag) : R2 := fun x y H Q => ∃ a b xs ys, x = .ref a ∧ y = .ref b ∧ SqT K H a xs ∧ SqT K H b ys ∧ xs ≠ [] ∧ xs.length + ys.length ≤ sizeLine ∧
  (ys = [] → Q (.ref a) H) ∧ (ys ≠ [] → ∀ p, H p = none → Q (.ref p) (upd H p (.tup (xs ++ ys))))
end
end L2

namespace L2
open PySem PySem.Spec PyProof.Rows

/-! ### places -/
/-- the place that an index of any sign means -/
def ixN (n : Nat) (i : Int) : Option Nat := if 0 ≤ i then (if i < n then some i.toNat else none) else if -(n : Int) ≤ i then some (i + n).toNat else none
def atI {α : Type} (xs : List α) (i : Int) : Option α := (ixN xs.length i).bind fun j => xs[j]?
theorem ixN_seq {n : Nat} {i : Int} {j : Nat} (h : ixN n i = some j) : seqIndex? i n = some j ∧ j < n ∧ -(n : Int) ≤ i ∧ i < n := by
  unfold ixN at h
  by_cases h0 : 0 ≤ i
  · rw [if_pos h0] at h
    by_cases h1 : i < n
    · rw [if_pos h1] at h
      have e : i.toNat = j := Option.some.inj h
      exact ⟨by rw [seqIndex_of h0 h1, e], by omega, by omega, h1⟩
    · rw [if_neg h1] at h; cases h
  · rw [if_neg h0] at h
    by_cases h1 : -(n : Int) ≤ i
    · rw [if_pos h1] at h
      have e : (i + n).toNat = j := Option.some.inj h
      exact ⟨by rw [seqIndex_neg (by omega) h1, e], by omega, h1, by omega⟩
    · rw [if_neg h1] at h; cases h
theorem atI_get {α : Type} {xs : List α} {i : Int} {v : α} (h : atI xs i = some v) : ∃ j, seqIndex? i xs.length = some j ∧ xs[j]? = some v ∧ j < xs.length ∧ -(xs.length : Int) ≤ i ∧ i < xs.length := by
  unfold atI at h
  cases e : ixN xs.length i with
  | none => rw [e] at h; cases h
  | some j =>
    rw [e] at h
    obtain ⟨h1, h2, h3, h4⟩ := ixN_seq e
    exact ⟨j, h1, h, h2, h3, h4⟩
theorem atI_nat {α : Type} {xs : List α} {j : Nat} {v : α} (h : xs[j]? = some v) : atI xs (j : Int) = some v := by
  have hj : j < xs.length := (List.getElem?_eq_some_iff.mp h).1
  have e : ixN xs.length (j : Int) = some j := by
    unfold ixN
    rw [if_pos (by omega), if_pos (by omega)]; simp
  unfold atI; rw [e]; exact h
theorem atI_last {α : Type} (xs : List α) (v : α) : atI (xs ++ [v]) (-1) = some v := by
  have hl : (xs ++ [v]).length = xs.length + 1 := by simp
  have e : ixN (xs ++ [v]).length (-1) = some xs.length := by
    unfold ixN
    rw [hl, if_neg (by decide), if_pos (by omega)]
    congr 1
    omega
  unfold atI
  rw [e]
  show (xs ++ [v])[xs.length]? = some v
  simp

/-! ### what may be subscripted -/
/-- what stands as an index of a plain subscript -/
def PlainIx (b : Expr) : Prop := ∀ o i, subscripted b false o i = operate [o, i] (getItem o i)
/-- a subscript by values -/
def IxR (X : Cx) (r : R2) : Prop :=
  ∀ (value slice : Expr) (pins : List (Addr × Obj)) (s : Shared) (σ : St) (H : Hp) (x y : V) (v u : Value) (Q : VK), Inv X pins σ H s → RelV x v → RelV y u → r x y H Q →
    subscripted slice false v u = operate [v, u] (getItem v u) → wpAny (model X.prog X.w) X.A (subscriptTail value slice v u) (EP X pins σ Q) X.xe s
/-- a call of a builtin's method by values: the receiver, the arguments -/
def MtR (X : Cx) (id : String) (r : V → List V → Hp → VK → Prop) : Prop :=
  ∀ (pins : List (Addr × Obj)) (s : Shared) (σ : St) (H : Hp) (x : V) (xs : List V) (v : Value) (us : List Value) (Q : VK), Inv X pins σ H s → RelV x v → Vals xs us → r x xs H Q →
    wpAny (model X.prog X.w) X.A (call (.builtin id) (v :: us)) (EP X pins σ Q) X.xe s
section
variable {X : Cx} {a b : Expr} {ta tb : TE} {pos : Pos}
/-- a[b] -/
theorem pe_ix {r : R2} (hr : IxR X r) (ha : PE X a ta) (hb : PE X b tb) (hs : PlainIx b) : PE X (.Subscript a b pos) (tOp r ta tb) := by
  intro pins s σ H Q I h
  exact Subscript_ (binT ha hb I h fun v u s2 x y H2 I2 rx ry q => hr a b pins s2 σ H2 x y v u Q I2 rx ry q (hs _ _))

def rIxL (K : PySem.W.Frag) : R2 := fun x y H Q => ∃ p xs i v, x = .ref p ∧ y = .int i ∧ SqL K H p xs ∧ atI xs i = some v ∧ Q v H
def rIxT (K : PySem.W.Frag) : R2 := fun x y H Q => ∃ p xs i v, x = .ref p ∧ y = .int i ∧ SqT K H p xs ∧ atI xs i = some v ∧ Q v H
def rIxS : R2 := fun x y H Q => ∃ z i c, x = .str z ∧ y = .int i ∧ z.length ≤ sizeLine ∧ atI z.cps.toList i = some c ∧ Q (.str ⟨#[c]⟩) H
theorem ix_list : IxR X (rIxL X.K) := by
  intro value slice pins s σ H x y v u Q I rx ry h hs
  obtain ⟨p, xs, i, z, rfl, rfl, hq, he, q⟩ := h
  cases rx
  obtain ⟨t, rfl⟩ := ry
  obtain ⟨its, r, pl, hz⟩ := I.list hq
  obtain ⟨j, h1, h2, h3, h4, h5⟩ := atI_get he
  obtain ⟨w, ew, rw'⟩ := r.get h2
  have hl := r.length
  have hn := line63
  have fin : EP X pins σ Q w s := ⟨z, H, I, rw', q⟩
  by_cases h0 : 0 ≤ i
  · have hj : i.toNat = j := by
      rw [seqIndex_of h0 h5] at h1
      exact Option.some.inj h1
    exact item_listR pl.isList h0 (by omega) (by rw [hj]; simpa using ew) fin hs
  · have hj : (i + (its.toArray.size : Int)).toNat = j := by
      rw [seqIndex_neg (by omega) h4] at h1
      rw [List.size_toArray, ← hl]
      exact Option.some.inj h1
    exact subscriptTail_builtinR (x := w) pl.isList.typeIs slot_list_getitem.lookup
      (wpAny_getItem_list_neg (Q := fun r s' => r = w ∧ EP X pins σ Q r s') pl.isList (by omega) (by rw [List.size_toArray] <;> omega) (by omega) (by rw [hj]; simpa using ew) ⟨rfl, fin⟩) hs
/-- list, tuple or str -/
def rIx (K : PySem.W.Frag) : R2 := fun x y H Q => rIxL K x y H Q ∨ rIxT K x y H Q ∨ rIxS x y H Q
/-! ### xs[i] = v, any sign -/
/-- the list's object behind a store -/
theorem mapSeq_set (its : List Value) (n j : Nat) (u : Value) : Obj.mapSeq (·.setIfInBounds j u) { cls := .type "list", data := .seq its.toArray n } = { cls := .type "list", data := .seq (its.set j u).toArray n } := by
  simp [Obj.mapSeq]
theorem Inv.lst {pins : List (Addr × Obj)} {σ : St} {H : Hp} {s : Shared} {p : Addr} {xs : List V} (I : Inv X pins σ H s) (h : H p = some (.lst xs)) :
    ∃ (its : List Value) (n : Nat), Vals xs its ∧ s.heap.get? p = some { cls := .type "list", data := .seq its.toArray n } ∧ xs.length ≤ sizeLine := by
  obtain ⟨z, its, n, r, e⟩ := I.hok p _ h
  exact ⟨its, n, r, e, z⟩
/-- the list at p is written by an update of its object -/
theorem Inv.lstUpd {pins : List (Addr × Obj)} {σ : St} {H : Hp} {s : Shared} {p : Addr} {xs ys : List V} {its its' : List Value} {n n' : Nat} {f : Obj → Obj} (I : Inv X pins σ H s) (h : H p = some (.lst xs))
    (ho : s.heap.get? p = some { cls := .type "list", data := .seq its.toArray n }) (hf : f { cls := .type "list", data := .seq its.toArray n } = { cls := .type "list", data := .seq its'.toArray n' }) (r : Vals ys its') (hz : ys.length ≤ sizeLine) (t : Nat) :
    Inv X pins σ (upd H p (.lst ys)) { s with heap := s.heap.update p f, toks := t } := by
  have e : (s.heap.update p f).get? p = some { cls := .type "list", data := .seq its'.toArray n' } := by
    rw [Heap.get?_update_self f ho (by rw [hf] <;> rfl), hf]
  refine I.write (x := p) (e := p) (by rw [h]; trivial) (.inl rfl) (fun b u hb q => (Heap.get?_update_other _ _ (Ne.symm hb)).trans q) ⟨_, e⟩ ?_
  exact ⟨hz, its', n', r, e⟩
def rSetL : V → V → V → Hp → (Hp → Prop) → Prop := fun o i v H Q => ∃ p xs k j, o = .ref p ∧ i = .int k ∧ H p = some (.lst xs) ∧ ixN xs.length k = some j ∧ Q (upd H p (.lst (xs.set j v)))
theorem set_list : PSet X rSetL := by
  intro pins s σ H o i v ov iv u Q I ro ri rv h
  obtain ⟨p, xs, k, j, rfl, rfl, hp, hj, q⟩ := h
  cases ro
  obtain ⟨t, rfl⟩ := ri
  obtain ⟨its, n, r, ho, hz⟩ := I.lst hp
  obtain ⟨h1, h2, h3, h4⟩ := ixN_seq hj
  have hl := r.length
  have hn := line63
  have I' : Inv X pins σ (upd H p (.lst (xs.set j v))) { s with heap := s.heap.update p (Obj.mapSeq (·.setIfInBounds j u)) } :=
    I.lstUpd hp ho (mapSeq_set its n j u) (r.set rv j) (by rw [List.length_set]; exact hz) s.toks
  by_cases h0 : 0 ≤ k
  · have hk : k.toNat = j := by
      rw [seqIndex_of h0 h4] at h1
      exact Option.some.inj h1
    exact PySem.W.ki_setAt ho h0 (by omega) (by rw [List.size_toArray, ← hl]; exact h4) (by rw [hk]; exact ⟨_, I', q⟩)
  · have hk : (k + (its.toArray.size : Int)).toNat = j := by
      rw [seqIndex_neg (by omega) h3] at h1
      rw [List.size_toArray, ← hl]
      exact Option.some.inj h1
    exact PySem.W.ki_setBack ho (by omega) (by rw [List.size_toArray, ← hl]; exact h3) (by omega) (by rw [hk]; exact ⟨_, I', q⟩)

/-! ### slices -/
theorem slice_bounds (lo hi : Option Int) (n : Nat) : (sliceBounds lo hi none n).1 = ((HT.sIx n 0 lo : Nat) : Int) ∧ (sliceBounds lo hi none n).2.1 = ((HT.sIx n n hi : Nat) : Int) ∧ (sliceBounds lo hi none n).2.2 = 1 := by
  refine ⟨?_, ?_, rfl⟩
  · cases lo with
    | none => simp [sliceBounds, HT.sIx]
    | some i =>
      simp only [sliceBounds, HT.sIx, Option.getD_none, show (1 : Int) > 0 by decide, if_true]
      by_cases h : i < 0
      · simp only [h, if_true] <;> omega
      · simp only [h, if_false] <;> omega
  · cases hi with
    | none => simp [sliceBounds, HT.sIx]
    | some i =>
      simp only [sliceBounds, HT.sIx, Option.getD_none, show (1 : Int) > 0 by decide, if_true]
      by_cases h : i < 0
      · simp only [h, if_true] <;> omega
      · simp only [h, if_false] <;> omega
theorem slicePick_cut (its : List Value) (lo hi : Option Int) : slicePick its.toArray lo hi none = ((its.drop (HT.sIx its.length 0 lo)).take (HT.sIx its.length its.length hi - HT.sIx its.length 0 lo)).toArray := by
  obtain ⟨h1, h2, h3⟩ := slice_bounds lo hi its.toArray.size
  unfold slicePick
  rw [h1, h2, h3]
  simp only [sliceRange_one, pick_run, List.size_toArray] <;> rfl
/-- xs[lo:hi] of a list: a new list -/
def rSlL (K : PySem.W.Frag) : V → Option Int → Option Int → Hp → VK → Prop := fun x lo hi H Q => ∃ a xs, x = .ref a ∧ SqL K H a xs ∧ ∀ p, H p = none → Q (.ref p) (upd H p (.lst (cutV xs lo hi)))
theorem sl_list : SlR X (rSlL X.K) := by
  intro pins s σ H x v vl vu lo hi sl Q I rx hs pl pu h
  obtain ⟨a, xs, rfl, hx, q⟩ := h
  cases rx
  obtain ⟨its, r, ht, hz⟩ := I.list hx
  have hlen := r.length
  refine ⟨"list", _, slot_list_getitem.lookup, ht.isList.typeIs, ?_⟩
  refine wpAny_getItem_list_slice ht.isList hs pl pu .none (by simp) ?_ (by rw [List.size_toArray] <;> omega)
  rw [slicePick_cut, ← hlen]
  refine ⟨.ref s.heap.objs.size, _, I.laid (t' := s.toks) (o := .lst (cutV xs lo hi)) (fun b ob q => Heap.get?_push_of_some _ q) (Nat.le_refl _) ?_, rfl, q _ (I.hok.fresh (Nat.le_refl _))⟩
  exact ⟨Nat.le_trans (cutV_length xs lo hi) hz, _, 0, (r.drop (HT.sIx xs.length 0 lo)).take (HT.sIx xs.length xs.length hi - HT.sIx xs.length 0 lo), Heap.get?_push_size _ rfl⟩

/-! ### in, not in: flat items -/
def flatV : V → Bool
  | .non => true
  | .bl _ => true
  | .int _ => true
  | .str _ => true
  | _ => false
/-- == of flat values -/
def eqV : V → V → Bool
  | .non, .non => true
  | .bl a, .bl b => a == b
  | .bl a, .int b => (if a then 1 else 0) == b
  | .int a, .bl b => a == (if b then 1 else 0)
  | .int a, .int b => a == b
  | .str a, .str b => a == b
  | _, _ => false
/-- the items' answers, read off the values (a value's own answer does not lean on its token) -/
def eqU (x : V) (u : Value) : Bool := match u with
  | .none => eqV .non x
  | .bool b => eqV (.bl b) x
  | .int i _ => eqV (.int i) x
  | .str z _ => eqV (.str z) x
  | _ => false
def inV (x : V) (xs : List V) : Bool := xs.any fun y => eqV y x
/-- x in a list or tuple of flat items -/
def rIn (K : PySem.W.Frag) (neg : Bool) : R2 := fun x y H Q => ∃ p xs, y = .ref p ∧ (SqL K H p xs ∨ SqT K H p xs) ∧ flatV x = true ∧ xs.all flatV = true ∧ Q (.bl (if neg then !inV x xs else inV x xs)) H
/-! ### len, list(x), tuple(x) of any list or tuple that is read -/
theorem call_len_seq : CallR X (.builtin "len") (fun xs H Q => ∃ p ys, xs = [.ref p] ∧ (SqL X.K H p ys ∨ SqT X.K H p ys) ∧ Q (.int ys.length) H) := by
  intro pins s σ H xs us Q I r h
  obtain ⟨p, ys, rfl, hq, q⟩ := h
  obtain ⟨u, rfl, rx⟩ := vals1 r
  cases rx
  have hn := line63
  rcases hq with hq | hq
  · obtain ⟨its, r', pl, hz⟩ := I.list hq
    have hlen := r'.length
    exact Calls.call_len_list pl.isList (by simp only [List.size_toArray] <;> omega) ⟨.int ys.length, H, I.tok _, ⟨s.toks + 1, by rw [List.size_toArray, hlen]⟩, q⟩
  · obtain ⟨its, r', pl, hz⟩ := I.tuple hq
    have hlen := r'.length
    exact len_tuple pl (by simp only [List.size_toArray] <;> omega) ⟨.int ys.length, H, I.tok _, ⟨s.toks + 1, by rw [List.size_toArray, hlen]⟩, q⟩
theorem call_list_of : CallR X (.type "list") (fun xs H Q => ∃ p ys, xs = [.ref p] ∧ (SqL X.K H p ys ∨ SqT X.K H p ys) ∧ ∀ l, H l = none → Q (.ref l) (upd H l (.lst ys))) := by
  intro pins s σ H xs us Q I r h
  obtain ⟨p, ys, rfl, hq, q⟩ := h
  obtain ⟨u, rfl, rx⟩ := vals1 r
  cases rx
  have fin : ∀ (its : List Value), Vals ys its → ys.length ≤ sizeLine → ∀ (h' : Heap) (c' : Nat), (∀ b o', s.heap.get? b = some o' → h'.get? b = some o') →
      h'.get? s.heap.objs.size = some { cls := .type "list", dict := none, data := .seq its.toArray c', slots := #[] } → EP X pins σ Q (.ref s.heap.objs.size) { s with heap := h' } := fun its r' hz h' c' kp e =>
    ⟨.ref s.heap.objs.size, _, I.laid (t' := s.toks) kp (Nat.le_refl _) (show ObjOk X.prog X.w _ h' _ (.lst ys) from ⟨hz, its, c', r', e⟩), rfl, q _ (I.hok.fresh (Nat.le_refl _))⟩
  rcases hq with hq | hq
  · obtain ⟨its, r', pl, hz⟩ := I.list hq
    have hlen := r'.length
    obtain ⟨o, ho, hc, n, hd⟩ := pl.isList
    exact call_list_seq p (.inl rfl) ho hc hd (fun h' c' kp e => fin its r' hz h' c' kp e) (by simp only [List.size_toArray] <;> omega)
  · obtain ⟨its, r', pl, hz⟩ := I.tuple hq
    have hlen := r'.length
    obtain ⟨o, ho, hc, n, hd⟩ := pl
    exact call_list_seq p (.inr rfl) ho hc hd (fun h' c' kp e => fin its r' hz h' c' kp e) (by simp only [List.size_toArray] <;> omega)
/-! ### the call of a builtin's method: o.m(..) -/
/-- the value is of that builtin type -/
def tyV (K : PySem.W.Frag) (T : String) (x : V) (H : Hp) : Prop := match x with
  | .str _ => T = "str"
  | .int _ => T = "int"
  | .ref p => (T = "list" ∧ ∃ xs, SqL K H p xs) ∨ (T = "tuple" ∧ ∃ o, K.lookup p = some o ∧ o.cls = .type "tuple" ∧ o.dict = none) ∨
      (T = "dict" ∧ ((∃ kvs, H p = some (.dK kvs)) ∨ ∃ kvs, H p = some (.dT kvs))) ∨ (T = "set" ∧ ∃ S n, H p = some (.set S n))
  | _ => False
theorem tyV_is {pins : List (Addr × Obj)} {σ : St} {H : Hp} {s : Shared} {T : String} {x : V} {v : Value} (I : Inv X pins σ H s) (r : RelV x v) (ty : tyV X.K T x H) :
    s.TypeIs v T ∧ ∀ a, v = .ref a → ∃ ob, s.heap.get? a = some ob ∧ ob.dict = none := by
  cases x with
  | str z =>
    obtain ⟨t, rfl⟩ := r
    cases (show T = "str" from ty)
    exact ⟨typeIs_str s z t, fun _ e => nomatch e⟩
  | int i =>
    obtain ⟨t, rfl⟩ := r
    cases (show T = "int" from ty)
    exact ⟨typeIs_int s i t, fun _ e => nomatch e⟩
  | ref p =>
    cases r
    rcases ty with ⟨rfl, xs, hq⟩ | ⟨rfl, o, hk, hc, hd⟩ | ⟨rfl, hk⟩ | ⟨rfl, S, n, hk⟩
    · obtain ⟨its, _, pl, _⟩ := I.list hq
      refine ⟨pl.isList.typeIs, fun a e => ?_⟩
      cases e
      obtain ⟨o, n, e, c, hd, _⟩ := pl
      exact ⟨o, e, hd⟩
    · refine ⟨⟨o, I.kIn p o hk, hc⟩, fun a e => ?_⟩
      cases e
      exact ⟨o, I.kIn _ o hk, hd⟩
    · have z : ∃ o, s.heap.get? p = some o ∧ o.ExactDict := by
        rcases hk with ⟨kvs, hk⟩ | ⟨kvs, hk⟩
        · obtain ⟨_, _, _, _, o, _, _, e, ex, _⟩ := I.hok p _ hk
          exact ⟨o, e, ex⟩
        · obtain ⟨_, _, _, _, o, _, _, e, ex, _⟩ := I.hok p _ hk
          exact ⟨o, e, ex⟩
      obtain ⟨o, e, ex⟩ := z
      refine ⟨⟨o, e, ex.1⟩, fun a e2 => ?_⟩
      cases e2
      exact ⟨o, e, ex.2.1⟩
    · obtain ⟨o, _, _, _, e, ex, _⟩ := I.hok p _ hk
      refine ⟨⟨o, e, ex.1⟩, fun a e2 => ?_⟩
      cases e2
      exact ⟨o, e, ex.2.1⟩
  | _ => exact False.elim ty
def tBM0 (K : PySem.W.Frag) (T : String) (r : V → List V → Hp → VK → Prop) (to : TE) : TE := fun σ H Q => to σ H fun x H1 => tyV K T x H1 ∧ r x [] H1 Q
def tBM (K : PySem.W.Frag) (T : String) (r : V → List V → Hp → VK → Prop) (to : TE) (t : TA) : TE := fun σ H Q => to σ H fun x H1 => tyV K T x H1 ∧ t σ H1 fun xs H2 => r x xs H2 Q
variable {o e : Expr} {es : List Expr} {to : TE} {t : TA} {name : Str} {apos cpos : Pos} {T id : String} {r : V → List V → Hp → VK → Prop}
theorem pe_bm (pa : PlainAttrs T) (slot : Slot T name id) (hty : typeOf (.builtin id) = pure (.type "method_descriptor")) (hm : MtR X id r) (ho : PE X o to) (ha : PA X (e :: es) t)
    (hbase : attributeBase o name X.env (eval o X.env) = eval o X.env := by rfl)
    (hfew : ((backTo cpos (starEach (e :: es) X.env)).all (fun x => !x.1) && (backToKw cpos (keywordEach [] X.env)).all (fun x => x.1.isSome)
      && decide ((e :: es).length + ([] : List Keyword).length + (if ([] : List Keyword).isEmpty then 0 else 1) < 30)) = true := by rfl)
    (hline : (apos.endLine == cpos.line) = true := by rfl) (hs : starEach (e :: es) X.env = (false, eval e X.env) :: starEach es X.env := by rfl) (hplain : (backTo cpos (starEach es X.env)).any (·.1) = false := by rfl) :
    PE X (.Call (.Attribute o name apos) (e :: es) [] cpos) (tBM X.K T r to t) := by
  intro pins s σ H Q I h
  refine wpAny_Call_method_late hbase hfew hline rfl (thn (ho pins s σ H _ I h) fun v s1 ⟨x, H1, I1, r1, ty, q1⟩ => ?_)
  obtain ⟨h1, h2⟩ := tyV_is I1 r1 ty
  refine ⟨T, id, pa, slot, hty, h1, h2, ?_⟩
  have hA := ha cpos pins s1 σ H1 _ I1 q1
  rw [hs] at hA ⊢
  refine Calls.callWith_builtin (by show (false || (backTo cpos (starEach es X.env)).any (·.1)) = false; rw [hplain] <;> rfl) (Calls.evalArgs_plain ?_)
  exact thn hA fun us s2 ⟨vs, H2, I2, r2, q2⟩ => hm pins s2 σ H2 x vs v us Q I2 r1 r2 q2
/- xs.append(e), list.index on a module's tuple .. are MtR facts of 06m -/
end
end L2

namespace L2
open PySem PySem.Spec PyProof.Rows

def MtM (X : Cx) (id : String) (r : V → List V → Hp → VK → Prop) : Prop :=
  ∀ (pins : List (Addr × Obj)) (s : Shared) (σ : St) (H : Hp) (x : V) (xs : List V) (v : Value) (us : List Value) (Q : VK), Inv X pins σ H s → RelV x v → Vals xs us → r x xs H Q →
    wpAny (model X.prog X.w) X.A (call (.builtin id) (v :: us)) (EP X pins σ Q) X.xe s

/-! ### lists of values -/
theorem Vals.one : ∀ {x : V} {us : List Value}, Vals [x] us → ∃ u, us = [u] ∧ RelV x u
  | _, _, .cons r .nil => ⟨_, rfl, r⟩
theorem Vals.two : ∀ {x y : V} {us : List Value}, Vals [x, y] us → ∃ u v, us = [u, v] ∧ RelV x u ∧ RelV y v
  | _, _, _, .cons r (.cons q .nil) => ⟨_, _, rfl, r, q⟩
theorem Vals.zero : ∀ {us : List Value}, Vals [] us → us = []
  | _, .nil => rfl
theorem Vals.dropLast {xs : List V} {us : List Value} (h : Vals xs us) : Vals xs.dropLast us.dropLast := by
  induction h with
  | nil => exact .nil
  | cons r t ih =>
    cases t with
    | nil => exact .nil
    | cons q t' => exact .cons r ih
theorem Vals.eraseIdx : ∀ {xs : List V} {us : List Value} (i : Nat), Vals xs us → Vals (xs.eraseIdx i) (us.eraseIdx i)
  | _, _, _, .nil => .nil
  | _, _, 0, .cons _ t => t
  | _, _, i + 1, .cons r t => .cons r (Vals.eraseIdx i t)
theorem Vals.reverse {xs : List V} {us : List Value} (h : Vals xs us) : Vals xs.reverse us.reverse := by
  induction h with
  | nil => exact .nil
  | cons r t ih => rw [List.reverse_cons, List.reverse_cons]; exact Vals.append ih (.cons r .nil)
theorem len_erase {α : Type} : ∀ (l : List α) (i : Nat), (l.eraseIdx i).length ≤ l.length
  | [], _ => Nat.le_refl _
  | _ :: _, 0 => Nat.le_succ _
  | _ :: r, i + 1 => Nat.succ_le_succ (len_erase r i)
section
variable {X : Cx} {pins : List (Addr × Obj)} {σ : St} {H : Hp} {s : Shared} {l b : Addr} {xs ys zs : List V}

/-! ### the two steps: a tracked list is rewritten, a new list is laid -/
theorem Inv.lset {its its' : List Value} {n : Nat} {f : Array Value → Array Value} {t' : Nat} (I : Inv X pins σ H s) (hH : H l = some (.lst xs))
    (e : s.heap.get? l = some { cls := .type "list", data := .seq its.toArray n }) (hf : f its.toArray = its'.toArray) (hv : Vals ys its') (hz : ys.length ≤ sizeLine) :
    Inv X pins σ (upd H l (.lst ys)) { s with heap := s.heap.update l (Obj.mapSeq f), toks := t' } := by
  have q := PySem.IsL.update e f
  rw [hf] at q
  refine I.write (x := l) (e := l) (by rw [hH]; exact trivial) (.inl rfl) (fun b' u hb hu => (Heap.get?_update_other s.heap (Obj.mapSeq f) (Ne.symm hb)).trans hu) ⟨_, q⟩ ?_
  exact ⟨hz, its', _, hv, q⟩
theorem Inv.lnew {its : List Value} {t' : Nat} (I : Inv X pins σ H s) (hv : Vals ys its) (hz : ys.length ≤ sizeLine) :
    Inv X pins σ (upd H s.heap.objs.size (.lst ys)) { s with heap := s.heap.push { cls := .type "list", data := .seq its.toArray }, toks := t' } :=
  I.laid (fun _ _ q => Heap.get?_push_of_some _ q) (Nat.le_refl _) ⟨hz, its, 0, hv, Heap.get?_push_size _ rfl⟩
theorem Inv.fresh (I : Inv X pins σ H s) : H s.heap.objs.size = none := I.hok.fresh (Nat.le_refl _)
theorem Inv.lstM (I : Inv X pins σ H s) (hH : H l = some (.lst xs)) : xs.length ≤ sizeLine ∧ ∃ (its : List Value) (n : Nat), Vals xs its ∧ xs.length = its.length ∧ s.heap.get? l = some { cls := .type "list", data := .seq its.toArray n } := by
  obtain ⟨z, its, n, r, e⟩ := I.hok l _ hH
  exact ⟨z, its, n, r, r.length, e⟩

theorem notLongL {n : Nat} (h : n ≤ sizeLine) : Builtin.List.listTooLong n = false := by
  unfold Builtin.List.listTooLong
  exact decide_eq_false (by omega)
end

section
variable {X : Cx}

/-! ### methods -/
def rAppend : V → List V → Hp → VK → Prop := fun x vs H Q => ∃ l xs y, x = .ref l ∧ vs = [y] ∧ H l = some (.lst xs) ∧ xs.length < sizeLine ∧ Q .non (upd H l (.lst (xs ++ [y])))
theorem mt_append : MtM X "list.append" rAppend := by
  intro pins s σ H x vs v us Q I rx rv h
  obtain ⟨l, xs, y, rfl, rfl, hH, hz, q⟩ := h
  cases rx
  obtain ⟨u, rfl, ru⟩ := rv.one
  obtain ⟨z, its, n, r, hl, e⟩ := I.lstM hH
  refine call_meets F.slot_list_append ⟨_, e, rfl⟩ F.entry_list_append (F.args_list_append_2 _ _) (PySem.list_append l its.toArray n u (by rw [List.size_toArray]; omega)) ⟨e, ?_⟩
  refine ⟨.non, _, I.lset (its' := its ++ [u]) hH e (by simp) (r.append (.cons ru .nil)) ?_, rfl, q⟩
  rw [List.length_append, List.length_singleton]
  omega

def rExtend : V → List V → Hp → VK → Prop := fun x vs H Q => ∃ l b xs zs, x = .ref l ∧ vs = [.ref b] ∧ H l = some (.lst xs) ∧ H b = some (.lst zs) ∧ xs.length + zs.length ≤ sizeLine ∧ Q .non (upd H l (.lst (xs ++ zs)))
theorem mt_extend : MtM X "list.extend" rExtend := by
  intro pins s σ H x vs v us Q I rx rv h
  obtain ⟨l, b, xs, zs, rfl, rfl, hH, hB, hz, q⟩ := h
  cases rx
  obtain ⟨u, rfl, ru⟩ := rv.one
  cases ru
  obtain ⟨z, its, n, r, hl, e⟩ := I.lstM hH
  obtain ⟨z2, its2, n2, r2, hl2, e2⟩ := I.lstM hB
  have hsz : its.toArray.size + its2.toArray.size ≤ sizeLine := by rw [List.size_toArray, List.size_toArray]; omega
  have hlong : ¬ (!its.toArray.isEmpty && Builtin.List.listTooLong (its.toArray.size + its2.toArray.size)) = true := by
    rw [notLongL hsz, Bool.and_false]
    exact Bool.false_ne_true
  refine call_meets F.slot_list_extend ⟨_, e, rfl⟩ F.entry_list_extend (F.args_list_extend_2 _ _)
    (AutoSeq1.list_extend_list_list_0 l its.toArray n b its2.toArray n2 hlong (by rw [List.size_toArray]; omega) (by omega)) ⟨e, e2, ?_⟩
  refine ⟨.non, _, I.lset (its' := its ++ its2) hH e (by simp) (r.append r2) ?_, rfl, q⟩
  rw [List.length_append]
  omega

def rPop : V → List V → Hp → VK → Prop := fun x vs H Q => ∃ l xs y, x = .ref l ∧ vs = [] ∧ H l = some (.lst xs) ∧ xs[xs.length - 1]? = some y ∧ Q y (upd H l (.lst xs.dropLast))
def rPopAt : V → List V → Hp → VK → Prop := fun x vs H Q => ∃ l xs i k y, x = .ref l ∧ vs = [.int i] ∧ H l = some (.lst xs) ∧ -(2 ^ 63) ≤ i ∧ i < 2 ^ 63 ∧ seqIndex? i xs.length = some k ∧ xs[k]? = some y ∧ Q y (upd H l (.lst (xs.eraseIdx k)))
theorem mt_popAt : MtM X "list.pop" rPopAt := by
  intro pins s σ H x vs v us Q I rx rv h
  obtain ⟨l, xs, i, k, y, rfl, rfl, hH, h1, h2, hk, hy, q⟩ := h
  cases rx
  obtain ⟨u, rfl, ru⟩ := rv.one
  obtain ⟨t, rfl⟩ := ru
  obtain ⟨z, its, n, r, hl, e⟩ := I.lstM hH
  obtain ⟨w, hw, rw'⟩ := r.get hy
  refine call_meets F.slot_list_pop ⟨_, e, rfl⟩ F.entry_list_pop (F.args_list_pop_2 _ _)
    (MeetsSeq.list_pop_at l its.toArray n i t k w (fitsIndex_both h1 h2) (by rw [List.size_toArray, ← hl]; exact hk) (by rw [← Array.getElem?_toList]; exact hw) (by rw [List.size_toArray]; omega)) ⟨e, ?_⟩
  refine ⟨y, _, I.lset (its' := its.eraseIdx k) hH e ?_ (r.eraseIdx k) ?_, rw', q⟩
  · show its.toArray.eraseIdxIfInBounds k = (its.eraseIdx k).toArray
    rw [List.eraseIdxIfInBounds_toArray]
  · have := len_erase xs k
    omega

def rReverse : V → List V → Hp → VK → Prop := fun x vs H Q => ∃ l xs, x = .ref l ∧ vs = [] ∧ H l = some (.lst xs) ∧ Q .non (upd H l (.lst xs.reverse))
def rClear : V → List V → Hp → VK → Prop := fun x vs H Q => ∃ l xs, x = .ref l ∧ vs = [] ∧ H l = some (.lst xs) ∧ Q .non (upd H l (.lst []))
/-! ### list + list, list += list, list * int -/
def rCat : R2 := fun x y H Q => ∃ l b xs zs, x = .ref l ∧ y = .ref b ∧ H l = some (.lst xs) ∧ H b = some (.lst zs) ∧ xs.length + zs.length ≤ sizeLine ∧ ∀ p, H p = none → Q (.ref p) (upd H p (.lst (xs ++ zs)))
theorem op_cat : OpR X (binaryOp .Add) rCat := by
  intro pins s σ H x y v u Q I rx ry h
  obtain ⟨l, b, xs, zs, rfl, rfl, hH, hB, hz, q⟩ := h
  cases rx
  cases ry
  obtain ⟨z, its, n, r, hl, e⟩ := I.lstM hH
  obtain ⟨z2, its2, n2, r2, hl2, e2⟩ := I.lstM hB
  refine PySem.P.add_list e e2 ?_ (by rw [List.size_toArray, List.size_toArray]; omega)
  have ea : its.toArray ++ its2.toArray = (its ++ its2).toArray := by simp
  rw [ea]
  exact ⟨.ref _, _, I.lnew (t' := s.toks) (r.append r2) (by rw [List.length_append]; omega), rfl, q _ I.fresh⟩
/-- a list times an int (a negative one is nothing) -/
def rRep : R2 := fun x y H Q => ∃ l k xs, x = .ref l ∧ y = .int k ∧ H l = some (.lst xs) ∧ -(2 ^ 63) ≤ k ∧ k < 2 ^ 63 ∧ xs.length * k.toNat ≤ sizeLine ∧
  ∀ p, H p = none → Q (.ref p) (upd H p (.lst (List.replicate k.toNat xs).flatten))
/-! ### del xs[i] -/
end

/-! ### xs[a:b] = ys -/
section
variable {prog : Program} {w : World} {A : Around} {E : Value → Shared → Prop} {s : Shared}
end

section
variable {X : Cx}
end
end L2

namespace Att
open PySem PySem.W PySem.Calls PyProof.Rows

/-! ### the script -/
theorem ints_of_wellAll {P : Params} {h : Heap} : ∀ (ns : List Int) (vs : List Value), WellAll P h vs (ns.map WData.int) → IntsAre vs ns := by
  intro ns
  induction ns with
  | nil =>
    intro vs w
    rw [List.map_nil] at w
    cases w
    exact .nil
  | cons n ns ih =>
    intro vs w
    rw [List.map_cons] at w
    cases w with
    | cons a b =>
      cases a
      exact .cons _ _ (ih _ b)

theorem script_of {l : OpenLaw} {n : Nat} (hn : l.most = some n) {P : Params} {h : Heap} {args : List WData} {vals : List Value}
    (hpre : l.row.toRowW.claim.pre args = true) (hwl : WellAll P h vals args) :
    ∃ a vs ns, vals = [Value.ref a] ∧ args = [WData.list (ns.map WData.int)] ∧ h.get? a = some { cls := .type "list", data := .seq vs.toArray } ∧ IntsAre vs ns ∧ ns.length ≤ n := by
  have hsh : WShape.hasAll [] args [.list .int] = true := (pre_splitW hpre).1
  have hc : l.pre.holds [] { args := args } = true := (pre_splitW hpre).2
  obtain ⟨d, r, rfl, h1, h2⟩ := hasAllW_cons hsh
  obtain rfl := hasAllW_nil h2
  obtain ⟨xs, rfl, h3⟩ := hasW_list h1
  obtain ⟨ns, rfl⟩ := items_int h3
  have hlen : ns.length ≤ n := by
    unfold OpenLaw.pre at hc
    have h4 : (WTm.not (.lt (.lit (.int (n : Int))) (.len (.arg 0)))).holds [] { args := [.list (ns.map .int)] } = true := by
      have h4 := (holds_andW hc).1
      rw [hn] at h4
      exact h4
    have h5 := condW_of h4 (w_not (w_lt w_lit (w_len_list (w_arg rfl))))
    rw [List.length_map] at h5
    refine Nat.le_of_not_lt fun q => ?_
    have q' : (n : Int) < ((ns.length : Nat) : Int) := by omega
    first
      | (rw [decide_eq_true q'] at h5; exact absurd h5 (by decide))
      | (simp at h5; omega)
  cases hwl with
  | cons w1 w2 =>
    cases w2
    cases w1 with
    | list ho hall => exact ⟨_, _, ns, rfl, rfl, ho, ints_of_wellAll ns _ hall, hlen⟩

theorem post_true (l : OpenLaw) (args : List WData) : l.row.toRowW.claim.post args (.bool true) args = true :=
  postW_of (r := l.row.toRowW) (X := (true == true))
    (show WShape.has [] (.bool true) .bool = true by first | rfl | decide | simp [WShape.has, WShape.arms, WShape.armsAll])
    (show (WTm.eq .res (.lit (.bool true))).value [] { args := args, res := some (.bool true), after := args } = some (.bool (true == true)) from w_eq_bool (w_res rfl) w_lit) rfl

/-! ### the attachment: holds_open's last premise (the goal 'hc' behind k_head) from a wpAny of the law's body -/
/-- the same from a codeAny of the CALL (for a layer whose function contracts speak of calls) -/
theorem attach_call {l : OpenLaw} {n : Nat} {q : Program} {loose : List Str} {XP : (Str → Option Value) → Heap → Prop} {YP : World → Heap → Prop} {d : DefRec}
    (hn : l.most = some n) (hdf : d.params.defaults = [])
    (call : ∀ (w : World) (s₀ s₁ : Shared) (mg mb : Str → Option Value) (fa : Addr) (o : Obj) (pm cd doc : Value) (a : Addr) (vs : List Value) (ns : List Int),
      Ground q loose [] XP w s₀ mg mb s₁.heap → YP w s₁.heap →
      s₁.heap.get? fa = some o → o.data = .func (docDef d.name d.params d.body d.scope pm cd doc) → s₁.heap.CodeRec cd d.name → mg d.name = some (.ref fa) →
      s₁.heap.get? a = some { cls := .type "list", data := .seq vs.toArray } → IntsAre vs ns → ns.length ≤ n → s₁.gens = #[] →
      codeAny (model l.prog w) callerA (.call (.ref fa) ⟨[.ref a], []⟩) (fun r s' => r = .ok (.ret (.bool true)) ∧ OldK s₁.heap s'.heap ∧ s'.os = s₁.os ∧ AllBare s'.gens) s₁) :
    WalkO q loose XP YP l.row.toRowW d [] (fun f vs => PySem.call f vs) := by
  intro w s₀ s₁ mg mb G Y fa o pm cd doc dV kV ho hd hcd hD hmg hg args vals as hpre hlay hrd hwl hlo
  obtain rfl : dV = .none := Dflts.none hD hdf
  obtain rfl : kV = .none := Dflts.noKw hD
  obtain ⟨a, vs, ns, rfl, rfl, hobj, hints, hlen⟩ := script_of hn hpre hwl
  refine enter_call (codeAny_mono (call w s₀ s₁ mg mb fa o pm cd doc a vs ns G Y ho (fd_plain hd) hcd hmg hobj hints hlen hg) fun r s' hq => ?_)
  obtain ⟨rfl, h2, h3, h4⟩ := hq
  exact ⟨.inl ⟨.bool true, .bool true, [], rfl, fun _ => rfl, .bool true, post_true l _, fun _ => ⟨List.Pairwise.nil, fun _ hm => (nomatch hm)⟩⟩, h2, h3, h4⟩

/-! ### rules over ANY heap (no ledger) from facts about the written part K: the library's own take a ledger (News) for what they write -/
section
variable {prog : Program} {w : World} {A : Around} {E : Value → Shared → Prop} {s : Shared} {K : Frag}

/-! the whole heap as the ledger: makes every rule that writes through a ledger a rule over any heap -/
def noObjs (h : Heap) : Heap := { h with objs := #[] }
def ledger (h : Heap) (L d : Addr) : List (Addr × Obj) := (List.range h.objs.size).filterMap fun a => if a = L ∨ a = d then none else (h.get? a).map fun o => (a, o)
end
end Att

namespace L2
open PySem PySem.Spec PyProof.Rows

theorem vals_ints : ∀ {vs : List Value} {ns : List Int}, IntsAre vs ns → Vals (ns.map V.int) vs
  | _, _, .nil => .nil
  | _, _, .cons n t h => .cons ⟨t, rfl⟩ (vals_ints h)

/-- nothing is tracked but the script, known to the object (or it is an object of the module) -/
def Only (H : Hp) : Prop := ∀ b, H b = none ∨ ∃ o xs, H b = some (.frz o (.lst xs))

/-- THE HEAD: the law's promise, at the heap behind the top. F, the promise of the law's def, may use that base is part of the heap (so K.In base, base.Ns mainGlobals mg stand in Mod) -/
theorem law_call {P : Program} {w : World} {K : PySem.W.Frag} {mg mb : Str → Option Value} {CX : CXT} {k : Nat} {fa a : Addr} {fd : FuncData} {x : Str} {sp : Sp} {s₁ : Shared} {vs : List Value} {ns : List Int}
    (KX : K.In s₁.heap) (hns : s₁.heap.Ns mainGlobals mg) (hb : s₁.heap.Ns builtinsNs mb) (hbb : ∀ x : Str, x ≠ "__name__" → mb x = bootBuiltins x) (hlim : s₁.heap.NoLimit) (hg : s₁.gens = #[])
    (ha : s₁.heap.get? a = some { cls := .type "list", data := .seq vs.toArray }) (hi : IntsAre vs ns) (hl : ns.length ≤ sizeLine) (hr : Room k callerA)
    (F : ∀ base : Heap, K.In base → base.Ns mainGlobals mg → FnOk P w K mg base CX k fa fd [x] sp) (hbind : ∀ (s : Shared) (u : Value), BindsTo s fd ⟨[u], []⟩ [(x, u)])
    (hsp : ∀ H : Hp, Only H → SqL K H a (ns.map V.int) → sp [.ref a] H (fun v _ => v = .bl true) fun _ _ _ => False)
    (hCX : ∀ H e s', CX [] H s₁ (fun _ _ _ => False) e s' → False) :
    codeAny (model P w) callerA (.call (.ref fa) ⟨[.ref a], []⟩) (fun r s' => r = .ok (.ret (.bool true)) ∧ OldK s₁.heap s'.heap ∧ s'.os = s₁.os ∧ AllBare s'.gens) s₁ := by
  have rv := vals_ints hi
  have lenV := hi.length
  -- from an abstract heap in which nothing but the script may be tracked
  have core : ∀ H : Hp, Only H → SqL K H a (ns.map V.int) → HOk P w H s₁.heap → (∀ b, H b ≠ none → b = a) → (H a ≠ none → K.lookup a = none) →
      codeAny (model P w) callerA (.call (.ref fa) ⟨[.ref a], []⟩) (fun r s' => r = .ok (.ret (.bool true)) ∧ OldK s₁.heap s'.heap ∧ s'.os = s₁.os ∧ AllBare s'.gens) s₁ := by
    intro H hO hS hok hA hK
    have base_of : ∀ {b : Addr} {o : Obj}, s₁.heap.get? b = some o → H b = none → (hidT s₁.heap H).get? b = some o := fun e n => hidT_get e n
    have noA : ∀ {b : Addr} {o : Obj} {es : Array DictEntry} {ep : Nat}, s₁.heap.get? b = some o → o.data = .dict es ep → H b = none := fun {b o es ep} e d => by
      cases q : H b with
      | none => rfl
      | some u =>
        have e' : b = a := hA b (by rw [q]; simp)
        subst e'
        rw [ha] at e; cases e
        have d' : Data.seq vs.toArray _ = Data.dict es ep := d
        cases d'
    have nsK : ∀ {b : Addr} {m : Str → Option Value}, s₁.heap.Ns b m → (hidT s₁.heap H).Ns b m := fun {b m} ⟨o, es, ep, e, d, r⟩ => ⟨o, es, ep, base_of e (noA e d), d, r⟩
    have hKb : K.In (hidT s₁.heap H) := fun b o e => base_of (KX b o e) (by
      cases q : H b with
      | none => rfl
      | some u =>
        have e' : b = a := hA b (by rw [q]; simp)
        subst e'
        rw [hK (by rw [q]; simp)] at e; cases e)
    have hM : Mod K mg (hidT s₁.heap H) := ⟨hKb, nsK hns, ⟨mb, nsK hb, hbb⟩, let ⟨mc, h1, h2⟩ := hlim; ⟨mc, nsK h1, h2⟩⟩
    have e0 : Env0 P w K mg (hidT s₁.heap H) callerA [] s₁ H := ⟨rfl, hM, fun b o e => of_hidT e, Nat.le_of_eq (hidT_size _ _), trivial, fun b hb => absurd (show b ∈ ([] : List Addr) from hb) (by simp), hok, .of_eq hg⟩
    refine codeAny_mono ((F _ hKb (nsK hns)).run callerA [] s₁ H ⟨[.ref a], []⟩ [.ref a] [.ref a] _ _ hr e0 (hbind s₁ (.ref a)) (.cons rfl .nil) (hsp H hO hS)) fun r s' h => ?_
    cases r with
    | error e => exact (hCX H e s' h).elim
    | ok fl =>
      cases fl with
      | next => exact False.elim h
      | brk => exact False.elim h
      | cont => exact False.elim h
      | ret u =>
        obtain ⟨v, H', os, bare, un, hok', r', q⟩ := h
        have q' : v = .bl true := q
        subst q'
        obtain rfl : u = Value.bool true := r'
        refine ⟨rfl, OldK.of_keep fun b o e => ?_, os, bare⟩
        cases q : H b with
        | none => exact un.keep b o e q (by intro z; exact absurd (show b ∈ ([] : List Addr) from z) (by simp)) (by simp)
        | some u =>
          rcases hO b with z | ⟨ob, xs, z⟩
          · rw [q] at z; cases z
          · have z2 := un.frzs b ob _ z
            obtain ⟨e1, _⟩ := hok b _ z
            obtain ⟨e2, _⟩ := hok' b _ z2
            rw [e] at e1; cases e1
            exact e2
  cases hk : K.lookup a with
  | some o =>
    -- the script is one of the module's own objects
    have e := KX a o hk
    rw [ha] at e
    cases e
    refine core (fun _ => none) (fun _ => .inl rfl) (.inr ⟨_, vs.toArray, _, hk, rfl, rfl, rfl, by rw [List.size_toArray, lenV]; exact hl, by simpa using rv⟩) (fun b u z => by have z' : (none : Option HO) = some u := z; cases z') (fun b z => absurd rfl z) fun z => absurd rfl z
  | none =>
    refine core (fun b => if b = a then some (.frz { cls := .type "list", data := .seq vs.toArray } (.lst (ns.map V.int))) else none) (fun b => ?_) (.inl (.inr ⟨{ cls := .type "list", data := .seq vs.toArray }, if_pos rfl⟩)) (fun b u z => ?_) (fun b z => ?_) fun _ => hk
    · by_cases hb : b = a
      · exact .inr ⟨_, _, if_pos hb⟩
      · exact .inl (if_neg hb)
    · by_cases hb : b = a
      · have z' := (if_pos hb).symm.trans z
        cases z'
        subst hb
        exact ⟨ha, by rw [List.length_map]; exact hl, vs, _, rv, ha⟩
      · have z' := (if_neg hb).symm.trans z
        cases z'
    · by_cases hb : b = a
      · exact hb
      · exact absurd (if_neg hb) z
end L2

namespace L2
open PySem PySem.Spec PyProof.Rows

abbrev KOf {K : PySem.W.Frag} {h : Heap} (_ : K.In h) : PySem.W.Frag := K

/-- the goal that k_head leaves (case hc), from the law's promise. F gives the function object fd (K's own) once, then the promise over every base -/
theorem walk_of {l : PySem.W.OpenLaw} {n k : Nat} {q : Program} {loose : List Str} {XP : (Str → Option Value) → Heap → Prop} {YP : World → Heap → Prop} {d : DefRec} {K : Params → PySem.W.Frag} {CX : World → CXT} {sp : World → Sp} {x : Str}
    (hn : l.most = some n) (hn2 : n ≤ sizeLine) (hdf : d.params.defaults = []) (hr : Room k callerA)
    (hY : ∀ (w : World) (h : Heap), YP w h → (K w.params).In h)
    (F : ∀ (w : World) (mg : Str → Option Value) (fa : Addr) (h : Heap), (K w.params).In h → h.Ns mainGlobals mg → mg d.name = some (.ref fa) →
      ∃ fd : FuncData, (∀ (s : Shared) (u : Value), BindsTo s fd ⟨[u], []⟩ [(x, u)]) ∧
        ∀ base : Heap, (K w.params).In base → base.Ns mainGlobals mg → FnOk l.prog w (K w.params) mg base (CX w) k fa fd [x] (sp w))
    (hsp : ∀ (w : World) (H : Hp) (a : Addr) (ns : List Int), ns.length ≤ n → Only H → SqL (K w.params) H a (ns.map V.int) → sp w [.ref a] H (fun v _ => v = .bl true) fun _ _ _ => False)
    (hCX : ∀ (w : World) (H : Hp) (s : Shared) (e : Value) (s' : Shared), CX w [] H s (fun _ _ _ => False) e s' → False) :
    PySem.W.WalkO q loose XP YP l.row.toRowW d [] (fun f vs => PySem.call f vs) := by
  refine Att.attach_call hn hdf fun w s₀ s₁ mg mb fa o pm cd doc a vs ns G Y ho hd hcd hmg hobj hints hlen hg => ?_
  have KX := hY w _ Y
  obtain ⟨fd, hb, hF⟩ := F w mg fa _ KX G.T.g hmg
  exact law_call KX G.T.g G.T.b G.T.builtins G.T.nolimit hg hobj hints (Nat.le_trans hlen hn2) hr hF hb (fun H hO hS => hsp w H a ns hlen hO hS) fun H e s' => hCX w H s₁ e s'
end L2



/-! SHORT WORDS over the layer: a def of the text, its body, what a loop and a test want. -/
namespace L2
open PySem PySem.Spec PyProof.Rows

/-! ### the text by places -/
/-- the j-th statement of a class's body -/
def inClass (s : Stmt) (j : Nat) : Stmt := match s with
  | .ClassDef _ _ _ body _ _ _ _ _ _ _ => body.getD j (.Pass ⟨0, 0, 0, 0⟩)
  | _ => .Pass ⟨0, 0, 0, 0⟩
def defArgs (s : Stmt) : Arguments := match s with
  | .FunctionDef _ a _ _ _ _ _ _ _ _ => a
  | _ => { posonlyargs := [], args := [], vararg := none, kwonlyargs := [], kw_defaults := [], kwarg := none, defaults := [] }
def defBody (s : Stmt) : List Stmt := match s with
  | .FunctionDef _ _ b _ _ _ _ _ _ _ => b
  | _ => []
def defScope (s : Stmt) : Scope := match s with
  | .FunctionDef _ _ _ _ _ _ sc _ _ _ => sc
  | _ => { kind := .function, names := [], isGenerator := false, isCoroutine := false }

/-! ### no exception leaves a def -/
abbrev CX0 : CXT := fun _ _ _ _ _ _ => False
abbrev E0 : XK := fun _ _ _ => False
theorem pass0 {X : Cx} : Passes CX0 X E0 := fun _ _ _ _ _ _ _ h => h.elim

/-! ### a def (or method) of the text as it stands behind the top -/
structure Fun (K : PySem.W.Frag) (x qual : Str) (st : Stmt) (f : Addr) (fd : FuncData) : Prop where
  ex : ∃ (oc : Value) (od : Option Addr) (kV doc pm : Value) (an : Option Addr) (cdv ct : Value) (osl : Array (Option Value)),
    fd = PySem.W.fnOf x qual (defArgs st) (defBody st) (defScope st) .none kV doc pm an cdv ct ∧ K.lookup f = some ⟨oc, od, .func fd, osl⟩ ∧ PySem.W.codeIn K cdv qual = true
  kp : PySem.W.keepIn K (.ref f) = true
section
variable {P : Program} {w : World} {K : PySem.W.Frag} {mg : Str → Option Value} {base : Heap}
/-- THE RULE for a def: its body as a term of rules, and the reading of that term -/
theorem Fun.ok {x qual : Str} {st : Stmt} {f : Addr} {fd : FuncData} {N ps : List Str} {k : Nat} {sp : Sp} (F : Fun K x qual st f fd) (S : FnScope N ps (defScope st)) (len : ∀ vs H Q E, sp vs H Q E → vs.length = ps.length)
    (hbody : ∀ (cdv : Value) (A : Around) (outer : List Env) (s : Shared) (H : Hp) (vs : List V) (Q : VK) (E : XK), Room k (A.deeper (envOfC qual (defScope st) s.heap.objs.size f cdv)) → sp vs H Q E →
      ∃ t, PSs (cxOf CX0 P w K mg base N qual (defScope st) f cdv A outer s H E).nox (defBody st) t ∧ t { nx := fun _ H' => Q .non H', rt := Q } (start N vs) H) : FnOk P w K mg base CX0 (k + 1) f fd ps sp := by
  obtain ⟨oc, od, kV, doc, pm, an, cdv, ct, osl, rfl, lk, hcd⟩ := F.ex
  refine fn_of lk hcd S len fun A outer s H vs Q E hr hsp => ?_
  obtain ⟨t, h, q⟩ := hbody cdv A outer s H vs Q E hr hsp
  exact ⟨t, h.nox, q⟩
/-- how its arguments bind (no defaults): h is «fun _ _ _ _ _ _ us hl => match us, hl with | [_, _], _ => rfl», one _ a parameter -/
theorem Fun.binds {x qual : Str} {st : Stmt} {f : Addr} {fd : FuncData} {ps : List Str} (F : Fun K x qual st f fd)
    (h : ∀ (kV doc pm : Value) (an : Option Addr) (cdv ct : Value) (us : List Value), us.length = ps.length → bindArgs (PySem.W.fnOf x qual (defArgs st) (defBody st) (defScope st) .none kV doc pm an cdv ct) ⟨us, []⟩ = pure (ps.zip us)) : Binds K fd ps [] := by
  obtain ⟨oc, od, kV, doc, pm, an, cdv, ct, osl, rfl, lk, hcd⟩ := F.ex
  exact .all (h kV doc pm an cdv ct)
theorem fun_mk {x qual : Str} {st : Stmt} {f : Addr} {oc : Value} {od an : Option Addr} {osl : Array (Option Value)} {kV doc pm cdv ct : Value} (l : K.lookup f = some ⟨oc, od, .func (PySem.W.fnOf x qual (defArgs st) (defBody st) (defScope st) .none kV doc pm an cdv ct), osl⟩)
    (c : PySem.W.codeIn K cdv qual = true) (k : PySem.W.keepIn K (.ref f) = true) : Fun K x qual st f (PySem.W.fnOf x qual (defArgs st) (defBody st) (defScope st) .none kV doc pm an cdv ct) := ⟨⟨oc, od, kV, doc, pm, an, cdv, ct, osl, rfl, l, c⟩, k⟩
end
theorem hu_of {A : Around} {k : Nat} (hr : Room k A) : A.units + 1 < cLine := Nat.lt_of_le_of_lt (Nat.add_le_add_left (by decide : 1 ≤ 64) _) hr.units
theorem small1000 {n : Nat} (h : n ≤ 1000) : n < sizeLine := Nat.lt_of_le_of_lt h (by decide)

/-! ### expressions in short: the name that stands in the i-th slot -/
section
variable {X : Cx}
theorem pv (i : Nat) {x : Str} {pos : Pos} (hN : X.N[i]? = some x := by rfl) (hv : Vis X.env.scope x := by first | exact Or.inl rfl | exact Or.inr (Or.inl rfl) | exact Or.inr (Or.inr rfl)) (hd : (x == ("__debug__" : Str)) = false := by decide)
    (hcd : (x == ("__classdict__" : Str)) = false := by decide) : PE X (.Name x pos) (tVar i) := pe_var hN hv hd hcd
end

/-! ### tests -/
theorem iteF {A B : Prop} (h : B) : if false = true then A else B := by
  rw [if_neg Bool.false_ne_true]
  exact h
theorem iteT {A B : Prop} (h : A) : if true = true then A else B := by
  rw [if_pos rfl]
  exact h
theorem ite2 {c A B : Prop} [Decidable c] (h1 : c → A) (h2 : ¬ c → B) : if c then A else B := by
  by_cases h : c
  · rw [if_pos h]
    exact h1 h
  · rw [if_neg h]
    exact h2 h
/-! ### heaps -/
/-- all that was tracked is as it was -/
def Same (H H' : Hp) : Prop := ∀ b o, H b = some o → H' b = some o
theorem Same.refl (H : Hp) : Same H H := fun _ _ h => h
theorem Same.trans {H H1 H2 : Hp} (a : Same H H1) (b : Same H1 H2) : Same H H2 := fun c o h => b c o (a c o h)
theorem Same.free {H H' : Hp} (e : Same H H') {l : Addr} (h : H' l = Option.none) : H l = Option.none := by
  cases q : H l with
  | none => rfl
  | some o =>
    rw [e l o q] at h
    cases h
theorem Same.seq {K : PySem.W.Frag} {H H' : Hp} {a : Addr} {xs : List V} (e : Same H H') (h : SqL K H a xs) : SqL K H' a xs := by
  rcases h with (h | ⟨o, h⟩) | h
  · exact .inl (.inl (e _ _ h))
  · exact .inl (.inr ⟨o, e _ _ h⟩)
  · exact .inr h

end L2

namespace L2
open PySem PySem.Spec PyProof.Rows

/-! ### a list comprehension of one clause: its block is a context of its own -/
theorem compLoop_any {prog : Program} {w : World} {A : Around} {R : Result → Shared → Prop} {s : Shared} {elt target iter : Expr} {ifs : List Expr} {scope : Scope} {pos : Pos} {it acc : Value} {env : Env} (I : Nat → Shared → Prop)
    (turn : ∀ n s, I n s → wpAny (model prog w) A (pyNext it) (fun r s1 => match r with
      | none => R (.ok .next) s1
      | some v => wpAny (model prog w) A (letOwnedTupleGo target it v) (fun _ s1' => wpAny (model prog w) A (assign target env v) (fun _ s2 =>
          wpAny (model prog w) A (forIn ifs true fun c r => if r = true then do let ok ← isTrue c env (eval c env); pure (ForInStep.yield ok) else pure (ForInStep.yield r)) (fun ok s3 =>
            if ok = true then wpAny (model prog w) A (eval elt env) (fun x s4 =>
              wpAny (model prog w) A (call (.builtin "list.append") [acc, x]) (fun _ s5 => ∃ m, m < n ∧ I m s5) (fun _ _ => False) s4) (fun _ _ => False) s3
            else ∃ m, m < n ∧ I m s3) (fun _ _ => False) s2) (fun _ _ => False) s1') (fun _ _ => False) s1) (fun _ _ => False) s)
    (n : Nat) (h : I n s) : codeAny (model prog w) A (.compLoop (.ListComp elt [⟨target, iter, ifs, 0⟩] scope pos) 0 it acc env) R s := by
  refine codeAny_loop rfl I (fun n s hI => ?_) n h
  show wpAny _ A ((compTurn (.ListComp elt [⟨target, iter, ifs, 0⟩] scope pos) 0 it acc env).onRaise (fun x => do noteFrame x env; theTreesLotGoes x)) _ _ s
  refine wpAny_noted (wpAny_mono (Q := _) (E := fun _ _ => False) ?_ (fun _ _ x => x) fun _ _ x => x.elim)
  rw [compTurn_list]
  refine wpAny_bind (wpAny_standAt (wpAny_bind (thn (turn n s hI) (fun r s1 h1 => ?_))))
  cases r with
  | none => exact wpAny_pure h1
  | some v =>
    refine wpAny_bind (thn h1 fun _ s1' h1' => wpAny_bind (thn h1' fun _ s2 h2 => wpAny_bind (thn h2 fun ok s3 h3 => ?_)))
    cases ok with
    | false => exact wpAny_pure ⟨rfl, h3⟩
    | true => exact wpAny_bind (wpAny_bind (thn h3 fun x s4 h4 => wpAny_bind (thn h4 fun _ s5 h5 => wpAny_pure (wpAny_pure ⟨rfl, h5⟩))))

theorem forIn_free {env : Env} : ∀ (names : List (Str × NameKind)) (cs : List (Str × Addr)), (∀ n, (n, NameKind.free) ∈ names → ∃ c, env.cells.lookup n = some c) →
    ∃ cl : List (Str × Addr), (forIn names cs (fun (x : Str × NameKind) (cs : List (Str × Addr)) => (do
      if (x.2 == NameKind.free) = true then do let a ← cellOf env x.1; pure (ForInStep.yield ((x.1, a) :: cs))
      else pure (ForInStep.yield cs) : Sem (ForInStep (List (Str × Addr)))))) = (pure cl : Sem (List (Str × Addr))) ∧
      (∀ p ∈ cl, p ∈ cs ∨ env.cells.lookup p.1 = some p.2) ∧ (∀ p ∈ cs, p ∈ cl) ∧ (∀ n, (n, NameKind.free) ∈ names → ∃ c, (n, c) ∈ cl)
  | [], cs, _ => ⟨cs, rfl, fun p hp => .inl hp, fun p hp => hp, fun n hn => nomatch hn⟩
  | (n, k) :: r, cs, h => by
    by_cases hk : k = .free
    · subst hk
      obtain ⟨c, hc⟩ := h n List.mem_cons_self
      obtain ⟨cl, e, h1, h2, h3⟩ := forIn_free (env := env) r ((n, c) :: cs) fun m hm => h m (List.mem_cons_of_mem _ hm)
      refine ⟨cl, ?_, fun p hp => ?_, fun p hp => h2 p (List.mem_cons_of_mem _ hp), fun m hm => ?_⟩
      · rw [List.forIn_cons]
        have z : cellOf env n = pure c := by unfold cellOf; rw [hc]
        simp only [beq_self_eq_true, if_true, z]
        exact e
      · rcases h1 p hp with q | q
        · rcases List.mem_cons.mp q with q | q
          · subst q; exact .inr hc
          · exact .inl q
        · exact .inr q
      · rcases List.mem_cons.mp hm with q | q
        · have q1 : m = n := by cases q; rfl
          subst q1
          exact ⟨c, h2 _ List.mem_cons_self⟩
        · exact h3 m q
    · obtain ⟨cl, e, h1, h2, h3⟩ := forIn_free (env := env) r cs fun m hm => h m (List.mem_cons_of_mem _ hm)
      refine ⟨cl, ?_, h1, h2, fun m hm => ?_⟩
      · rw [List.forIn_cons]
        have z : (k == NameKind.free) = false := by simpa using hk
        simp only [z, Bool.false_eq_true, if_false]
        exact e
      · rcases List.mem_cons.mp hm with q | q
        · cases q; exact absurd rfl hk
        · exact h3 m q

theorem mem_lookup {cl : List (Str × Addr)} {x : Str} {c : Addr} (h : (x, c) ∈ cl) : ∃ c', cl.lookup x = some c' := by
  induction cl with
  | nil => cases h
  | cons p r ih =>
    obtain ⟨y, d⟩ := p
    by_cases e : x = y
    · subst e; exact ⟨d, by simp⟩
    · have e' : (x == y) = false := by simpa using e
      rcases List.mem_cons.mp h with q | q
      · cases q; exact absurd rfl e
      · obtain ⟨c', q'⟩ := ih q
        exact ⟨c', by rw [List.lookup_cons, e']; exact q'⟩

theorem closure_ok {env : Env} {scope : Scope} (h : ∀ n, (n, NameKind.free) ∈ scope.names → ∃ c, env.cells.lookup n = some c) :
    ∃ cl, closureFor scope env = pure cl ∧ (∀ x c, cl.lookup x = some c → env.cells.lookup x = some c) ∧ (∀ n, (n, NameKind.free) ∈ scope.names → ∃ c, cl.lookup n = some c) := by
  obtain ⟨cl, e, h1, _, h3⟩ := forIn_free (env := env) scope.names [] h
  refine ⟨cl, ?_, fun x c q => ?_, fun n hn => ?_⟩
  · unfold closureFor
    refine Eq.trans ?_ e
    first
      | rfl
      | (simp only [bind_pure]; rfl)
      | simp only [bind_pure]
  · rcases h1 _ (PySem.mem_of_lookup q) with z | z
    · cases z
    · exact z
  · obtain ⟨c, q⟩ := h3 n hn
    exact mem_lookup q

theorem relabel_lookup {scope : Scope} {env : Env} {x : Str} {k' : NameKind} (h : (relabel scope env).names.lookup x = some k') : ∃ k, scope.names.lookup x = some k ∧ (k' = k ∨ (k = .free ∧ k' = .cell)) := by
  have go : ∀ names : List (Str × NameKind), (names.map fun (n, k) => if (k == NameKind.free && env.scope.kind == .function && env.kindOf n == some .cell) then (n, NameKind.cell) else (n, k)).lookup x = some k' →
      ∃ k, names.lookup x = some k ∧ (k' = k ∨ (k = .free ∧ k' = .cell)) := by
    intro names
    induction names with
    | nil => intro h; cases h
    | cons p r ih =>
      obtain ⟨n, k⟩ := p
      intro h
      rw [List.map_cons] at h
      by_cases hc : (k == NameKind.free && env.scope.kind == .function && env.kindOf n == some .cell) = true
      · simp only [hc, if_true] at h
        cases hx : x == n with
        | true =>
          rw [List.lookup_cons, hx] at h
          have hk : k = .free := by
            cases k <;> first | rfl | (simp at hc)
          exact ⟨k, by rw [List.lookup_cons, hx], .inr ⟨hk, by cases h; rfl⟩⟩
        | false =>
          rw [List.lookup_cons, hx] at h
          obtain ⟨k2, q1, q2⟩ := ih h
          exact ⟨k2, by rw [List.lookup_cons, hx]; exact q1, q2⟩
      · have hc' : (k == NameKind.free && env.scope.kind == .function && env.kindOf n == some .cell) = false := by simpa using hc
        simp only [hc', Bool.false_eq_true, if_false] at h
        cases hx : x == n with
        | true =>
          rw [List.lookup_cons, hx] at h
          exact ⟨k, by rw [List.lookup_cons, hx], .inl (by cases h; rfl)⟩
        | false =>
          rw [List.lookup_cons, hx] at h
          obtain ⟨k2, q1, q2⟩ := ih h
          exact ⟨k2, by rw [List.lookup_cons, hx]; exact q1, q2⟩
  exact go _ h

/-- the context of a comprehension's block: its own names first, then the names at the places js of the frame around -/
def Cx.comp (X : Cx) (scope : Scope) (own : List Str) (js : List Nat) (cl : List (Str × Addr)) (s : Shared) (H : Hp) (C : Addr) (fp : List Addr) : Cx :=
  { prog := X.prog, w := X.w, K := X.K, mg := X.mg, base := X.base, A := X.A, N := own ++ js.map (fun j => X.N.getD j ""), s₀ := s, H₀ := H, env := compEnvC scope cl C X.env, outer := X.stack, stack := X.stack, ex := fp,
    fn := fun _ => false, calm := X.calm, pn := [], xe := fun _ _ => False }
def pick (n : Nat) (js : List Nat) (σ : St) : St := List.replicate n none ++ js.map fun j => (σ[j]?).join
def Wk (σ σ' : St) : Prop := σ.length = σ'.length ∧ ∀ (i : Nat) v, σ[i]? = some (some v) → σ'[i]? = some (some v)
theorem Wk.refl (σ : St) : Wk σ σ := ⟨rfl, fun _ _ h => h⟩
theorem Wk.set {n : Nat} {js : List Nat} {σ σ' : St} {i : Nat} {v : Option V} (h : Wk (pick n js σ) σ') (hi : i < n) : Wk (pick n js σ) (σ'.set i v) := by
  refine ⟨by rw [List.length_set]; exact h.1, fun j u q => ?_⟩
  by_cases e : i = j
  · subst e
    unfold pick at q
    rw [List.getElem?_append_left (by simpa using hi), List.getElem?_replicate] at q
    split at q <;> cases q
  · rw [List.getElem?_set_ne e]; exact h.2 j u q

/-- what the scope table of the comprehension must say (all by decide) -/
structure CompScopeN (sc : Scope) (N : List Str) (scope : Scope) (js : List Nat) : Prop where
  kind : scope.kind = .function
  cell : ∀ x ∈ scope.names, x.2 ≠ .cell
  names : ∀ x ∈ scope.names, x.2 = .local → scope.names.lookup x.1 = some .local
  free : ∀ x ∈ scope.names, x.2 = .free → sc.names.lookup x.1 = some .cell ∨ sc.names.lookup x.1 = some .free
  js : ∀ j ∈ js, scope.names.lookup (N.getD j "") ≠ some .local
structure CompScope (X : Cx) (scope : Scope) (own : List Str) (js : List Nat) : Prop where
  kind : scope.kind = .function
  cell : ∀ x ∈ scope.names, x.2 ≠ .cell
  names : ∀ x ∈ scope.names, x.2 = .local → scope.names.lookup x.1 = some .local
  free : ∀ x ∈ scope.names, x.2 = .free → X.env.kindOf x.1 = some .cell ∨ X.env.kindOf x.1 = some .free
  js : ∀ j ∈ js, scope.names.lookup (X.N.getD j "") ≠ some .local

section
variable {X : Cx} {scope : Scope} {own : List Str} {js : List Nat}
theorem CompScopeN.cs {sc : Scope} {N : List Str} (S : CompScopeN sc N scope js) (h1 : X.env.scope = sc) (h2 : X.N = N) : CompScope X scope own js := by
  subst h1 h2
  exact ⟨S.kind, S.cell, S.names, S.free, S.js⟩

end
end L2

namespace L2
open PySem PySem.Spec PyProof.Rows

/-- the tests of a clause -/
def PIfs (X : Cx) (ifs : List Expr) (t : TT) : Prop :=
  ∀ (pins : List (Addr × Obj)) (s : Shared) (σ : St) (H : Hp) (Q : Bool → Hp → Prop), Inv X pins σ H s → t σ H Q →
    wpAny (model X.prog X.w) X.A (forIn ifs true fun c r => if r = true then do let ok ← isTrue c X.env (eval c X.env); pure (ForInStep.yield ok) else pure (ForInStep.yield r)) (TP X pins σ Q) X.xe s
def tYes : TT := fun _ H Q => Q true H
theorem pifs_nil {X : Cx} : PIfs X [] tYes := fun _ _ _ H _ I h => wpAny_tests_nil ⟨H, I, h⟩
theorem pifs_one {X : Cx} {c : Expr} {t : TT} (h : PT X c t) : PIfs X [c] t := fun pins s σ H Q I hw => wpAny_tests_one (h pins s σ H Q I hw)

/-- the reading of a comprehension; acc: the new list; W: by the turn and a measure -/
def tCompR (n : Nat) (js : List Nat) (g : TG) (c : TT) (te : TE) (J : It) (σ : St) (H1 : Hp) (Q : VK) : Prop :=
  ∀ acc, H1 acc = none → ∃ W : Nat → Nat → Hp → Prop, (∃ m, W 0 m (upd H1 acc (.lst []))) ∧ ∀ i m H, W i m H →
    (J.stop i H ∧ Q (.ref acc) H) ∨
    (J.go i H ∧ ∀ x H', J.yld i H x H' → g x (pick n js σ) H' fun σ2 H2 => Wk (pick n js σ) σ2 ∧ c σ2 H2 fun b H3 =>
      if b = true then te σ2 H3 fun y H4 => ∃ ys, H4 acc = some (.lst ys) ∧ ys.length < sizeLine ∧ ∃ m', m' < m ∧ W (i + 1) m' (upd H4 acc (.lst (ys ++ [y])))
      else ∃ m', m' < m ∧ W (i + 1) m' H3)
def tComp (n : Nat) (js : List Nat) (wi : TI) (g : TG) (c : TT) (te : TE) : TE := fun σ H Q => wi σ H fun J H1 => tCompR n js g c te J σ H1 Q

section
variable {X : Cx} {scope : Scope} {own : List Str} {js : List Nat} {tg iter elt : Expr} {ifs : List Expr} {pos : Pos} {wi : TI} {g : TG} {c : TT} {te : TE}

theorem comp_gone {pins : List (Addr × Obj)} {σ σ1 : St} {H H' : Hp} {s s' : Shared} {C : Addr} {h' : Heap} (I : Inv X pins σ H s) (hC : s.heap.objs.size ≤ C) (J : Inv X pins σ1 H' s') (hn : H' C = none) (hs : Heap.SameBut C s'.heap h') : Inv X pins σ1 H' { s' with heap := h' } := by
  obtain ⟨f0, f1, f2, f3, f4, f5⟩ := I.fpOk hC hn
  exact J.turned (t' := s'.toks) (fun b o hb e => (hs.2 b hb).trans e) f0 f1 f3 f4 f5

end
end L2

namespace L2
open PySem PySem.Spec PyProof.Rows

/-! ### enumerate over a list, its pairs taken apart by the target -/
def Ite (K : PySem.W.Frag) (a : Addr) : It :=
  ⟨fun i H => ∃ xs x, SqL K H a xs ∧ xs[i]? = some x, fun i H x H' => ∃ p v, x = .ref p ∧ H p = none ∧ H' = upd H p (.tup [.int (i : Nat), v]) ∧ ∀ xs, SqL K H a xs → xs[i]? = some v, fun i H => ∃ xs, SqL K H a xs ∧ xs.length ≤ i⟩
theorem turn_enum {P : Program} {w : World} {K : PySem.W.Frag} {es : List Expr} {k : _} {pos : Pos} (a e it : Addr) (hne : e ≠ it) : Turn P w K (.Tuple es k pos) (Ite K a) [e, it] e (fun i h => (∃ old, IsEnum h e it (i : Nat) old) ∧ h.IsListIter it a i) where
  mem := by simp
  obj := fun i h st b hb => by
    obtain ⟨⟨old, he⟩, o, e1, c, d⟩ := st
    rcases List.mem_cons.mp hb with q | q
    · subst q
      exact ⟨_, he, fun v z => by
        have z' : Data.fields _ = Data.cell v := z
        cases z'⟩
    · have q : b = it := by simpa using q
      subst q
      exact ⟨o, e1, fun v z => by rw [d] at z; cases z⟩
  keep := fun i h h' st k => ⟨by obtain ⟨⟨old, he⟩, _⟩ := st; exact ⟨old, k e (by simp) _ he⟩, st.2.at fun o q => k it (by simp) o q⟩
  item := by
    intro X hP hw hK hc i pins s σ H E I hf st hg
    subst hP hw hK
    obtain ⟨xs, x, hq, hx⟩ := hg
    obtain ⟨its, rv, p, hz⟩ := I.list hq
    obtain ⟨u, hu, ru⟩ := rv.get hx
    obtain ⟨⟨old, he⟩, hit⟩ := st
    refine wpAny_pyNext_enum_item he hit p.isList (x := u) (by simpa using hu) hne fun h' ho hit' ht hsz hk => ?_
    refine ⟨_, rfl, wpAny_letOwnedTupleGo_enum ho fun h2 he2 hs2 => ?_⟩
    have hTe : s.heap.objs.size ≠ e := Nat.ne_of_gt (Heap.lt_size he)
    have hk2 : ∀ b o, b ∉ [e, it] → s.heap.get? b = some o → h2.get? b = some o := fun b o hb q => (hs2.2 b (fun z => hb (by simp [z]))).trans (hk b o (fun z => hb (by simp [z])) (fun z => hb (by simp [z])) q)
    have hT : h2.get? s.heap.objs.size = some { cls := .type "tuple", data := .seq #[.int i s.toks, u] } := (hs2.2 _ hTe).trans ht
    have hTn : H s.heap.objs.size = none := I.hok.fresh (Nat.le_refl _)
    have ne : ∀ b o, H b = some o → b ≠ s.heap.objs.size := fun b o q z => by rw [z, hTn] at q; cases q
    have nch : ∀ b o, H b = some o → b ∉ [e, it] := fun b o q z => by rw [(hf b z).1] at q; cases q
    have up : ∀ b o, H b = some o → upd H s.heap.objs.size (.tup [.int (i : Nat), x]) b = some o := fun b o q => by rw [upd_ne (ne b o q)]; exact q
    have I1 : Inv X pins σ (upd H s.heap.objs.size (.tup [.int (i : Nat), x])) { s with heap := h2, toks := s.toks + 1 } := by
      refine I.step (g' := s.gens) (d' := s.drawn) (ch := [e, it]) (fun b hb => ?_) (fun b o _ _ hb q _ => hk2 b o hb q) (fun b o _ _ hb q _ => ⟨o.slots, hk2 b o hb q⟩) (fun b o hb q n => ?_) (fun b o hb q => ⟨o, hk2 b o hb q⟩)
        (fun b xs q => up b _ q) (fun b o u q => up b _ q) (fun b ps q => ⟨#[], by rw [up b _ q]; simp⟩) (fun m hm => ?_) (fun b u q => ?_) I.bare
      · obtain ⟨f0, f1, f2, f3, f4, f5⟩ := hf b hb
        exact ⟨f3, f1, f4, f5⟩
      · rw [upd_ne (Nat.ne_of_lt (Heap.lt_size q))]; exact n
      · obtain ⟨o, es, ep, ho, r⟩ := hm
        exact ⟨o, es, ep, hk2 _ o (fun z => (hf _ z).2.1 rfl) ho, r⟩
      · by_cases hb : b = s.heap.objs.size
        · subst hb
          rw [upd_same] at q
          cases q
          exact ⟨by show 2 ≤ sizeLine; decide, [.int i s.toks, u], .cons ⟨_, rfl⟩ (.cons ru .nil), _, hT, rfl, 0, rfl⟩
        · rw [upd_ne hb] at q
          refine (I.hok b u q).stay (fun c v hc q' => hk2 c v ?_ q') (fun c q' => up c _ q') fun c xs q' => up c _ q'
          rcases hc with z | z
          · subst z; exact nch _ _ q
          · exact nch _ _ z
    refine ⟨.ref s.heap.objs.size, _, I1, rfl, ⟨_, x, rfl, hTn, rfl, fun ys hy => by rw [I.list_inj hy hq]; exact hx⟩, ⟨⟨u, by simpa using he2⟩, ?_⟩, fun b hb => ?_⟩
    · exact hit'.extBut hs2.extBut (Ne.symm hne)
    · have hb' : b ≠ s.heap.objs.size := by
        rcases List.mem_cons.mp hb with q | q
        · rw [q]; exact hTe.symm
        · have q : b = it := by simpa using q
          obtain ⟨o, q1, _⟩ := hit
          rw [q]; exact Nat.ne_of_lt (Heap.lt_size q1)
      rw [upd_ne hb']; exact (hf b hb).1
  done := by
    intro X hP hw hK hc i pins s σ H E I hf st hg
    subst hP hw hK
    obtain ⟨xs, hq, hx⟩ := hg
    obtain ⟨its, rv, p, hz⟩ := I.list hq
    obtain ⟨⟨old, he⟩, hit⟩ := st
    obtain ⟨f0, f1, f2, f3, f4, f5⟩ := hf it (by simp)
    have hl := rv.length
    exact wpAny_pyNext_enum_end (I.ok.hd hc) he hit p.isList (by simp; omega) fun h' eb => ⟨rfl, I.turned (t' := s.toks) (fun b o hb e => eb b o hb e) f0 f1 f3 f4 f5⟩
  self := fun _ _ _ _ _ st h => by
    obtain ⟨⟨old, he⟩, _⟩ := st
    exact wpAny_pyIter_enum he h

section
variable {X : Cx}
def iEnum (K : PySem.W.Frag) (ta : TA) : TI := fun σ H R => ta σ H fun vs H1 => ∃ a, vs = [.ref a] ∧ (∃ xs, SqL K H1 a xs) ∧ R (Ite K a) H1
theorem pi_enum {es : List Expr} {k : _} {tpos : Pos} {a : Expr} {ta : TA} {p pos : Pos} (hg : Gl X "enumerate") (hm : X.mg "enumerate" = none) (ha : PA X [a] ta) (hs : starEach [a] X.env = [(false, eval a X.env)] := by rfl) : PI X (.Tuple es k tpos) (.Call (.Name "enumerate" p) [a] [] pos) (iEnum X.K ta) := by
  intro pins s σ H R I h
  refine Call_ (ld_blt I hg hm boot_enumerate (PyProof.Rows.callWith_type1 (thn (ha pos pins s σ H _ I h) fun us s1 ⟨vs, H1, I1, r1, q1⟩ => ?_) hs rfl))
  obtain ⟨l, e, ⟨xs, hq⟩, q⟩ := q1
  subst e
  obtain ⟨u, rfl, ru⟩ := r1.one
  cases ru
  obtain ⟨its, rv, pl, hz⟩ := I1.list hq
  refine call_enumerate_list pl.isList fun h' he hit hsz hk => wpAny_pyIter_enum (i := 0) (old := .none) (by simpa using he) ?_
  have I2 : Inv X pins σ H1 { s1 with heap := h' } := I1.kept (t' := s1.toks) hk
  refine ⟨s1.heap.objs.size + 1, [s1.heap.objs.size + 1, s1.heap.objs.size], _, _, H1, rfl, I2, turn_enum l _ _ (Nat.succ_ne_self _), ⟨⟨.none, by simpa using he⟩, hit⟩, fun b hb => ?_, q⟩
  have hb' : s1.heap.objs.size ≤ b := by
    rcases List.mem_cons.mp hb with q | q
    · rw [q]; exact Nat.le_succ _
    · have q : b = s1.heap.objs.size := by simpa using q
      rw [q]; exact Nat.le_refl _
  exact I1.fpOk hb' (I1.hok.fresh hb')

/-! ### range(lo, hi, 2) and the like -/
def Itr3 (lo c : Int) (n : Nat) : It := ⟨fun i _ => i < n, fun i H x H' => H' = H ∧ x = .int (lo + i * c), fun i _ => n ≤ i⟩
def iRng3 (ta : TA) : TI := fun σ H R => ta σ H fun vs H1 => ∃ (i j c : Int), vs = [.int i, .int j, .int c] ∧ (c ≠ 0 ∧ c.natAbs < 1073741824) ∧ Builtin.Range.small i j c = true ∧ 0 ≤ Builtin.Range.rangeSize i j c ∧ R (Itr3 i c (Builtin.Range.rangeSize i j c).toNat) H1
/-! ### data: what a value is, to its depth -/
mutual
inductive DR (K : PySem.W.Frag) (H : Hp) : V → PyData → Prop
  | non : DR K H .non .none
  | bl (b : Bool) : DR K H (.bl b) (.bool b)
  | int (i : Int) : DR K H (.int i) (.int i)
  | str (x : Str) : DR K H (.str x) (.str x)
  | lst {a : Addr} {xs : List V} {ds : List PyData} : SqL K H a xs → DRs K H xs ds → DR K H (.ref a) (.list ds)
  | tup {a : Addr} {xs : List V} {ds : List PyData} : SqT K H a xs → DRs K H xs ds → DR K H (.ref a) (.tuple ds)
inductive DRs (K : PySem.W.Frag) (H : Hp) : List V → List PyData → Prop
  | nil : DRs K H [] []
  | cons {x : V} {d : PyData} {xs : List V} {ds : List PyData} : DR K H x d → DRs K H xs ds → DRs K H (x :: xs) (d :: ds)
end
mutual
theorem DR.reads {pins : List (Addr × Obj)} {σ : St} {H : Hp} {s : Shared} (I : Inv X pins σ H s) : ∀ {x : V} {d : PyData} {u : Value}, DR X.K H x d → RelV x u → ∃ as, Reads s.heap u d as
  | _, _, _, .non, r => by cases (show _ = Value.none from r); exact ⟨_, .none⟩
  | _, _, _, .bl b, r => by cases (show _ = Value.bool b from r); exact ⟨_, .bool b⟩
  | _, _, _, .int i, r => by obtain ⟨t, rfl⟩ := r; exact ⟨_, .int i t⟩
  | _, _, _, .str x, r => by obtain ⟨t, rfl⟩ := r; exact ⟨_, .str x t⟩
  | _, _, _, .lst (a := a) h hs, r => by
    cases (show _ = Value.ref a from r)
    obtain ⟨its, rv, p, hz⟩ := I.list h
    obtain ⟨o, h1, h2, n, h3⟩ := p.isList
    obtain ⟨as, ra⟩ := DRs.reads I hs rv
    exact ⟨_, .list h1 h2 h3 (by simpa using ra)⟩
  | _, _, _, .tup (a := a) h hs, r => by
    cases (show _ = Value.ref a from r)
    obtain ⟨its, rv, p, hz⟩ := I.tuple h
    obtain ⟨o, h1, h2, n, h3⟩ := p
    obtain ⟨as, ra⟩ := DRs.reads I hs rv
    exact ⟨_, .tuple h1 h2 h3 (by simpa using ra)⟩
theorem DRs.reads {pins : List (Addr × Obj)} {σ : St} {H : Hp} {s : Shared} (I : Inv X pins σ H s) : ∀ {xs : List V} {ds : List PyData} {us : List Value}, DRs X.K H xs ds → Vals xs us → ∃ as, ReadsAll s.heap us ds as
  | _, _, _, .nil, r => by cases r; exact ⟨_, .nil⟩
  | _, _, _, .cons h hs, r => by
    cases r with
    | cons r1 r2 =>
      obtain ⟨as, ra⟩ := DR.reads I h r1
      obtain ⟨bs, rb⟩ := DRs.reads I hs r2
      exact ⟨_, .cons ra rb⟩
end
open PySem.SeqAt in
def rEqD (K : PySem.W.Frag) (neg : Bool) : R2 := fun x y H Q => ∃ d e, DR K H x d ∧ DR K H y e ∧ shaped d = true ∧ shaped e = true ∧ Q (.bl (if neg then !PyData.eqv d e else PyData.eqv d e)) H
theorem op_eqD {k : Nat} (hr : Room k X.A) : OpR X (compareOp .Eq) (rEqD X.K false) := by
  intro pins s σ H x y v u Q I rx ry h
  obtain ⟨d, e, h1, h2, s1, s2, q⟩ := h
  obtain ⟨as, ra⟩ := h1.reads I rx
  obtain ⟨bs, rb⟩ := h2.reads I ry
  exact eq_dataH ra rb s1 s2 hr.units ⟨.bl (PyData.eqv d e), H, I, rfl, q⟩
theorem op_neD {k : Nat} (hr : Room k X.A) : OpR X (compareOp .NotEq) (rEqD X.K true) := by
  intro pins s σ H x y v u Q I rx ry h
  obtain ⟨d, e, h1, h2, s1, s2, q⟩ := h
  obtain ⟨as, ra⟩ := h1.reads I rx
  obtain ⟨bs, rb⟩ := h2.reads I ry
  exact ne_dataH ra rb s1 s2 hr.units ⟨.bl (!PyData.eqv d e), H, I, rfl, q⟩

/-! ### isinstance(x, T), T a built-in type -/
def rIsI (K : PySem.W.Frag) : List V → Hp → VK → Prop := fun xs H Q => ∃ x t T b, xs = [x, .ty T] ∧ TyOf K H x t ∧ PySem.W.kitOne K t (.type T) = some b ∧ Q (.bl b) H
/-! ### all(xs), xs a list of truths -/
def rAll (K : PySem.W.Frag) : List V → Hp → VK → Prop := fun xs H Q => ∃ (p : Addr) (bs : List Bool), xs = [.ref p] ∧ SqL K H p (bs.map V.bl) ∧ Q (.bl (bs.all id)) H
end

theorem Same.tup {K : PySem.W.Frag} {H H' : Hp} {a : Addr} {xs : List V} (e : Same H H') (h : SqT K H a xs) : SqT K H' a xs := by
  rcases h with (h | ⟨o, h⟩) | h
  · exact .inl (.inl (e _ _ h))
  · exact .inl (.inr ⟨o, e _ _ h⟩)
  · exact .inr h
mutual
theorem DR.same {K : PySem.W.Frag} {H H' : Hp} (e : Same H H') : ∀ {x : V} {d : PyData}, DR K H x d → DR K H' x d
  | _, _, .non => .non
  | _, _, .bl b => .bl b
  | _, _, .int i => .int i
  | _, _, .str x => .str x
  | _, _, .lst h hs => .lst (e.seq h) (DRs.same e hs)
  | _, _, .tup h hs => .tup (e.tup h) (DRs.same e hs)
theorem DRs.same {K : PySem.W.Frag} {H H' : Hp} (e : Same H H') : ∀ {xs : List V} {ds : List PyData}, DRs K H xs ds → DRs K H' xs ds
  | _, _, .nil => .nil
  | _, _, .cons h hs => .cons (DR.same e h) (DRs.same e hs)
end
theorem DRs.ints {K : PySem.W.Frag} {H : Hp} : ∀ ns : List Int, DRs K H (ns.map V.int) (ns.map PyData.int)
  | [] => .nil
  | n :: ns => .cons (.int n) (DRs.ints ns)
theorem same_new {H : Hp} {p : Addr} (h : H p = none) (o : HO) : Same H (upd H p o) := fun b u q => by rw [upd_ne (ne_of_none q h)]; exact q
end L2

namespace L2
open PySem PySem.Spec PyProof.Rows

/-! ### a def of the text with its promise, in one word -/
structure Dfn (P : Program) (w : World) (K : PySem.W.Frag) (mg : Str → Option Value) (base : Heap) (k : Nat) (x : Str) (ps : List Str) (sp : Sp) : Prop where
  ex : ∃ f fd, FnOk P w K mg base CX0 k f fd ps sp ∧ Binds K fd ps [] ∧ PySem.W.keepIn K (.ref f) = true ∧ mg x = some (.ref f)
section
variable {P : Program} {w : World} {K : PySem.W.Frag} {mg : Str → Option Value} {base : Heap}
theorem Dfn.mono {j k : Nat} {x : Str} {ps : List Str} {sp : Sp} (D : Dfn P w K mg base j x ps sp) (h : j ≤ k) : Dfn P w K mg base k x ps sp := by
  obtain ⟨f, fd, F, b, kp, m⟩ := D.ex
  exact ⟨f, fd, F.mono h, b, kp, m⟩
theorem Dfn.of {k : Nat} {x qual : Str} {st : Stmt} {f : Addr} {fd : FuncData} {N ps : List Str} {sp : Sp} (F : Fun K x qual st f fd) (b : Binds K fd ps []) (m : mg x = some (.ref f)) (S : FnScope N ps (defScope st)) (len : ∀ vs H Q E, sp vs H Q E → vs.length = ps.length)
    (hbody : ∀ (cdv : Value) (A : Around) (outer : List Env) (s : Shared) (H : Hp) (vs : List V) (Q : VK) (E : XK), Room k (A.deeper (envOfC qual (defScope st) s.heap.objs.size f cdv)) → sp vs H Q E →
      ∃ t, PSs (cxOf CX0 P w K mg base N qual (defScope st) f cdv A outer s H E).nox (defBody st) t ∧ t { nx := fun _ H' => Q .non H', rt := Q } (start N vs) H) : Dfn P w K mg base (k + 1) x ps sp :=
  ⟨f, fd, F.ok S len hbody, b, F.kp, m⟩
end
theorem pe_def {X : Cx} {k j : Nat} {x : Str} {ps : List Str} {sp : Sp} {e : Expr} {es : List Expr} {t : TA} {p pos : Pos} (D : Dfn X.prog X.w X.K X.mg X.base k x ps sp) (hr : Room j X.A) (hj : k ≤ j) (hg : Gl X x) (ha : PA X (e :: es) t)
    (hdb : (x == ("__debug__" : Str)) = false := by decide) (he : starEach (e :: es) X.env = (false, eval e X.env) :: starEach es X.env := by rfl) (hpl : (backTo pos (starEach es X.env)).any (·.1) = false := by rfl) :
    PE X (.Call (.Name x p) (e :: es) [] pos) (tCall sp [] E0 t) := by
  obtain ⟨f, fd, F, b, kp, m⟩ := D.ex
  exact pe_call F (hr.mono hj) hg m kp b .nil pass0 ha hdb he hpl

/-! ### comprehensions by what they come to: F i is the list behind i turns, nothing else changes but what is new -/
def CW (n : Nat) (acc : Addr) (Pv : Nat → List V → Hp → Prop) : Nat → Nat → Hp → Prop := fun i m H => m = n - i ∧ i ≤ n ∧ ∃ ys, H acc = some (.lst ys) ∧ Pv i ys H
def CSkip (n : Nat) (acc : Addr) (Pv : Nat → List V → Hp → Prop) (i : Nat) (H : Hp) : Prop := ∃ m', m' < n - i ∧ CW n acc Pv (i + 1) m' H
def CPut (n : Nat) (acc : Addr) (Pv : Nat → List V → Hp → Prop) (i : Nat) (y : V) (H : Hp) : Prop := ∃ ys, H acc = some (.lst ys) ∧ ys.length < sizeLine ∧ ∃ m', m' < n - i ∧ CW n acc Pv (i + 1) m' (upd H acc (.lst (ys ++ [y])))
def CP (H1 : Hp) (F : Nat → List V) : Nat → List V → Hp → Prop := fun i ys H => Same H1 H ∧ ys = F i
section
variable {n i : Nat} {acc : Addr} {H1 H H' : Hp} {F : Nat → List V} {y : V}
theorem cput (hlt : i < n) (hacc : H1 acc = none) (S : Same H1 H) (h0 : H acc = some (.lst (F i))) (s : Same H H') (e : F (i + 1) = F i ++ [y]) (hz : (F i).length < sizeLine) : CPut n acc (CP H1 F) i y H' :=
  ⟨F i, s acc _ h0, hz, n - (i + 1), by omega, rfl, hlt, F i ++ [y], upd_same, fun b o q => by
    rw [upd_ne (ne_of_none q hacc)]; exact s b o (S b o q), e.symm⟩
end
section
variable {K : PySem.W.Frag} {m : Nat} {js : List Nat} {g : TG} {c : TT} {te : TE} {σ : St} {H1 : Hp} {Q : VK}
end
/-! ### small things -/
theorem int_eq {i j : Int} : decide (V.int i = V.int j) = (i == j) := dec_int
theorem atI_int {ns : List Int} {k : Int} (h0 : 0 ≤ k) (h : k < (ns.length : Int)) : atI (ns.map V.int) k = some (.int (ns.getD k.toNat 0)) := by
  have hk : k.toNat < ns.length := by omega
  have ek : k = ((k.toNat : Nat) : Int) := by omega
  have q : atI (ns.map V.int) ((k.toNat : Nat) : Int) = some (.int ns[k.toNat]) := atI_nat (by rw [List.getElem?_map, List.getElem?_eq_getElem hk] <;> rfl)
  rw [← ek] at q
  rw [q, List.getD_eq_getElem?_getD, List.getElem?_eq_getElem hk]; rfl
theorem small {n : Nat} (h : n ≤ 1000) : n ≤ sizeLine := Nat.le_of_lt (small1000 h)
/-- a book: a tuple of how many things and the list of the baskets -/
def Bk (K : PySem.W.Frag) (H : Hp) (b : Addr) (many : Int) (bs : List Int) : Prop := ∃ l, SqT K H b [.int many, .ref l] ∧ SqL K H l (bs.map V.int)
theorem Bk.same {K : PySem.W.Frag} {H H' : Hp} {b : Addr} {many : Int} {bs : List Int} (e : Same H H') (h : Bk K H b many bs) : Bk K H' b many bs := by
  obtain ⟨l, h1, h2⟩ := h
  exact ⟨l, e.tup h1, e.seq h2⟩
theorem Bk.dr {K : PySem.W.Frag} {H : Hp} {b : Addr} {many : Int} {bs : List Int} (h : Bk K H b many bs) : DR K H (.ref b) (.tuple [.int many, .list (bs.map PyData.int)]) := by
  obtain ⟨l, h1, h2⟩ := h
  exact .tup h1 (.cons (.int _) (.cons (.lst h2 (DRs.ints bs)) .nil))
theorem lay_ints : ∀ ns : List Int, PyData.canLayAll0 (ns.map PyData.int) = true
  | [] => rfl
  | n :: ns => by
    show (PyData.canLay0 (.int n) && PyData.canLayAll0 (ns.map PyData.int)) = true
    rw [lay_ints ns]; rfl
theorem depth_ints : ∀ ns : List Int, PyData.depthAll (ns.map PyData.int) = 0
  | [] => rfl
  | n :: ns => by
    show max (PyData.depth (.int n)) (PyData.depthAll (ns.map PyData.int)) = 0
    rw [depth_ints ns]; rfl
theorem shaped_ints (ns : List Int) : PySem.SeqAt.shaped (.list (ns.map PyData.int)) = true := by
  unfold PySem.SeqAt.shaped
  rw [show PyData.canLay0 (.list (ns.map PyData.int)) = true from lay_ints ns]
  rw [show PyData.depth (.list (ns.map PyData.int)) = 0 + 1 from by rw [← depth_ints ns]; rfl]
  rfl
theorem eqv_ints : ∀ ns ms : List Int, PyData.eqvAll (ns.map PyData.int) (ms.map PyData.int) = decide (ns = ms) := PySem.W.ked_eqvAll
end L2
namespace L2
open PySem PySem.Spec PyProof.Rows
/-! ### two ways meet behind a statement: what holds there is said once -/
def tMid (t u : TS) : TS := fun D σ H => ∃ R : St → Hp → Prop, t { D with nx := R } σ H ∧ ∀ σ' H', R σ' H' → u D σ' H'
theorem pss_mid {X : Cx} {st : Stmt} {rest : List Stmt} {t u : TS} (h1 : PS X st t) (h2 : PSs X rest u) : PSs X (st :: rest) (tMid t u) := by
  intro pins s σ H D I h
  obtain ⟨R, q1, q2⟩ := h
  refine wpAny_execs_cons (thn (h1 pins s σ H { D with nx := R } I q1) fun f s1 q => ?_)
  cases f with
  | next =>
    obtain ⟨σ', H', I', q⟩ := q
    exact h2 pins s1 σ' H' D I' (q2 σ' H' q)
  | ret v => exact q
  | brk => exact q
  | cont => exact q
/-- a test that only makes new things -/
def LookT (t : TT) (σ : St) (H : Hp) (c : Bool) : Prop := ∀ Q : Bool → Hp → Prop, (∀ H', Same H H' → Q c H') → t σ H Q
theorem LookT.pure {t : TT} {σ : St} {H : Hp} {c : Bool} (h : ∀ Q : Bool → Hp → Prop, Q c H → t σ H Q) : LookT t σ H c := fun Q q => h Q (q H (Same.refl H))
theorem lookAnd {t u : TT} {σ : St} {H : Hp} {c d : Bool} (h1 : LookT t σ H c) (h2 : c = true → ∀ H1, Same H H1 → LookT u σ H1 d) : LookT (tAnd t u) σ H (c && d) := fun Q h => by
  refine h1 _ fun H1 S1 => ?_
  cases c with
  | true => exact iteT (h2 rfl H1 S1 Q fun H2 S2 => h H2 (S1.trans S2))
  | false => exact iteF (h H1 S1)
theorem lookOr {t u : TT} {σ : St} {H : Hp} {c d : Bool} (h1 : LookT t σ H c) (h2 : c = false → ∀ H1, Same H H1 → LookT u σ H1 d) : LookT (tOr t u) σ H (c || d) := fun Q h => by
  refine h1 _ fun H1 S1 => ?_
  cases c with
  | true => exact iteT (h H1 S1)
  | false => exact iteF (h2 rfl H1 S1 Q fun H2 S2 => h H2 (S1.trans S2))
/-- all that was tracked but at l is as it was -/
def SameB (l : Addr) (H H' : Hp) : Prop := ∀ b o, b ≠ l → H b = some o → H' b = some o
theorem Same.b {l : Addr} {H H' : Hp} (h : Same H H') : SameB l H H' := fun b o _ e => h b o e
theorem SameB.trans {l : Addr} {H H1 H2 : Hp} (a : SameB l H H1) (b : SameB l H1 H2) : SameB l H H2 := fun c o n h => b c o n (a c o n h)
theorem sameB_upd {l : Addr} {H : Hp} {o : HO} : SameB l H (upd H l o) := fun b u n e => by rw [upd_ne n]; exact e
theorem SameB.same {l : Addr} {H0 H H' : Hp} (h : SameB l H H') (h0 : Same H0 H) (hn : H0 l = none) : Same H0 H' := fun b o e => h b o (ne_of_none e hn) (h0 b o e)
theorem SameB.seq {K : PySem.W.Frag} {l : Addr} {H H' : Hp} {a : Addr} {xs : List V} (e : SameB l H H') (n : a ≠ l) (h : SqL K H a xs) : SqL K H' a xs := by
  rcases h with (h | ⟨o, h⟩) | h
  · exact .inl (.inl (e _ _ n h))
  · exact .inl (.inr ⟨o, e _ _ n h⟩)
  · exact .inr h
theorem SameB.tup {K : PySem.W.Frag} {l : Addr} {H H' : Hp} {a : Addr} {xs : List V} (e : SameB l H H') (n : a ≠ l) (h : SqT K H a xs) : SqT K H' a xs := by
  rcases h with (h | ⟨o, h⟩) | h
  · exact .inl (.inl (e _ _ n h))
  · exact .inl (.inr ⟨o, e _ _ n h⟩)
  · exact .inr h
/-- slices of lists of ints -/
def cutI (ds : List Int) (lo hi : Option Int) : List Int := (ds.drop (HT.sIx ds.length 0 lo)).take (HT.sIx ds.length ds.length hi - HT.sIx ds.length 0 lo)
theorem cut_ints (ds : List Int) (lo hi : Option Int) : cutV (ds.map V.int) lo hi = (cutI ds lo hi).map V.int := by
  unfold cutV cutI
  rw [List.length_map, List.map_take, List.map_drop]
theorem cutI_mem {ds : List Int} {lo hi : Option Int} {d : Int} (h : d ∈ cutI ds lo hi) : d ∈ ds := List.mem_of_mem_drop (List.mem_of_mem_take h)
end L2
namespace L2
open PySem PySem.Spec PyProof.Rows
/-! ### the same rules where the context is a comprehension's: K is said -/
section
variable {X : Cx} (K : PySem.W.Frag) (hK : X.K = K)
include hK
theorem pg_tupK {pos : Pos} {es : List Expr} {k : Nat} {t : TGs} {n : Nat} (hc : X.calm = true) (h : PGs X es t) (hn : (assignEach es X.env).length = n := by rfl) (hst : (assignEach es X.env).findIdx? (·.1) = none := by rfl) : PG X (.Tuple es k pos) (gTup K n t) := by
  subst hK; exact pg_tup hc h hn hst
theorem ix_listK : IxR X (rIxL K) := by subst hK; exact ix_list
theorem len_seqK : CallR X (.builtin "len") (fun xs H Q => ∃ p ys, xs = [.ref p] ∧ (SqL K H p ys ∨ SqT K H p ys) ∧ Q (.int ys.length) H) := by subst hK; exact call_len_seq
end
end L2

namespace OL
open PySem L2

/-! ### what the program's defs answer, over plain lists -/
def hasF (x y : Int) : Bool := Builtin.bitAnd x y == y
def topF (n : Int) : Int := 1 * 2 ^ n.toNat - 1
def hold (bs : List Int) (lot : Int) (n : Nat) : List Int := ((List.range n).filter fun i => hasF (bs.getD i 0) lot).map fun (i : Nat) => (i : Int)
def holdF (bs : List Int) (lot : Int) : List Int := hold bs lot bs.length
def commonF (many : Int) (bs ps : List Int) : Int := ps.foldl (fun acc p => Builtin.bitAnd acc (bs.getD p.toNat 0)) (topF many)
def closeF (many : Int) (bs : List Int) (lot : Int) : Int := commonF many bs (holdF bs lot)
/-- the law's own closing -/
def closeL (many : Int) (bs : List Int) (lot : Int) : Int := bs.foldl (fun acc b => if hasF b lot then Builtin.bitAnd acc b else acc) (topF many)

/-! ### promises -/
def spHas : Sp := fun vs H Q _ => ∃ x y, vs = [.int x, .int y] ∧ Q (.bl (hasF x y)) H
def spTop : Sp := fun vs H Q _ => ∃ n : Int, vs = [.int n] ∧ 0 ≤ n ∧ n ≤ 64 ∧ Q (.int (topF n)) H
def spHold (K : PySem.W.Frag) : Sp := fun vs H Q _ => ∃ (b : Addr) (many : Int) (bs : List Int) (lot : Int), vs = [.ref b, .int lot] ∧ Bk K H b many bs ∧ bs.length ≤ 500 ∧
  ∀ (r : Addr) (H' : Hp), Same H H' → H r = none → H' r = some (.lst ((holdF bs lot).map V.int)) → Q (.ref r) H'
def spCommon (K : PySem.W.Frag) : Sp := fun vs H Q _ => ∃ (b p : Addr) (many : Int) (bs ps : List Int), vs = [.ref b, .ref p] ∧ Bk K H b many bs ∧ SqL K H p (ps.map V.int) ∧ 0 ≤ many ∧ many ≤ 64 ∧ (∀ q ∈ ps, 0 ≤ q ∧ q < bs.length) ∧ Q (.int (commonF many bs ps)) H
def spClose (K : PySem.W.Frag) (f : Int → List Int → Int → V) : Sp := fun vs H Q _ => ∃ (b : Addr) (many : Int) (bs : List Int) (lot : Int), vs = [.ref b, .int lot] ∧ Bk K H b many bs ∧ bs.length ≤ 500 ∧ 0 ≤ many ∧ many ≤ 64 ∧ ∀ H', Same H H' → Q (f many bs lot) H'
/-! ### books that a law draws -/
def InB (many : Int) (x : Int) : Prop := 0 ≤ x ∧ x < 2 ^ many.toNat
structure BookOk (many : Int) (bs : List Int) (most top : Int) : Prop where
  lo : 1 ≤ many
  hi : many ≤ most
  len : (bs.length : Int) ≤ top
  bas : ∀ x ∈ bs, InB many x
def spBook : Sp := fun vs H Q _ => ∃ (c most tp : Int), vs = [.int c, .int most, .int tp] ∧ 1 ≤ most ∧ most ≤ 12 ∧ 0 ≤ tp ∧ tp ≤ 20 ∧
  ∀ (b l : Addr) (H' : Hp) (many : Int) (bs : List Int), Same H H' → H b = none → H l = none → H' b = some (.tup [.int many, .ref l]) → H' l = some (.lst (bs.map V.int)) → BookOk many bs most tp → Q (.ref b) H'
def spWhole : Sp := fun vs H Q _ => ∃ i : Int, vs = [.int i] ∧ Q (.bl true) H
theorem getD_mem {ds : List Int} {i : Nat} (h : i < ds.length) : ds.getD i 0 ∈ ds := by
  rw [List.getD_eq_getElem?_getD, List.getElem?_eq_getElem h]; exact List.getElem_mem h
end OL

namespace OL
open PySem L2
/-- a test that looks and changes nothing -/
def PureT (t : TT) (σ : St) (H : Hp) (c : Bool) : Prop := ∀ Q : Bool → Hp → Prop, Q c H → t σ H Q
theorem mod_ok (a : Int) {m : Int} (h0 : 0 < m) (h1 : m < 2 ^ 64) : -(2 ^ 64) < a % m ∧ a % m < 2 ^ 64 := by
  have g0 := Int.emod_nonneg a (show m ≠ 0 by omega)
  have g1 := Int.emod_lt_of_pos a h0
  omega
def cellF (ns : List Int) (k : Int) : Int := ns.getD k.toNat 0
def spCell (K : PySem.W.Frag) : Sp := fun vs H Q _ => ∃ (a : Addr) (ns : List Int) (k : Int), vs = [.ref a, .int k] ∧ SqL K H a (ns.map V.int) ∧ 0 ≤ k ∧ Q (.int (cellF ns k)) H
def spDraws : Sp := fun vs H Q _ => ∃ (c m b : Int), vs = [.int c, .int m, .int b] ∧ 0 ≤ m ∧ m ≤ 100 ∧ 0 < b ∧ b < 1073741824 ∧
  ∀ (r : Addr) (H' : Hp) (ds : List Int), Same H H' → H r = none → H' r = some (.lst (ds.map V.int)) → (ds.length : Int) = m → (∀ d ∈ ds, 0 ≤ d ∧ d < b) → Q (.ref r) H'
end OL
namespace OL
open PySem L2
theorem atI_map {ns : List Int} {k : Int} (h0 : 0 ≤ k) (h : k < ((ns.map V.int).length : Int)) : atI (ns.map V.int) k = some (.int (ns.getD k.toNat 0)) := atI_int h0 (by rwa [List.length_map] at h)
end OL
namespace OL
open PySem L2
def spLaw (K : PySem.W.Frag) : Sp := fun vs H Q _ => ∃ (a : Addr) (ns : List Int), vs = [.ref a] ∧ SqL K H a (ns.map V.int) ∧ ns.length ≤ 63 ∧ ∀ H', Q (.bl true) H'
theorem yes_of {σ : St} {H : Hp} {A B : Hp → Prop} (h : A H) : tYes σ H fun b H3 => if b = true then A H3 else B H3 := by
  show if true = true then A H else B H
  exact iteT h
theorem seq_if {c : TT} {t u v : TS} {D : Ends} {σ : St} {H : Hp} {b : Bool} (h : LookT c σ H b) (k : ∀ H', Same H H' → if b = true then t { D with nx := v D } σ H' else u { D with nx := v D } σ H') : tSeq (tIfS c t u) v D σ H := h _ k
theorem one_if {c : TT} {t u : TS} {D : Ends} {σ : St} {H : Hp} {b : Bool} (h : LookT c σ H b) (k : ∀ H', Same H H' → if b = true then t D σ H' else u D σ H') : tIfS c t u D σ H := h _ k
end OL

namespace OL
open PySem L2
def countF (bs : List Int) (lot : Int) : Int := ((holdF bs lot).length : Int)
def spLot (K : PySem.W.Frag) : Sp := fun vs H Q _ => ∃ (b : Addr) (many : Int) (bs : List Int) (c : Int), vs = [.ref b, .int c] ∧ Bk K H b many bs ∧ (∀ x ∈ bs, InB many x) ∧ 0 ≤ many ∧ many ≤ 64 ∧ ∀ (H' : Hp) (lot : Int), Same H H' → InB many lot → Q (.int lot) H'
theorem InB.zero (many : Int) : InB many 0 := ⟨Int.le_refl 0, Int.pow_pos (by decide)⟩
end OL
namespace L2
open PySem PySem.Spec PyProof.Rows
end L2

namespace OL
open PySem L2
/-! ### lots as sets of things -/
def Th (x : Int) (i : Nat) : Prop := x.toNat.testBit i = true
theorem th_and {x y : Int} (hx : 0 ≤ x) (hy : 0 ≤ y) (i : Nat) : Th (Builtin.bitAnd x y) i ↔ Th x i ∧ Th y i := by
  unfold Th
  rw [PyProof.Rows.bitAnd_pp hx hy, Int.toNat_natCast, Nat.testBit_and, Bool.and_eq_true]
theorem th_ext {x y : Int} (hx : 0 ≤ x) (hy : 0 ≤ y) (h : ∀ i, Th x i ↔ Th y i) : x = y := by
  have e : x.toNat = y.toNat := Nat.eq_of_testBit_eq fun i => by
    have := h i
    unfold Th at this
    cases h1 : x.toNat.testBit i <;> cases h2 : y.toNat.testBit i <;> simp_all
  omega
theorem and_nn {x y : Int} (hx : 0 ≤ x) (hy : 0 ≤ y) : 0 ≤ Builtin.bitAnd x y := by
  rw [PyProof.Rows.bitAnd_pp hx hy]; exact Int.natCast_nonneg _
theorem has_iff {x y : Int} (hx : 0 ≤ x) (hy : 0 ≤ y) : hasF x y = true ↔ ∀ i, Th y i → Th x i := by
  unfold hasF
  rw [beq_iff_eq]
  constructor
  · intro h i hi
    rw [← h] at hi
    exact ((th_and hx hy i).mp hi).1
  · intro h
    exact th_ext (and_nn hx hy) hy fun i => by
      rw [th_and hx hy]
      exact ⟨fun z => z.2, fun z => ⟨h i z, z⟩⟩
theorem or_pp {x y : Int} (hx : 0 ≤ x) (hy : 0 ≤ y) : Builtin.bitOr x y = ((x.toNat ||| y.toNat : Nat) : Int) := by
  have nn : ∀ z : Int, 0 ≤ z → ¬ 0 ≤ Builtin.bitNot z := fun z hz => by unfold Builtin.bitNot; omega
  have bb : ∀ z : Int, Builtin.bitNot (Builtin.bitNot z) = z := fun z => by unfold Builtin.bitNot; omega
  unfold Builtin.bitOr
  rw [PyProof.Rows.bitAnd_nn (nn x hx) (nn y hy), bb, bb, bb]
theorem th_or {x y : Int} (hx : 0 ≤ x) (hy : 0 ≤ y) (i : Nat) : Th (Builtin.bitOr x y) i ↔ Th x i ∨ Th y i := by
  unfold Th
  rw [or_pp hx hy, Int.toNat_natCast, Nat.testBit_or, Bool.or_eq_true]
theorem or_nn {x y : Int} (hx : 0 ≤ x) (hy : 0 ≤ y) : 0 ≤ Builtin.bitOr x y := by rw [or_pp hx hy]; exact Int.natCast_nonneg _
/-! ### closings -/
structure BasOk (many : Int) (bs : List Int) : Prop where
  bas : ∀ x ∈ bs, InB many x
section
variable {many : Int} {bs : List Int} (hb : ∀ x ∈ bs, InB many x)
include hb
end
theorem filter_lt {α : Type} {p q : α → Bool} : ∀ {l : List α}, (∀ x ∈ l, p x = true → q x = true) → (∃ x ∈ l, q x = true ∧ p x = false) → (l.filter p).length < (l.filter q).length
  | [], _, ⟨x, hx, _⟩ => nomatch hx
  | y :: r, h, hx => by
    have hr : ∀ x ∈ r, p x = true → q x = true := fun x hx => h x (List.mem_cons_of_mem _ hx)
    have le : ∀ l : List α, (∀ x ∈ l, p x = true → q x = true) → (l.filter p).length ≤ (l.filter q).length := by
      intro l
      induction l with
      | nil => intro _; exact Nat.le_refl _
      | cons z s ih =>
        intro hz
        have i1 := ih fun x hx => hz x (List.mem_cons_of_mem _ hx)
        rw [List.filter_cons, List.filter_cons]
        cases hp : p z with
        | true => rw [hz z List.mem_cons_self hp]; simpa using i1
        | false =>
          cases q z with
          | true => simp; omega
          | false => simpa using i1
    obtain ⟨x, hm, h1, h2⟩ := hx
    rw [List.filter_cons, List.filter_cons]
    rcases List.mem_cons.mp hm with rfl | z
    · rw [h1, h2]
      have := le r hr
      simp; omega
    · have ih := filter_lt hr ⟨x, z, h1, h2⟩
      cases hp : p y with
      | true => rw [h y List.mem_cons_self hp]; simpa using ih
      | false =>
        cases q y with
        | true => simp; omega
        | false => simpa using ih
end OL
namespace OL
open PySem L2
end OL

namespace L2
open PySem PySem.Spec PyProof.Rows
section
variable {X : Cx}
/-! ### range(n) as a value, and its list -/
def rangeI (n : Nat) : List Int := (List.range n).map fun (i : Nat) => (i : Int)
end
/-! ### rows: lists of tuples of two ints -/
def Row (H : Hp) (x : V) (r : Int × Int) : Prop := ∃ p, x = .ref p ∧ H p = some (.tup [.int r.1, .int r.2])
def Rows (H : Hp) : List V → List (Int × Int) → Prop := Paired (Row H)
def TSame (H H' : Hp) : Prop := ∀ b xs, H b = some (.tup xs) → H' b = some (.tup xs)
theorem Same.t {H H' : Hp} (h : Same H H') : TSame H H' := fun b xs e => h b _ e
theorem TSame.trans {H H1 H2 : Hp} (a : TSame H H1) (b : TSame H1 H2) : TSame H H2 := fun c xs h => b c xs (a c xs h)
theorem tsame_upd {H : Hp} {l : Addr} {xs : List V} {o : HO} (h : H l = some (.lst xs)) : TSame H (upd H l o) := fun b ys e => by
  rw [upd_ne (ne_of e h (by intro z; cases z))]; exact e
theorem Row.same {H H' : Hp} {x : V} {r : Int × Int} (h : Row H x r) (S : TSame H H') : Row H' x r := by
  obtain ⟨p, rfl, e⟩ := h
  exact ⟨p, rfl, S _ _ e⟩
theorem Rows.same {H H' : Hp} {xs : List V} {rs : List (Int × Int)} (h : Rows H xs rs) (S : TSame H H') : Rows H' xs rs := Paired.imp' (fun _ _ z => z.same S) h
theorem Rows.length {H : Hp} {xs : List V} {rs : List (Int × Int)} (h : Rows H xs rs) : xs.length = rs.length := Paired.length h
theorem Rows.snoc {H : Hp} {xs : List V} {rs : List (Int × Int)} {x : V} {r : Int × Int} (h : Rows H xs rs) (z : Row H x r) : Rows H (xs ++ [x]) (rs ++ [r]) := Paired.snoc h z
def dRow (r : Int × Int) : PyData := .tuple [.int r.1, .int r.2]
theorem Rows.dr {K : PySem.W.Frag} {H : Hp} : ∀ {xs : List V} {rs : List (Int × Int)}, Rows H xs rs → DRs K H xs (rs.map dRow)
  | _, _, .nil => .nil
  | _, _, .cons h t => by
    obtain ⟨p, rfl, e⟩ := h
    exact .cons (.tup (SqT.of e) (.cons (.int _) (.cons (.int _) .nil))) (Rows.dr t)
/-! ### comprehensions that come to rows -/
def CPR (H1 : Hp) (R : Nat → List (Int × Int)) : Nat → List V → Hp → Prop := fun i ys H => Same H1 H ∧ Rows H ys (R i)
section
variable {n i : Nat} {acc : Addr} {H1 H H' : Hp} {R : Nat → List (Int × Int)} {ys : List V} {p : Addr} {r : Int × Int}
end
section
variable {K : PySem.W.Frag} {m : Nat} {js : List Nat} {g : TG} {c : TT} {te : TE} {σ : St} {H1 : Hp} {Q : VK}
end
end L2

namespace OL
open PySem L2
def oftenV (many : Int) (bs : List Int) (least lot : Int) : V := if countF bs lot < least then .non else .int (closeF many bs lot)
def isRow (many : Int) (bs : List Int) (least lot : Int) : Bool := decide (least ≤ countF bs lot) && (closeF many bs lot == lot)
def rowsU (many : Int) (bs : List Int) (least : Int) (n : Nat) : List (Int × Int) := ((List.range n).filter fun (i : Nat) => isRow many bs least (i : Int)).map fun (i : Nat) => ((i : Int), countF bs (i : Int))
def rowsF (many : Int) (bs : List Int) (least : Int) : List (Int × Int) := rowsU many bs least (2 ^ many.toNat)
def spAll : Sp := fun vs H Q _ => ∃ n : Int, vs = [.int n] ∧ 0 ≤ n ∧ n ≤ 12 ∧ ∀ (r : Addr) (H' : Hp), Same H H' → H r = none → H' r = some (.lst ((rangeI (2 ^ n.toNat)).map V.int)) → Q (.ref r) H'
def spOften (K : PySem.W.Frag) : Sp := fun vs H Q _ => ∃ (b : Addr) (many : Int) (bs : List Int) (least lot : Int), vs = [.ref b, .int least, .int lot] ∧ Bk K H b many bs ∧ bs.length ≤ 500 ∧ 0 ≤ many ∧ many ≤ 64 ∧ ∀ H', Same H H' → Q (oftenV many bs least lot) H'
def spClosed (K : PySem.W.Frag) : Sp := fun vs H Q _ => ∃ (b : Addr) (many : Int) (bs : List Int) (least : Int), vs = [.ref b, .int least] ∧ Bk K H b many bs ∧ bs.length ≤ 500 ∧ 0 ≤ many ∧ many ≤ 12 ∧ ∀ (r : Addr) (xs : List V) (H' : Hp), Same H H' → H r = none → H' r = some (.lst xs) → Rows H' xs (rowsF many bs least) → Q (.ref r) H'
theorem pow12 {n : Int} (h : n ≤ 12) : (2 : Nat) ^ n.toNat ≤ 4096 := by
  have : (2 : Nat) ^ n.toNat ≤ 2 ^ 12 := Nat.pow_le_pow_right (by decide) (by omega)
  exact this
theorem pow_cast (n : Nat) : (2 : Int) ^ n = ((2 ^ n : Nat) : Int) := by push_cast; rfl
theorem small4096 {n : Nat} (h : n ≤ 5000) : n < sizeLine := Nat.lt_of_le_of_lt h (by decide)
end OL
namespace L2
open PySem PySem.Spec PyProof.Rows
theorem Rows.get {H : Hp} : ∀ {xs : List V} {rs : List (Int × Int)} {i : Nat} {x : V}, Rows H xs rs → xs[i]? = some x → ∃ r, Row H x r
  | _, _, _, _, .nil, e => by simp at e
  | _, _, 0, _, .cons r _, e => by simp at e; subst e; exact ⟨_, r⟩
  | _, _, i + 1, x, .cons _ t, e => Rows.get (i := i) (x := x) t (by simpa using e)
end L2
namespace OL
open PySem L2
def lotsU (many : Int) (bs : List Int) (n : Nat) : List Int := ((List.range n).filter fun (i : Nat) => closeF many bs (i : Int) == (i : Int)).map fun (i : Nat) => (i : Int)
/-- one entry of an early list of rows -/
def PairR (H : Hp) (e : Addr) (x : V) : Prop := ∃ (p t d : Addr) (xs ys : List V) (rs : List (Int × Int)), x = .ref p ∧ t ≠ e ∧ d ≠ e ∧ H p = some (.tup [.ref t, .ref d]) ∧ H t = some (.lst xs) ∧ H d = some (.lst ys) ∧ Rows H xs rs ∧ Rows H ys rs
theorem PairR.b {H H' : Hp} {e : Addr} {x : V} (h : PairR H e x) (S : SameB e H H') (T : TSame H H') : PairR H' e x := by
  obtain ⟨p, t, d, xs, ys, rs, rfl, h2, h3, h4, h5, h6, h7, h8⟩ := h
  exact ⟨p, t, d, xs, ys, rs, rfl, h2, h3, T _ _ h4, S _ _ h2 h5, S _ _ h3 h6, h7.same T, h8.same T⟩
end OL

namespace OL
open PySem L2
theorem SameB.t {l : Addr} {xs : List V} {H H' : Hp} (S : SameB l H H') (h : H l = some (.lst xs)) : TSame H H' := fun b ys e => S b _ (ne_of e h (by intro z; cases z)) e
def spMixed : Sp := fun vs H Q _ => ∃ (c k : Int), vs = [.int c, .int k] ∧ ∀ y : Int, 0 ≤ y → Q (.int y) H
def spPile (K : PySem.W.Frag) : Sp := fun vs H Q _ => ∃ (a : Addr) (ns : List Int) (k : Int), vs = [.ref a, .int k] ∧ SqL K H a (ns.map V.int) ∧ 0 ≤ k ∧ ∀ (r : Addr) (H' : Hp) (x y z : Int), Same H H' → H r = none → H' r = some (.lst [.int x, .int y, .int z]) → Q (.ref r) H'
def spTake : Sp := fun vs H Q _ => ∃ (p : Addr) (m x y z : Int), vs = [.ref p, .int m] ∧ 0 < m ∧ m < 1073741824 ∧ H p = some (.lst [.int x, .int y, .int z]) ∧ ∀ (d x' y' z' : Int) (H' : Hp), 0 ≤ d → d < m → SameB p H H' → H' p = some (.lst [.int x', .int y', .int z']) → Q (.int d) H'
structure BookP (many : Int) (bs : List Int) : Prop where
  lo : 1 ≤ many
  hi : many ≤ 8
  len : bs.length ≤ 14
  bas : ∀ x ∈ bs, InB many x
def spBookP (K : PySem.W.Frag) : Sp := fun vs H Q _ => ∃ (a : Addr) (ns : List Int) (k : Int), vs = [.ref a, .int k] ∧ SqL K H a (ns.map V.int) ∧ 0 ≤ k ∧
  ∀ (b l : Addr) (H' : Hp) (many : Int) (bs : List Int), Same H H' → H b = none → H l = none → H' b = some (.tup [.int many, .ref l]) → H' l = some (.lst (bs.map V.int)) → BookP many bs → Q (.ref b) H'
end OL

namespace OL
open PySem L2
def spMeet : Sp := fun vs H Q _ => ∃ x y : Int, vs = [.int x, .int y] ∧ Q (.int (Builtin.bitAnd x y)) H
def spJoin (K : PySem.W.Frag) : Sp := fun vs H Q _ => ∃ (b : Addr) (many : Int) (bs : List Int) (x y : Int), vs = [.ref b, .int x, .int y] ∧ Bk K H b many bs ∧ bs.length ≤ 500 ∧ 0 ≤ many ∧ many ≤ 64 ∧ ∀ H', Same H H' → Q (.int (closeF many bs (Builtin.bitOr x y))) H'
def spRight (K : PySem.W.Frag) : Sp := fun vs H Q _ => ∃ (b : Addr) (many : Int) (bs : List Int) (x y : Int), vs = [.ref b, .int x, .int y] ∧ Bk K H b many bs ∧ bs.length ≤ 500 ∧ 0 ≤ many ∧ many ≤ 12 ∧ InB many x ∧ InB many y ∧ ∀ H', Same H H' → Q (.bl true) H'
def spCRight (K : PySem.W.Frag) : Sp := fun vs H Q _ => ∃ (b : Addr) (many : Int) (bs : List Int) (x y : Int), vs = [.ref b, .int x, .int y] ∧ Bk K H b many bs ∧ bs.length ≤ 500 ∧ 0 ≤ many ∧ many ≤ 12 ∧ (∀ x ∈ bs, InB many x) ∧ InB many x ∧ InB many y ∧ closeF many bs x = x ∧ closeF many bs y = y ∧ ∀ H', Same H H' → Q (.bl true) H'
section
variable {many : Int} {bs : List Int} (hb : ∀ x ∈ bs, InB many x)
include hb
end
end OL

namespace L2
open PySem PySem.Spec PyProof.Rows
section
variable {X : Cx}
/-- a // b, b below 2^64 -/
theorem op_fdivB : OpR X (binaryOp .FloorDiv) (rI (fun _ j => 0 < j ∧ j < 2 ^ 64) fun i j => .int (i / j)) := opI fun i j _ _ _ _ _ hc q => by
  have h1 : (0 : Int) < j := hc.1
  have h2 : j < 2 ^ 64 := hc.2
  refine floordiv_int (by omega) (by rw [Int.fdiv_eq_ediv_of_nonneg i (by omega)]; exact q) (.inl (PyProof.noPylong_of_log2 ?_))
  have h3 : j.natAbs < 2 ^ 64 := by omega
  have h4 : j.natAbs ≠ 0 := by omega
  have := (Nat.log2_lt h4).mpr h3
  omega
end
section
variable {K : PySem.W.Frag} {m : Nat} {js : List Nat} {g : TG} {c : TT} {te : TE} {σ : St} {H1 : Hp} {Q : VK}
/-- a comprehension over a range whose turns change what they say -/
theorem comp_rangeG {lo : Int} {n : Nat} (Pv : Addr → Nat → List V → Hp → Prop) (h0 : ∀ acc, H1 acc = none → Pv acc 0 [] (upd H1 acc (.lst [])))
    (turn : ∀ acc i ys H, H1 acc = none → i < n → H acc = some (.lst ys) → Pv acc i ys H → g (.int (lo + (i : Nat))) (pick m js σ) H fun σ2 H2 => Wk (pick m js σ) σ2 ∧ c σ2 H2 fun b H3 => if b = true then te σ2 H3 fun y H4 => CPut n acc (Pv acc) i y H4 else CSkip n acc (Pv acc) i H3)
    (hQ : ∀ acc ys H, H1 acc = none → H acc = some (.lst ys) → Pv acc n ys H → Q (.ref acc) H) : tCompR m js g c te (Itr lo n) σ H1 Q := by
  intro acc hacc
  refine ⟨CW n acc (Pv acc), ⟨_, rfl, Nat.zero_le _, [], upd_same, h0 acc hacc⟩, ?_⟩
  rintro i m' H ⟨rfl, hi, ys, hy, p⟩
  by_cases hlt : i < n
  · refine .inr ⟨hlt, fun x H' y => ?_⟩
    obtain ⟨e, y⟩ := y
    subst e y
    exact turn acc i ys _ hacc hlt hy p
  · have e : i = n := by omega
    subst e
    exact .inl ⟨Nat.le_refl _, hQ acc ys H hacc hy p⟩
theorem cputG {n i : Nat} {acc : Addr} {Pv : Nat → List V → Hp → Prop} {H : Hp} {ys : List V} {y : V} (hlt : i < n) (h : H acc = some (.lst ys)) (hz : ys.length < sizeLine) (p : Pv (i + 1) (ys ++ [y]) (upd H acc (.lst (ys ++ [y])))) : CPut n acc Pv i y H :=
  ⟨ys, h, hz, n - (i + 1), by omega, rfl, hlt, ys ++ [y], upd_same, p⟩
end
end L2

namespace OL
open PySem L2
def colU (bs : List Int) (lot : Int) : Nat → Int
  | 0 => 0
  | n + 1 => if hasF (bs.getD n 0) lot then colU bs lot n + 1 * 2 ^ n else colU bs lot n
def colF (bs : List Int) (lot : Int) : Int := colU bs lot bs.length
def lotOf (ps : List Int) : Int := ps.foldl (fun acc p => Builtin.bitOr acc (1 * 2 ^ p.toNat)) 0
def colsU (bs : List Int) (n : Nat) : List Int := (List.range n).map fun (t : Nat) => colF bs (1 * 2 ^ t)
def spWith : Sp := fun vs H Q _ => ∃ (lot t : Int), vs = [.int lot, .int t] ∧ 0 ≤ t ∧ t ≤ 1000 ∧ Q (.int (Builtin.bitOr lot (1 * 2 ^ t.toNat))) H
def spLotOf (K : PySem.W.Frag) : Sp := fun vs H Q _ => ∃ (p : Addr) (ps : List Int), vs = [.ref p] ∧ SqL K H p (ps.map V.int) ∧ (∀ q ∈ ps, 0 ≤ q ∧ q ≤ 1000) ∧ Q (.int (lotOf ps)) H
def spCols (K : PySem.W.Frag) : Sp := fun vs H Q _ => ∃ (b : Addr) (many : Int) (bs : List Int), vs = [.ref b] ∧ Bk K H b many bs ∧ bs.length ≤ 500 ∧ 0 ≤ many ∧ many ≤ 64 ∧ ∀ (r : Addr) (H' : Hp), Same H H' → H r = none → H' r = some (.lst ((colsU bs many.toNat).map V.int)) → Q (.ref r) H'
def spPop62 : Sp := fun vs H Q _ => ∃ (l : Addr) (ds : List Int), vs = [.ref l] ∧ H l = some (.lst (ds.map V.int)) ∧ ∀ (d : Int) (ds' : List Int) (H' : Hp), SameB l H H' → H' l = some (.lst (ds'.map V.int)) → Q (.int d) H'
def spDraws62 (K : PySem.W.Frag) : Sp := fun vs H Q _ => ∃ (a : Addr) (ns : List Int) (tn mn : Int), vs = [.ref a, .int tn, .int mn] ∧ SqL K H a (ns.map V.int) ∧ ns.length ≤ 63 ∧ 0 ≤ tn ∧ tn ≤ 100 ∧ 0 ≤ mn ∧ mn ≤ 100 ∧ ∀ (r : Addr) (ds : List Int) (H' : Hp), Same H H' → H r = none → H' r = some (.lst (ds.map V.int)) → Q (.ref r) H'
def spBook62 : Sp := fun vs H Q _ => ∃ (l : Addr) (ds : List Int) (most : Int), vs = [.ref l, .int most] ∧ H l = some (.lst (ds.map V.int)) ∧ 1 ≤ most ∧ most ≤ 12 ∧
  ∀ (b bl : Addr) (many : Int) (bs ds' : List Int) (H' : Hp), SameB l H H' → H b = none → H bl = none → H' b = some (.tup [.int many, .ref bl]) → H' bl = some (.lst (bs.map V.int)) → H' l = some (.lst (ds'.map V.int)) → BookOk many bs most 24 → Q (.ref b) H'
def spCopy (K : PySem.W.Frag) : Sp := fun vs H Q _ => ∃ (b : Addr) (many : Int) (bs : List Int), vs = [.ref b] ∧ Bk K H b many bs ∧ ∀ (c cl : Addr) (H' : Hp), Same H H' → H c = none → H cl = none → H' c = some (.tup [.int many, .ref cl]) → H' cl = some (.lst (bs.map V.int)) → Q (.ref c) H'
end OL

namespace L2
open PySem PySem.Spec PyProof.Rows
end L2
namespace OL
open PySem L2
def upto (p : Int → Bool) (n : Nat) : List Int := ((List.range n).filter fun (i : Nat) => p (i : Int)).map fun (i : Nat) => (i : Int)
def thingsF (lot : Int) : List Int := upto (fun t => hasF lot (1 * 2 ^ t.toNat)) (Builtin.Int.intBits lot)
def fewF (lot : Int) : List Int := (thingsF lot).map fun t => lot - 1 * 2 ^ t.toNat
def leastP (bs : List Int) (lot : Int) : Bool := (fewF lot).all fun f => !decide (countF bs f ≤ countF bs lot)
def hitL (bs : List Int) (lot : Int) (t : Nat) : Bool := (Builtin.bitAnd (lot / 2 ^ t) 1 == 1) && (countF bs (lot - 1 * 2 ^ t) == countF bs lot)
def leastL (many : Int) (bs : List Int) (lot : Int) : Bool := (List.range many.toNat).all fun t => !hitL bs lot t
theorem bit_iff {lot : Int} (h : 0 ≤ lot) (t : Nat) : (Builtin.bitAnd (lot / 2 ^ t) 1 == 1) = true ↔ Th lot t := by
  rw [PyProof.Rows.bitAnd_m1, beq_iff_eq]
  unfold Th
  rw [Nat.testBit_eq_decide_div_mod_eq, decide_eq_true_eq, pow_cast]
  have e : lot = ((lot.toNat : Nat) : Int) := by omega
  rw [e, Int.toNat_natCast]
  constructor
  · intro z
    have : ((lot.toNat / 2 ^ t % 2 : Nat) : Int) = 1 := by push_cast; exact_mod_cast z
    omega
  · intro z
    have : ((lot.toNat / 2 ^ t % 2 : Nat) : Int) = 1 := by omega
    exact_mod_cast this
end OL
namespace OL
open PySem L2
def Sm (x : Int) : Prop := 0 ≤ x ∧ x < 4096
def withinF (lot : Int) : List Int := upto (fun i => hasF lot i) (lot + 1).toNat
def kinF (many : Int) (bs : List Int) (lot : Int) : List Int := (withinF lot).filter fun x => closeF many bs x == lot
def leastLF (many : Int) (bs : List Int) (lot : Int) : List Int := (kinF many bs lot).filter fun x => leastP bs x
def spHasT : Sp := fun vs H Q _ => ∃ lot t : Int, vs = [.int lot, .int t] ∧ 0 ≤ t ∧ t ≤ 64 ∧ Q (.bl (hasF lot (1 * 2 ^ t.toNat))) H
def spInts (g : Int → List Int) : Sp := fun vs H Q _ => ∃ lot : Int, vs = [.int lot] ∧ Sm lot ∧ ∀ (r : Addr) (H' : Hp), Same H H' → H r = none → H' r = some (.lst ((g lot).map V.int)) → Q (.ref r) H'
def spIsL (K : PySem.W.Frag) (g : Int → List Int → Int → Bool) : Sp := fun vs H Q _ => ∃ (b : Addr) (many : Int) (bs : List Int) (lot : Int), vs = [.ref b, .int lot] ∧ Bk K H b many bs ∧ bs.length ≤ 500 ∧ 0 ≤ many ∧ many ≤ 12 ∧ Sm lot ∧ ∀ H', Same H H' → Q (.bl (g many bs lot)) H'
def spBInts (K : PySem.W.Frag) (g : Int → List Int → Int → List Int) : Sp := fun vs H Q _ => ∃ (b : Addr) (many : Int) (bs : List Int) (lot : Int), vs = [.ref b, .int lot] ∧ Bk K H b many bs ∧ bs.length ≤ 500 ∧ 0 ≤ many ∧ many ≤ 12 ∧ Sm lot ∧ ∀ (r : Addr) (H' : Hp), Same H H' → H r = none → H' r = some (.lst ((g many bs lot).map V.int)) → Q (.ref r) H'
end OL
namespace OL
open PySem L2
def PairI (H : Hp) (e : Addr) (x : V) : Prop := ∃ (p t d : Addr) (ns : List Int), x = .ref p ∧ t ≠ e ∧ d ≠ e ∧ H p = some (.tup [.ref t, .ref d]) ∧ H t = some (.lst (ns.map V.int)) ∧ H d = some (.lst (ns.map V.int))
theorem PairI.b {H H' : Hp} {e : Addr} {x : V} (h : PairI H e x) (S : SameB e H H') (T : TSame H H') : PairI H' e x := by
  obtain ⟨p, t, d, ns, rfl, h2, h3, h4, h5, h6⟩ := h
  exact ⟨p, t, d, ns, rfl, h2, h3, T _ _ h4, S _ _ h2 h5, S _ _ h3 h6⟩
def spWholes : Sp := fun vs H Q _ => ∃ (f d : Addr) (ns : List Int), vs = [.ref f, .ref d] ∧ H f = some (.lst (ns.map V.int)) ∧ H d = some (.lst (ns.map V.int)) ∧ ∀ H', Same H H' → Q (.bl true) H'
def dueD (many : Int) (bs : List Int) (c i : Int) : Bool := (Builtin.bitAnd i c == i) && ((closeL many bs i == c) && leastL many bs i)
end OL

namespace L2
open PySem PySem.Spec PyProof.Rows
section
variable {prog : Program} {w : World} {A : Around} {E : Value → Shared → Prop} {s : Shared}
/-! ### a list of two taken apart -/
end
section
variable {X : Cx}
def gLst2 (K : PySem.W.Frag) (t : TGs) : TG := fun v σ H Q => ∃ a x y, v = .ref a ∧ SqL K H a [x, y] ∧ t [x, y] σ H Q
/-! ### for .. in enumerate(list) -/
theorem for_enum {K : PySem.W.Frag} {a : Addr} {xs : List V} {g : TG} {tb : TS} {D : Ends} {σ : St} {H : Hp} (Pv : Nat → St → Hp → Prop) (h0 : Pv 0 σ H) (hl : ∀ i σ H, i ≤ xs.length → Pv i σ H → SqL K H a xs)
    (hs : ∀ i x p σ H, xs[i]? = some x → Pv i σ H → H p = none → g (.ref p) σ (upd H p (.tup [.int (i : Nat), x])) fun σ2 H2 => tb { D with nx := Pv (i + 1), ct := Pv (i + 1), bk := D.nx } σ2 H2) (hd : ∀ σ H, Pv xs.length σ H → D.nx σ H) :
    ∃ W : Nat → Nat → St → Hp → Prop, (∃ m, W 0 m σ H) ∧ ∀ i m σ H, W i m σ H →
      ((Ite K a).stop i H ∧ D.nx σ H) ∨ ((Ite K a).go i H ∧ ∃ N : St → Hp → Prop, (∀ σ' H', N σ' H' → ∃ m', m' < m ∧ W (i + 1) m' σ' H') ∧ ∀ x H', (Ite K a).yld i H x H' → g x σ H' fun σ2 H2 => tb { D with nx := N, ct := N, bk := D.nx } σ2 H2) := by
  refine ⟨fun i m σ H => m = xs.length - i ∧ i ≤ xs.length ∧ Pv i σ H, ⟨xs.length, by simp, Nat.zero_le _, h0⟩, ?_⟩
  rintro i m σ H ⟨rfl, hi, p⟩
  have q := hl i σ H hi p
  by_cases hlt : i < xs.length
  · refine .inr ⟨⟨xs, xs[i], q, by simp [hlt]⟩, Pv (i + 1), fun σ' H' p' => ⟨xs.length - (i + 1), by omega, rfl, hlt, p'⟩, fun x H' y => ?_⟩
    obtain ⟨pp, v, e1, hp, e2, y⟩ := y
    subst e1 e2
    exact hs i v pp σ _ (y xs q) p hp
  · have e : i = xs.length := by omega
    subst e
    exact .inl ⟨⟨xs, q, Nat.le_refl _⟩, hd σ H p⟩
end
end L2

namespace L2
open PySem PySem.Spec PyProof.Rows
theorem Rows.getD {H : Hp} : ∀ {xs : List V} {rs : List (Int × Int)} {i : Nat} {x : V}, Rows H xs rs → xs[i]? = some x → Row H x (rs.getD i (0, 0))
  | _, _, _, _, .nil, e => by simp at e
  | _, _, 0, _, .cons r _, e => by simp at e; subst e; exact r
  | _, _, i + 1, x, .cons _ t, e => by
    have := Rows.getD (i := i) (x := x) t (by simpa using e)
    simpa using this
theorem Rows.at {H : Hp} {xs : List V} {rs : List (Int × Int)} {i : Nat} (h : Rows H xs rs) (hi : i < rs.length) : ∃ p, xs[i]? = some (.ref p) ∧ H p = some (.tup [.int (rs.getD i (0, 0)).1, .int (rs.getD i (0, 0)).2]) := by
  have hl := h.length
  have e : xs[i]? = some xs[i] := List.getElem?_eq_getElem (by omega)
  obtain ⟨p, e2, hp⟩ := Rows.getD h e
  exact ⟨p, by rw [e, e2], hp⟩
end L2
namespace OL
open PySem L2
def takeB (lot : Int) (r : Int × Int) : Bool := hasF lot r.1 && !hasF lot r.2
def ptF (rs : List (Int × Int)) (lot : Int) : Option Nat := rs.findIdx? (takeB lot)
def ptV : Option Nat → V
  | none => .non
  | some i => .int (i : Nat)
def unsat (rs : List (Int × Int)) (lot : Int) : Nat := (rs.filter fun r => !hasF lot r.2).length
def sndF (rs : List (Int × Int)) (i : Nat) : Int := (rs.getD i (0, 0)).2
def bF (rs : List (Int × Int)) : Nat → Int → Int × List Int
  | 0, lot => (lot, [])
  | n + 1, lot => match ptF rs lot with
    | none => (lot, [])
    | some i => ((bF rs n (Builtin.bitOr lot (sndF rs i))).1, ((i : Nat) : Int) :: (bF rs n (Builtin.bitOr lot (sndF rs i))).2)
def NN (rs : List (Int × Int)) : Prop := ∀ r ∈ rs, 0 ≤ r.1 ∧ 0 ≤ r.2
section
variable {rs : List (Int × Int)} {lot : Int} {i n : Nat}
theorem bF_some (h : ptF rs lot = some i) : bF rs (n + 1) lot = ((bF rs n (Builtin.bitOr lot (sndF rs i))).1, ((i : Nat) : Int) :: (bF rs n (Builtin.bitOr lot (sndF rs i))).2) := by
  show (match ptF rs lot with | none => _ | some i => _) = _; rw [h]
theorem getD_at (hi : i < rs.length) : rs.getD i (0, 0) = rs[i] := by rw [List.getD_eq_getElem?_getD, List.getElem?_eq_getElem hi]; rfl
theorem pt_get (h : ptF rs lot = some i) : i < rs.length ∧ takeB lot (rs.getD i (0, 0)) = true := by
  unfold ptF at h
  rw [List.findIdx?_eq_some_iff_getElem] at h
  obtain ⟨hi, h1, _⟩ := h
  exact ⟨hi, by rw [getD_at hi]; exact h1⟩
theorem snd_nn (hr : NN rs) (hi : i < rs.length) : 0 ≤ sndF rs i := by
  unfold sndF; rw [getD_at hi]; exact (hr _ (List.getElem_mem hi)).2
theorem unsat_lt (hr : NN rs) (hl : 0 ≤ lot) (h : ptF rs lot = some i) : unsat rs (Builtin.bitOr lot (sndF rs i)) < unsat rs lot := by
  obtain ⟨hi, ht⟩ := pt_get h
  have hs := snd_nn hr hi
  have ho := or_nn hl hs
  unfold unsat
  refine filter_lt (fun x hx hp => ?_) ⟨rs[i], List.getElem_mem hi, ?_, ?_⟩
  · have hx0 := (hr x hx).2
    rw [Bool.not_eq_true'] at hp ⊢
    cases e : hasF lot x.2 with
    | false => rfl
    | true =>
      rw [has_iff hl hx0] at e
      rw [← hp]
      exact ((has_iff ho hx0).mpr fun j hj => (th_or hl hs j).mpr (.inl (e j hj))).symm
  · have := (Bool.and_eq_true_iff.mp ht).2
    rw [getD_at hi] at this
    exact this
  · have hx0 := (hr _ (List.getElem_mem hi)).2
    have : hasF (Builtin.bitOr lot (sndF rs i)) rs[i].2 = true := (has_iff ho hx0).mpr fun j hj => (th_or hl hs j).mpr (.inr (by unfold sndF; rw [getD_at hi]; exact hj))
    rw [this]; rfl
structure Run (rs : List (Int × Int)) (lot0 : Int) (m : Nat) (come : Int) (st : List Int) : Prop where
  un : unsat rs come ≤ m
  nn : 0 ≤ come
  eq : bF rs rs.length lot0 = ((bF rs m come).1, st ++ (bF rs m come).2)
  ln : st.length + m ≤ rs.length
theorem Run.step (hr : NN rs) {lot0 : Int} {m : Nat} {come : Int} {st : List Int} (R : Run rs lot0 m come st) (h : ptF rs come = some i) : ∃ m', Run rs lot0 m' (Builtin.bitOr come (sndF rs i)) (st ++ [((i : Nat) : Int)]) := by
  have hu := unsat_lt hr R.nn h
  have := R.un
  obtain ⟨m', rfl⟩ : ∃ m', m = m' + 1 := ⟨m - 1, by omega⟩
  refine ⟨m', by omega, or_nn R.nn (snd_nn hr (pt_get h).1), ?_, ?_⟩
  · rw [R.eq, bF_some h]
    simp
  · have := R.ln
    rw [List.length_append]; show st.length + 1 + m' ≤ _; omega
end
def RL (H : Hp) (a : Addr) (rs : List (Int × Int)) : Prop := ∃ xs, H a = some (.lst xs) ∧ Rows H xs rs
theorem RL.same {H H' : Hp} {a : Addr} {rs : List (Int × Int)} (h : RL H a rs) (S : Same H H') : RL H' a rs := by
  obtain ⟨xs, h1, h2⟩ := h
  exact ⟨xs, S _ _ h1, h2.same S.t⟩
theorem RL.dr {K : PySem.W.Frag} {H : Hp} {a : Addr} {rs : List (Int × Int)} (h : RL H a rs) : DR K H (.ref a) (.list (rs.map dRow)) := by
  obtain ⟨xs, h1, h2⟩ := h
  exact .lst (SqL.of h1) h2.dr
def spPlace : Sp := fun vs H Q _ => ∃ (a : Addr) (rs : List (Int × Int)) (lot : Int), vs = [.ref a, .int lot] ∧ RL H a rs ∧ ∀ H', Same H H' → Q (ptV (ptF rs lot)) H'
def spBrought : Sp := fun vs H Q _ => ∃ (a : Addr) (rs : List (Int × Int)) (lot : Int), vs = [.ref a, .int lot] ∧ RL H a rs ∧ rs.length ≤ 100 ∧ NN rs ∧ 0 ≤ lot ∧
  ∀ (t s : Addr) (H' : Hp), Same H H' → H t = none → H s = none → H' t = some (.tup [.int (bF rs rs.length lot).1, .ref s]) → H' s = some (.lst ((bF rs rs.length lot).2.map V.int)) → Q (.ref t) H'
def spRulesL : Sp := fun vs H Q _ => ∃ (c many most : Int), vs = [.int c, .int many, .int most] ∧ 0 ≤ many ∧ many ≤ 12 ∧ 0 ≤ most ∧ most ≤ 20 ∧
  ∀ (r : Addr) (rs : List (Int × Int)) (H' : Hp), Same H H' → H r = none → RL H' r rs → (rs.length : Int) ≤ most → (∀ x ∈ rs, Sm x.1 ∧ Sm x.2) → Q (.ref r) H'
def shR (f : Int) (r : Int × Int) : Int × Int := (r.1 * 2 ^ f.toNat, r.2 * 2 ^ f.toNat)
/-- an early one: two tuples of a lot and steps -/
def PairB (H : Hp) (e : Addr) (x : V) : Prop := ∃ (p t d s1 s2 : Addr) (c : Int) (ns : List Int), x = .ref p ∧ s1 ≠ e ∧ s2 ≠ e ∧ H p = some (.tup [.ref t, .ref d]) ∧ H t = some (.tup [.int c, .ref s1]) ∧ H d = some (.tup [.int c, .ref s2]) ∧ H s1 = some (.lst (ns.map V.int)) ∧ H s2 = some (.lst (ns.map V.int))
theorem PairB.b {H H' : Hp} {e : Addr} {x : V} (h : PairB H e x) (S : SameB e H H') (T : TSame H H') : PairB H' e x := by
  obtain ⟨p, t, d, s1, s2, c, ns, rfl, n1, n2, h1, h2, h3, h4, h5⟩ := h
  exact ⟨p, t, d, s1, s2, c, ns, rfl, n1, n2, T _ _ h1, T _ _ h2, T _ _ h3, S _ _ n1 h4, S _ _ n2 h5⟩
def spWithin : Sp := fun vs H Q _ => ∃ x y : Int, vs = [.int x, .int y] ∧ Q (.bl (Builtin.bitAnd x y == x)) H
end OL

namespace L2
open PySem PySem.Spec PyProof.Rows
/-! ### list(reversed(x)) of a list -/
section
variable {prog : Program} {w : World} {A : Around} {s : Shared} {R : Result → Shared → Prop} {it : Addr} {fp wr : List Addr} {GG : Array GenState → Array GenState → Prop} {n : Nat} {PP : Nat → Value → Prop} {St : Nat → Shared → Prop}
end
section
variable {prog : Program} {w : World} {A : Around} {E : Value → Shared → Prop} {s : Shared}
end
section
variable {X : Cx}
/-- list(reversed(x)), x a list -/
def tLRev (K : PySem.W.Frag) (ta : TA) : TE := fun σ H Q => ta σ H fun vs H1 => ∃ a xs, vs = [.ref a] ∧ SqL K H1 a xs ∧ ∀ l, H1 l = none → Q (.ref l) (upd H1 l (.lst xs.reverse))
/-! ### for .. in reversed(list) -/
def Itv (K : PySem.W.Frag) (a : Addr) (n : Nat) : It := ⟨fun i H => i < n ∧ ∃ xs, SqL K H a xs ∧ xs.length = n, fun i H x H' => H' = H ∧ ∀ xs, SqL K H a xs → xs[n - 1 - i]? = some x, fun i _ => i = n⟩
def iRev (K : PySem.W.Frag) (ta : TA) : TI := fun σ H R => ta σ H fun vs H1 => ∃ a xs, vs = [.ref a] ∧ SqL K H1 a xs ∧ R (Itv K a xs.length) H1
end
end L2

namespace OL
open PySem L2
def overF (x y : Int) : Bool := (!decide (x = y)) && hasF x y
def nextL (ls : List Int) (x y : Int) : Bool := overF x y && (ls.filter fun m => overF x m && overF m y).isEmpty
def keepB (ls : List Int) (T : Int → Bool) (R : Int → Int → Bool) (x : Int) : Bool := T x && !(ls.any fun m => R x m && T m)
theorem has_le {x y : Int} (hx : 0 ≤ x) (hy : 0 ≤ y) (h : hasF x y = true) : y ≤ x := by
  unfold hasF at h
  have e := beq_iff_eq.mp h
  rw [PyProof.Rows.bitAnd_pp hx hy] at e
  have : x.toNat &&& y.toNat ≤ x.toNat := Nat.and_le_left
  omega
theorem over_lt {x y : Int} (hx : 0 ≤ x) (hy : 0 ≤ y) (h : overF x y = true) : y < x := by
  unfold overF at h
  have h1 := (Bool.and_eq_true_iff.mp h).1
  have h2 := has_le hx hy (Bool.and_eq_true_iff.mp h).2
  have h3 : x ≠ y := by simpa using h1
  omega
structure Rise (ls : List Int) : Prop where
  up : ls.Pairwise (· < ·)
  nn : ∀ x ∈ ls, 0 ≤ x
theorem Rise.at {ls : List Int} (h : Rise ls) {i j : Nat} (hi : i < ls.length) (hj : j < ls.length) (hlt : ls[j] < ls[i]) : j < i := by
  by_cases hh : j < i
  · exact hh
  · by_cases e : j = i
    · subst e; omega
    · have := List.pairwise_iff_getElem.mp h.up i j hi hj (by omega)
      omega
def abT (lot : Int) (x : Int) : Bool := overF x lot
def beT (lot : Int) (x : Int) : Bool := overF lot x
def spLotsOf : Sp := fun vs H Q _ => ∃ (a : Addr) (rs : List (Int × Int)), vs = [.ref a] ∧ RL H a rs ∧ rs.length ≤ 5000 ∧ ∀ (r : Addr) (H' : Hp), Same H H' → H r = none → H' r = some (.lst ((rs.map Prod.fst).map V.int)) → Q (.ref r) H'
def spAny (K : PySem.W.Frag) (g : Int → Int → Bool) : Sp := fun vs H Q _ => ∃ (x : Int) (o : Addr) (ts : List Int), vs = [.int x, .ref o] ∧ SqL K H o (ts.map V.int) ∧ Q (.bl (ts.any fun t => g x t)) H
def spNb (g : List Int → Int → Int → Bool) : Sp := fun vs H Q _ => ∃ (a : Addr) (rs : List (Int × Int)) (lot : Int), vs = [.ref a, .int lot] ∧ RL H a rs ∧ rs.length ≤ 5000 ∧ Rise (rs.map Prod.fst) ∧ 0 ≤ lot ∧
  ∀ (r : Addr) (H' : Hp), Same H H' → H r = none → H' r = some (.lst (((rs.map Prod.fst).filter fun x => g (rs.map Prod.fst) x lot).map V.int)) → Q (.ref r) H'
def spOver : Sp := fun vs H Q _ => ∃ x y : Int, vs = [.int x, .int y] ∧ Q (.bl (overF x y)) H
def spNextL (K : PySem.W.Frag) : Sp := fun vs H Q _ => ∃ (o : Addr) (ls : List Int) (x y : Int), vs = [.ref o, .int x, .int y] ∧ SqL K H o (ls.map V.int) ∧ ls.length ≤ 5000 ∧ ∀ H', Same H H' → Q (.bl (nextL ls x y)) H'
end OL

namespace L2
open PySem PySem.Spec PyProof.Rows
section
variable {X : Cx}
/-! ### str of a list or tuple of data -/
theorem call_strD {k : Nat} (hr : Room k X.A) : CallR X (.type "str") (fun xs H Q => ∃ p d, xs = [.ref p] ∧ DR X.K H (.ref p) d ∧ d.showable = true ∧ d.hasDict = false ∧ d.depth ≤ 60 ∧ d.shown.length ≤ sizeLine ∧ Q (.str d.shown) H) := by
  intro pins s σ H xs us Q I r h
  obtain ⟨p, d, rfl, hd, h1, h2, h3, h4, q⟩ := h
  obtain ⟨u, rfl, ru⟩ := vals1 r
  cases (show u = Value.ref p from ru)
  obtain ⟨as, ra⟩ := hd.reads I ru
  exact str_of_reads ra h1 (PyData.noDict_hsm h2) hr.gd (by have := hr.un; omega) (fun _ _ e => e) (fun h' u tk hk => ⟨.str d.shown, H, I.kept hk, ⟨u, rfl⟩, q⟩) h4
end
end L2

namespace OL
open PySem L2
def gcdF (x y : Int) : Int := (Nat.gcd x.toNat y.toNat : Nat)
def shA (t b : Int) : List Int := [t / gcdF t b, b / gcdF t b]
/-- the share of t in b: nothing where b is nought, else a tuple -/
def Sh (K : PySem.W.Frag) (H : Hp) (v : V) (t b : Int) : Prop := (b = 0 ∧ v = .non) ∨ (0 < b ∧ ∃ p, v = .ref p ∧ H p = some (.tup ((shA t b).map V.int)))
def shD (t b : Int) : PyData := if b = 0 then .none else .tuple ((shA t b).map PyData.int)
theorem Sh.same {K : PySem.W.Frag} {H H' : Hp} {v : V} {t b : Int} (h : Sh K H v t b) (S : Same H H') : Sh K H' v t b := by
  rcases h with h | ⟨h, p, e, z⟩
  · exact .inl h
  · exact .inr ⟨h, p, e, S _ _ z⟩
theorem Sh.dr {K : PySem.W.Frag} {H : Hp} {v : V} {t b : Int} (h : Sh K H v t b) : DR K H v (shD t b) := by
  unfold shD
  rcases h with ⟨h, rfl⟩ | ⟨h, p, rfl, z⟩
  · rw [if_pos h]; exact .non
  · rw [if_neg (by omega)]; exact .tup (SqT.of z) (DRs.ints _)
theorem gcd_pos {t b : Int} (h : 0 < b) : 0 < gcdF t b := by
  unfold gcdF
  have := Nat.gcd_pos_of_pos_right t.toNat (show 0 < b.toNat by omega)
  omega
theorem gcd_le {t b : Int} (h : 0 < b) : gcdF t b ≤ b := by
  unfold gcdF
  have := Nat.gcd_le_right t.toNat (show 0 < b.toNat by omega)
  omega
theorem gcd_step {x y : Nat} : Nat.gcd y (x % y) = Nat.gcd x y := by
  rw [Nat.gcd_comm x y, Nat.gcd_rec y x, Nat.gcd_comm]
/-- a rule: a tuple of two lots -/
def Rl (K : PySem.W.Frag) (H : Hp) (r : Addr) (x y : Int) : Prop := SqT K H r [.int x, .int y]
def spRuleC (K : PySem.W.Frag) (g : List Int → Int → Int → V) : Sp := fun vs H Q _ => ∃ (b r : Addr) (many : Int) (bs : List Int) (x y : Int), vs = [.ref b, .ref r] ∧ Bk K H b many bs ∧ Rl K H r x y ∧ bs.length ≤ 500 ∧ 0 ≤ many ∧ many ≤ 64 ∧ ∀ H', Same H H' → Q (g bs x y) H'
def spShare (K : PySem.W.Frag) : Sp := fun vs H Q _ => ∃ (b r : Addr) (many : Int) (bs : List Int) (x y : Int), vs = [.ref b, .ref r] ∧ Bk K H b many bs ∧ Rl K H r x y ∧ bs.length ≤ 500 ∧ 0 ≤ many ∧ many ≤ 64 ∧ ∀ v H', Same H H' → Sh K H' v (countF bs (Builtin.bitOr x y)) (countF bs x) → Q v H'
def spLow : Sp := fun vs H Q _ => ∃ (t b : Int), vs = [.int t, .int b] ∧ 0 ≤ t ∧ 0 < b ∧ b ≤ 500 ∧ ∀ p, H p = none → Q (.ref p) (upd H p (.tup ((shA t b).map V.int)))
def spDivL : Sp := fun vs H Q _ => ∃ (x y : Int), vs = [.int x, .int y] ∧ 0 ≤ x ∧ 0 ≤ y ∧ Q (.int (gcdF x y)) H
end OL

namespace OL
open PySem L2
def stepL (ls : List Int) (cur other : Int) : List Int := (ls.filter fun x => nextL ls x cur).filter fun x => hasF other x
theorem next_over {ls : List Int} {x y : Int} (h : nextL ls x y = true) : overF x y = true := (Bool.and_eq_true_iff.mp h).1
def lastF (w : List Int) : Int := w.getD (w.length - 1) 0
structure WayP (ls : List Int) (one other : Int) (w : List Int) : Prop where
  pos : 0 < w.length
  first : w.getD 0 0 = one
  mem : ∀ x ∈ w, x ∈ ls
  steps : ∀ j, j + 1 < w.length → nextL ls (w.getD (j + 1) 0) (w.getD j 0) = true
  inn : hasF other (lastF w) = true
  len : (w.length : Int) ≤ lastF w + 1
theorem lastF_mem {w : List Int} (h : 0 < w.length) : lastF w ∈ w := getD_mem (by omega)
theorem last_app (w : List Int) (x : Int) : lastF (w ++ [x]) = x := by
  unfold lastF
  rw [List.getD_eq_getElem?_getD, List.length_append]
  show ((w ++ [x])[w.length + 1 - 1]?).getD 0 = x
  rw [Nat.add_sub_cancel, List.getElem?_append_right (Nat.le_refl _), Nat.sub_self]; rfl
theorem getD_app {w : List Int} {x : Int} {j : Nat} (h : j < w.length) : (w ++ [x]).getD j 0 = w.getD j 0 := by
  rw [List.getD_eq_getElem?_getD, List.getD_eq_getElem?_getD, List.getElem?_append_left h]
theorem getD_end {w : List Int} {x : Int} : (w ++ [x]).getD w.length 0 = x := by
  rw [List.getD_eq_getElem?_getD, List.getElem?_append_right (Nat.le_refl _), Nat.sub_self]; rfl
theorem WayP.step {ls : List Int} (h : Rise ls) {one other : Int} {w : List Int} (R : WayP ls one other w) {x : Int} (hx : x ∈ ls) (hn : nextL ls x (lastF w) = true) (hi : hasF other x = true) : WayP ls one other (w ++ [x]) := by
  have hl := over_lt (h.nn _ hx) (h.nn _ (R.mem _ (lastF_mem R.pos))) (next_over hn)
  have := R.pos
  refine ⟨by rw [List.length_append]; show 0 < _ + 1; omega, by rw [getD_app R.pos]; exact R.first, fun y hy => ?_, fun j hj => ?_, by rw [last_app]; exact hi, ?_⟩
  · rcases List.mem_append.mp hy with z | z
    · exact R.mem y z
    · have : y = x := by simpa using z
      rw [this]; exact hx
  · rw [List.length_append] at hj
    have hj' : j + 1 < w.length + 1 := hj
    by_cases e : j + 1 = w.length
    · have ej : j = w.length - 1 := by omega
      rw [getD_app (show j < w.length by omega), e, getD_end, ej]
      exact hn
    · rw [getD_app (by omega), getD_app (by omega)]
      exact R.steps j (by omega)
  · rw [last_app, List.length_append]
    have := R.len
    show ((w.length + 1 : Nat) : Int) ≤ x + 1
    omega
def spStep (K : PySem.W.Frag) : Sp := fun vs H Q _ => ∃ (a : Addr) (rs : List (Int × Int)) (lot other : Int), vs = [.ref a, .int lot, .int other] ∧ RL H a rs ∧ rs.length ≤ 5000 ∧ Rise (rs.map Prod.fst) ∧ lot ∈ rs.map Prod.fst ∧ other ∈ rs.map Prod.fst ∧ overF other lot = true ∧
  ∀ (x : Int) (H' : Hp), Same H H' → x ∈ rs.map Prod.fst → nextL (rs.map Prod.fst) x lot = true → hasF other x = true → Q (.int x) H'
def spWay (K : PySem.W.Frag) : Sp := fun vs H Q _ => ∃ (a : Addr) (rs : List (Int × Int)) (one other : Int), vs = [.ref a, .int one, .int other] ∧ RL H a rs ∧ rs.length ≤ 5000 ∧ Rise (rs.map Prod.fst) ∧ one ∈ rs.map Prod.fst ∧ other ∈ rs.map Prod.fst ∧ hasF other one = true ∧ other < 4000 ∧
  ∀ (r : Addr) (w : List Int) (H' : Hp), Same H H' → H r = none → H' r = some (.lst (w.map V.int)) → WayP (rs.map Prod.fst) one other w → lastF w = other → Q (.ref r) H'
def spIsWay : Sp := fun vs H Q _ => ∃ (a f : Addr) (rs : List (Int × Int)) (w : List Int) (one other : Int), vs = [.ref a, .ref f, .int one, .int other] ∧ RL H a rs ∧ rs.length ≤ 5000 ∧ Rise (rs.map Prod.fst) ∧ H f = some (.lst (w.map V.int)) ∧ w.length ≤ 4100 ∧ WayP (rs.map Prod.fst) one other w ∧ lastF w = other ∧ ∀ H', Same H H' → Q (.bl true) H'
theorem atI_last {w : List Int} (h : 0 < w.length) : atI (w.map V.int) (-1) = some (.int (lastF w)) := by
  unfold atI ixN
  rw [if_neg (by decide), List.length_map, if_pos (by omega)]
  show (w.map V.int)[(-1 + (w.length : Int)).toNat]? = _
  have e : (-1 + (w.length : Int)).toNat = w.length - 1 := by omega
  rw [e, List.getElem?_map, List.getElem?_eq_getElem (show w.length - 1 < w.length by omega)]
  unfold lastF
  rw [List.getD_eq_getElem?_getD, List.getElem?_eq_getElem (show w.length - 1 < w.length by omega)]
  rfl
end OL

namespace L2
open PySem PySem.Spec PyProof.Rows
/-! gt# max(list of ints, default=None) -/
section
variable {prog : Program} {w : World} {A : Around} {R : Result → Shared → Prop} {it : Addr} {fp wr : List Addr} {n : Nat} {PP : Nat → Value → Prop} {St : Nat → Heap → Prop}
end
section
variable {X : Cx}
/-- the value: None of none, else the best of the ints -/
def bstmax (ns : List Int) : Nat → Int
  | 0 => ns.getD 0 0
  | j + 1 => if ns.getD (j + 1) 0 > bstmax ns j then ns.getD (j + 1) 0 else bstmax ns j
def valmax (ns : List Int) : V := if ns.length = 0 then .non else .int (bstmax ns (ns.length - 1))
def tDvmax (K : PySem.W.Frag) (ta : TA) : TE := fun σ H Q => ta σ H fun vs H1 => ∃ a ns, vs = [.ref a] ∧ SqL K H1 a (ns.map V.int) ∧ Q (valmax ns) H1
end
/-! lt# min(list of ints, default=None) -/
section
variable {prog : Program} {w : World} {A : Around} {R : Result → Shared → Prop} {it : Addr} {fp wr : List Addr} {n : Nat} {PP : Nat → Value → Prop} {St : Nat → Heap → Prop}
end
section
variable {X : Cx}
/-- the value: None of none, else the best of the ints -/
def bstmin (ns : List Int) : Nat → Int
  | 0 => ns.getD 0 0
  | j + 1 => if ns.getD (j + 1) 0 < bstmin ns j then ns.getD (j + 1) 0 else bstmin ns j
def valmin (ns : List Int) : V := if ns.length = 0 then .non else .int (bstmin ns (ns.length - 1))
def tDvmin (K : PySem.W.Frag) (ta : TA) : TE := fun σ H Q => ta σ H fun vs H1 => ∃ a ns, vs = [.ref a] ∧ SqL K H1 a (ns.map V.int) ∧ Q (valmin ns) H1
end
end L2

namespace L2
open PySem PySem.Spec PyProof.Rows
section
variable {X : Cx}
def rSumI (K : PySem.W.Frag) : List V → Hp → VK → Prop := fun xs H Q => ∃ (p : Addr) (ns : List Int), xs = [.ref p] ∧ SqL K H p (ns.map V.int) ∧ Q (.int (List.sum ns)) H
theorem call_sumI (hc : X.calm = true) : CallR X (.builtin "sum") (rSumI X.K) := by
  intro pins s σ H xs us Q I r h
  obtain ⟨p, ns, rfl, hq, q⟩ := h
  obtain ⟨u, rfl, ru⟩ := vals1 r
  cases (show u = Value.ref p from ru)
  obtain ⟨its, rv, pl, hz⟩ := I.list hq
  have hi := intsAre_of rv
  obtain ⟨ys, e⟩ := (show PySem.AllInts its.toArray from hi.allInts).items
  have hl := pl.isList
  rw [e] at hl
  refine PySem.sum_intListG (I.ok.hd hc) hl fun h' tk t' kp => ?_
  have es : (numsOf its.toArray.toList).sum = ns.sum := by rw [show its.toArray.toList = its from rfl, hi.numsOf]
  rw [e, nums_intItems] at es
  refine ⟨.int ns.sum, H, I.kept (t' := tk) kp, ⟨t', ?_⟩, q⟩
  rw [preSum_eq, List.take_of_length_le (by simp), ← es]
/-- sorted of a list of fewer than 64 whole numbers -/
def rSortI (K : PySem.W.Frag) : List V → Hp → VK → Prop := fun xs H Q => ∃ (p : Addr) (ns : List Int), xs = [.ref p] ∧ SqL K H p (ns.map V.int) ∧ ns.length < 64 ∧ ∀ (l : Addr) (ns' : List Int), H l = none → ns'.Perm ns → ns'.Pairwise (· ≤ ·) → Q (.ref l) (upd H l (.lst (ns'.map V.int)))
end
end L2

namespace OL
open PySem L2
def eqN (bs : List Int) (x : Int) : Nat := (bs.filter fun b => b == x).length
def jmany (told : List (Int × Int)) (row : Int × Int) : Int := row.2 - ((told.filter fun o => hasF o.1 row.1).map Prod.snd).sum
def jstep (told : List (Int × Int)) (row : Int × Int) : List (Int × Int) := if jmany told row > 0 then told ++ [(row.1, jmany told row)] else told
def justF (cl : List (Int × Int)) : List (Int × Int) := (cl.reverse.foldl jstep []).reverse
def baskF (rs : List (Int × Int)) : List Int := rs.flatMap fun r => List.replicate r.2.toNat r.1
def isBk (bs : List Int) (i : Nat) : Bool := decide (0 < eqN bs (i : Int))
def bkRow (bs : List Int) (i : Nat) : Int × Int := ((i : Int), (eqN bs (i : Int) : Int))
def justU (bs : List Int) (n : Nat) : List (Int × Int) := ((List.range n).filter (isBk bs)).map (bkRow bs)
section
variable {many : Int} {bs : List Int} (hb : ∀ x ∈ bs, InB many x)
include hb
end
end OL
namespace OL
open PySem L2
def spJust : Sp := fun vs H Q _ => ∃ (a : Addr) (rs : List (Int × Int)), vs = [.ref a] ∧ RL H a rs ∧ rs.length ≤ 1000 ∧ ∀ (r : Addr) (xs : List V) (H' : Hp), Same H H' → H r = none → H' r = some (.lst xs) → Rows H' xs (justF rs) → Q (.ref r) H'
def spBaskets : Sp := fun vs H Q _ => ∃ (a : Addr) (rs : List (Int × Int)), vs = [.ref a] ∧ RL H a rs ∧ rs.length ≤ 1000 ∧ (∀ r ∈ justF rs, 0 ≤ r.2 ∧ r.2 ≤ 100) ∧ (baskF (justF rs)).length ≤ 1000 ∧ ∀ (r : Addr) (H' : Hp), Same H H' → H r = none → H' r = some (.lst ((baskF (justF rs)).map V.int)) → Q (.ref r) H'
end OL

namespace L2
open PySem PySem.Spec PyProof.Rows
/-! ### lists of pairs as tables -/
section
variable {κ : Type} [DecidableEq κ]
def valV (kvs : List (κ × V)) (k : κ) : Option V := (kvs.find? fun kv => decide (kv.1 = k)).map (·.2)
/-- in its place, or at the end -/
def putK (kvs : List (κ × V)) (k : κ) (v : V) : List (κ × V) :=
  if (kvs.any fun kv => decide (kv.1 = k)) = true then kvs.map (fun kv => if kv.1 = k then (kv.1, v) else kv) else kvs ++ [(k, v)]
def dropK (kvs : List (κ × V)) (k : κ) : List (κ × V) := kvs.filter fun kv => decide (kv.1 ≠ k)

theorem valV_pos {p : κ × V} {r : List (κ × V)} {k : κ} (e : p.1 = k) : valV (p :: r) k = some p.2 := by simp [valV, List.find?_cons, e]
theorem valV_neg {p : κ × V} {r : List (κ × V)} {k : κ} (e : ¬ p.1 = k) : valV (p :: r) k = valV r k := by simp [valV, List.find?_cons, e]
theorem valV_any (k : κ) : ∀ kvs : List (κ × V), (kvs.any fun kv => decide (kv.1 = k)) = (valV kvs k).isSome
  | [] => rfl
  | p :: r => by
    rw [List.any_cons]
    by_cases e : p.1 = k
    · simp only [valV_pos e, decide_eq_true e, Bool.true_or, Option.isSome_some]
    · rw [valV_neg e, decide_eq_false e, Bool.false_or]; exact valV_any k r
theorem length_putK (kvs : List (κ × V)) (k : κ) (v : V) : (putK kvs k v).length ≤ kvs.length + 1 := by
  unfold putK
  split
  · rw [List.length_map]; omega
  · rw [List.length_append, List.length_cons, List.length_nil]; omega
theorem RelO.isSome_eq {o : Option V} {u : Option Value} (r : RelO o u) : o.isSome = u.isSome := by
  cases o with
  | none => cases u with
    | none => rfl
    | some _ => exact (show False from r).elim
  | some _ => cases u with
    | none => exact (show False from r).elim
    | some _ => rfl
theorem RelO.getD {o : Option V} {u : Option Value} {d : V} {d' : Value} (r : RelO o u) (rd : RelV d d') : RelV (o.getD d) (u.getD d') := by
  cases o with
  | none => cases u with
    | none => exact rd
    | some _ => exact (show False from r).elim
  | some _ => cases u with
    | none => exact (show False from r).elim
    | some _ => exact r

/-- raw tables of the same keys -/
theorem KV.val {kvs : List (κ × V)} {vs : List (κ × Value)} (r : KV kvs vs) (k : κ) : RelO (valV kvs k) (valueAt vs k) := by
  unfold KV at r
  induction r with
  | nil => exact True.intro
  | @cons p q ps qs h t ih =>
    obtain ⟨h1, h2⟩ := h
    by_cases e : p.1 = k
    · have e' : q.1 = k := h1.symm.trans e
      have b : valueAt (q :: qs) k = some q.2 := by simp [valueAt, List.find?_cons, e']
      rw [valV_pos e, b]; exact h2
    · have e' : ¬ q.1 = k := fun z => e (h1.trans z)
      have b : valueAt (q :: qs) k = valueAt qs k := by simp [valueAt, List.find?_cons, e']
      rw [valV_neg e, b]; exact ih
theorem KV.any {kvs : List (κ × V)} {vs : List (κ × Value)} (r : KV kvs vs) (k : κ) : (kvs.any fun kv => decide (kv.1 = k)) = vs.any fun kv => decide (kv.1 = k) := by
  unfold KV at r
  induction r with
  | nil => rfl
  | cons h t ih => rw [List.any_cons, List.any_cons, ih, h.1]
theorem KV.repl {kvs : List (κ × V)} {vs : List (κ × Value)} (r : KV kvs vs) (k : κ) {y : V} {u : Value} (ry : RelV y u) :
    KV (kvs.map fun kv => if kv.1 = k then (kv.1, y) else kv) (vs.map fun kv => if kv.1 = k then (kv.1, u) else kv) := by
  unfold KV at r ⊢
  induction r with
  | nil => exact .nil
  | @cons p q ps qs h t ih =>
    rw [List.map_cons, List.map_cons]
    refine .cons ?_ ih
    obtain ⟨h1, h2⟩ := h
    by_cases e : p.1 = k
    · rw [if_pos e, if_pos (h1.symm.trans e)]; exact ⟨h1, ry⟩
    · rw [if_neg e, if_neg (fun z => e (h1.trans z))]; exact ⟨h1, h2⟩
theorem KV.put {kvs : List (κ × V)} {vs : List (κ × Value)} (r : KV kvs vs) (k : κ) {y : V} {u : Value} (ry : RelV y u) : KV (putK kvs k y) (stored vs k u) := by
  unfold putK stored
  rw [r.any k]
  by_cases e : (vs.any fun kv => decide (kv.1 = k)) = true
  · rw [if_pos e, if_pos e]; exact r.repl k ry
  · rw [if_neg e, if_neg e]; exact Paired.snoc r ⟨rfl, ry⟩
theorem KV.drop {kvs : List (κ × V)} {vs : List (κ × Value)} (r : KV kvs vs) (k : κ) : KV (dropK kvs k) (without vs k) := by
  unfold KV at r ⊢
  unfold dropK without
  induction r with
  | nil => exact .nil
  | @cons p q ps qs h t ih =>
    obtain ⟨h1, h2⟩ := h
    rw [List.filter_cons, List.filter_cons]
    by_cases e : p.1 = k
    · have a : ¬ decide (p.1 ≠ k) = true := by simp [e]
      have b : ¬ decide (q.1 ≠ k) = true := by simp [h1.symm.trans e]
      rw [if_neg a, if_neg b]; exact ih
    · have e' : ¬ q.1 = k := fun z => e (h1.trans z)
      have a : decide (p.1 ≠ k) = true := by simp [e]
      have b : decide (q.1 ≠ k) = true := by simp [e']
      rw [if_pos a, if_pos b]; exact .cons ⟨h1, h2⟩ ih
theorem KV.keys {kvs : List (κ × V)} {vs : List (κ × Value)} (r : KV kvs vs) : kvs.map (·.1) = vs.map (·.1) := by
  unfold KV at r
  induction r with
  | nil => rfl
  | cons h t ih => rw [List.map_cons, List.map_cons, ih, h.1]
theorem KV.length {kvs : List (κ × V)} {vs : List (κ × Value)} (r : KV kvs vs) : kvs.length = vs.length := Paired.length r
end


/-! ### a tracked dict, its keys ints and texts or tuples of these -/
theorem kV_is {P : Program} {w : World} {k : Key} {u : Value} (r : RelV (kV k) u) : (mixKind P w).is k u = true := by
  cases k with
  | inl i => obtain ⟨t, e⟩ := (show ∃ t, u = Value.int i t from r); subst e; exact mixKind_int P w i t
  | inr x => obtain ⟨t, e⟩ := (show ∃ t, u = Value.str x t from r); subst e; exact mixKind_str P w x t
theorem items_are {P : Program} {w : World} : ∀ {ks : List Key} {us : List Value}, Vals (ks.map kV) us → ItemsAre (mixKind P w) ks us
  | [], _, r => by rw [List.map_nil] at r; cases r; exact .nil
  | k :: ks, _, r => by
    rw [List.map_cons] at r
    cases r with
    | cons h t => exact .cons (kV_is h) (items_are t)

/-- raw entries of a dict with tuple keys -/
abbrev KT (H : Hp) : List (List Key × V) → List (List Key × Addr × Value) → Prop := Paired fun p q => p.1 = q.1 ∧ H q.2.1 = some (.tup (p.1.map kV)) ∧ RelV p.2 q.2.2
theorem KT.val {H : Hp} {kvs : List (List Key × V)} {xs : List (List Key × Addr × Value)} (r : KT H kvs xs) (k : List Key) : RelO (valV kvs k) ((atKey xs k).map (·.2)) := by
  induction r with
  | nil => exact True.intro
  | @cons p q ps qs h t ih =>
    obtain ⟨h1, _, h2⟩ := h
    by_cases e : p.1 = k
    · have e' : q.1 = k := h1.symm.trans e
      have b : atKey (q :: qs) k = some q.2 := by simp [atKey, List.find?_cons, e']
      rw [valV_pos e, b]; exact h2
    · have e' : ¬ q.1 = k := fun z => e (h1.trans z)
      have b : atKey (q :: qs) k = atKey qs k := by simp [atKey, List.find?_cons, e']
      rw [valV_neg e, b]; exact ih
theorem KT.repl {H : Hp} {kvs : List (List Key × V)} {xs : List (List Key × Addr × Value)} (r : KT H kvs xs) (k : List Key) {y : V} {u : Value} (ry : RelV y u) :
    KT H (kvs.map fun kv => if kv.1 = k then (kv.1, y) else kv) (xs.map (putAt k u)) := by
  induction r with
  | nil => exact .nil
  | @cons p q ps qs h t ih =>
    rw [List.map_cons, List.map_cons]
    refine .cons ?_ ih
    obtain ⟨h1, h2, h3⟩ := h
    unfold putAt
    by_cases e : p.1 = k
    · rw [if_pos e, if_pos (h1.symm.trans e)]; exact ⟨h1, h2, ry⟩
    · rw [if_neg e, if_neg (fun z => e (h1.trans z))]; exact ⟨h1, h2, h3⟩
theorem KT.put {H : Hp} {kvs : List (List Key × V)} {xs : List (List Key × Addr × Value)} (r : KT H kvs xs) (k : List Key) {b : Addr} {y : V} {u : Value} (hb : H b = some (.tup (k.map kV))) (ry : RelV y u) :
    KT H (putK kvs k y) (storedH xs k b u) := by
  have e : (kvs.any fun kv => decide (kv.1 = k)) = (atKey xs k).isSome := by
    rw [valV_any, (r.val k).isSome_eq, Option.isSome_map]
  unfold putK storedH
  rw [e]
  by_cases q : (atKey xs k).isSome = true
  · rw [if_pos q, if_pos q]; exact r.repl k ry
  · rw [if_neg q, if_neg q]; exact Paired.snoc r ⟨rfl, hb, ry⟩
theorem KT.keeps {H H' : Hp} {kvs : List (List Key × V)} {xs : List (List Key × Addr × Value)} (r : KT H kvs xs) (ht : ∀ b ys, H b = some (.tup ys) → H' b = some (.tup ys)) : KT H' kvs xs :=
  Paired.mapP r fun _ _ z => ⟨z.1, ht _ _ z.2.1, z.2.2⟩

section
variable {P : Program} {w : World} {H : Hp} {h : Heap} {a : Addr}
theorem rd_of {u : HO} (ok : HOk P w H h) (e : Rd H a u) : ObjOk P w H h a u := e.ok ok
theorem dk_rd {kvs : List (Key × V)} (ok : HOk P w H h) (e : Rd H a (.dK kvs)) : kvs.length ≤ sizeLine ∧ (a == sysModules) = false ∧ ∃ vs, KV kvs vs ∧ h.DictOf (mixKind P w) a vs :=
  show ObjOk P w H h a (.dK kvs) from rd_of ok e
theorem dk_of {kvs : List (Key × V)} (ok : HOk P w H h) (e : H a = some (.dK kvs)) : kvs.length ≤ sizeLine ∧ (a == sysModules) = false ∧ ∃ vs, KV kvs vs ∧ h.DictOf (mixKind P w) a vs := dk_rd ok (.inl e)
/-- a tracked tuple of ints and texts is a key -/
theorem key_of {ks : List Key} (ok : HOk P w H h) (e : H a = some (.tup (ks.map kV))) : (tupleKind (mixKind P w)).is h ks a := by
  obtain ⟨_, its, r, o, h1, h2, n, h3⟩ := (show ObjOk P w H h a (.tup (ks.map kV)) from ok a _ e)
  exact ⟨o, its.toArray, n, h1, h2, h3, by simpa using items_are r⟩
theorem dt_rd {kvs : List (List Key × V)} (ok : HOk P w H h) (e : Rd H a (.dT kvs)) : kvs.length ≤ sizeLine ∧ (a == sysModules) = false ∧
    ∃ xs, KT H kvs xs ∧ h.DictOfH (tupleKind (mixKind P w)) a xs := by
  obtain ⟨z, y, xs, r, o, es, ep, h1, h2, h3, h4, h5⟩ := (show ObjOk P w H h a (.dT kvs) from rd_of ok e)
  refine ⟨z, y, xs, r, o, es, ep, h1, h2, h3, h4, fun x hx => ?_, h5⟩
  have all : ∀ {l : List (List Key × V)} {m : List (List Key × Addr × Value)}, KT H l m → ∀ x ∈ m, (tupleKind (mixKind P w)).is h x.1 x.2.1 := by
    intro l m q
    induction q with
    | nil => intro x hx; exact nomatch hx
    | @cons p q ps qs hq t ih =>
      intro x hx
      rcases List.mem_cons.mp hx with e | hx
      · subst e
        exact key_of ok (by rw [← hq.1]; exact hq.2.1)
      · exact ih x hx
  exact all r x hx
theorem dt_of {kvs : List (List Key × V)} (ok : HOk P w H h) (e : H a = some (.dT kvs)) : kvs.length ≤ sizeLine ∧ (a == sysModules) = false ∧
    ∃ xs, KT H kvs xs ∧ h.DictOfH (tupleKind (mixKind P w)) a xs := dt_rd ok (.inl e)
end

/-- what the dict at a holds at the key y -/
def DGet (H : Hp) (a : Addr) (y : V) (r : Option V) : Prop :=
  (∃ kvs k, Rd H a (.dK kvs) ∧ y = kV k ∧ r = valV kvs k) ∨ ∃ kvs k b, Rd H a (.dT kvs) ∧ y = .ref b ∧ H b = some (.tup (k.map kV)) ∧ r = valV kvs k
/-- the heap behind a[y] = v -/
def DPut (H : Hp) (a : Addr) (y v : V) (H' : Hp) : Prop :=
  (∃ kvs k, H a = some (.dK kvs) ∧ y = kV k ∧ kvs.length < sizeLine ∧ H' = upd H a (.dK (putK kvs k v))) ∨
  ∃ kvs k b, H a = some (.dT kvs) ∧ y = .ref b ∧ H b = some (.tup (k.map kV)) ∧ kvs.length < sizeLine ∧ H' = upd H a (.dT (putK kvs k v))
theorem DGet.t {H : Hp} {a b : Addr} {kvs : List (List Key × V)} {k : List Key} (e : H a = some (.dT kvs)) (eb : H b = some (.tup (k.map kV))) : DGet H a (.ref b) (valV kvs k) := .inr ⟨kvs, k, b, .inl e, rfl, eb, rfl⟩
theorem DPut.t {H : Hp} {a b : Addr} {kvs : List (List Key × V)} {k : List Key} {v : V} (e : H a = some (.dT kvs)) (eb : H b = some (.tup (k.map kV))) (hl : kvs.length < sizeLine) :
    DPut H a (.ref b) v (upd H a (.dT (putK kvs k v))) := .inr ⟨kvs, k, b, e, rfl, eb, hl, rfl⟩


section
variable {X : Cx} {pins : List (Addr × Obj)} {σ : St} {H : Hp} {s : Shared} {a : Addr} {y v : V} {u r : Value} {o : Option V} {A : Around} {E : Value → Shared → Prop}

theorem Inv.big (I : Inv X pins σ H s) : sysModules < s.heap.objs.size := by
  have h : mainGlobals < s.heap.objs.size := (I.mod.glob.keeps I.bk).lt
  exact Nat.lt_trans (by decide) h

/-- d[y], there -/
theorem d_getItem {Q : Value → Shared → Prop} (hu : A.units + 1 < cLine) (I : Inv X pins σ H s) (g : DGet H a y (some v)) (ry : RelV y u) (h : ∀ w' s', Inv X pins σ H s' → RelV v w' → Q w' s') :
    wpAny (model X.prog X.w) A (getItem (.ref a) u) Q E s := by
  rcases g with ⟨kvs, k, e, ey, l⟩ | ⟨kvs, k, b, e, ey, eb, l⟩
  · subst ey
    obtain ⟨z, hd, vs, rel, dd⟩ := dk_rd I.hok e
    obtain ⟨w', hw, rw'⟩ := RelO.some_of (v := v) (o := valueAt vs k) (by rw [l]; exact rel.val k)
    exact wpAny_getItem_of (kV_is ry) dd.mapOf hw (h w' _ (I.tok _) rw')
  · subst ey
    cases (show u = Value.ref b from ry)
    obtain ⟨z, hd, xs, rel, dd⟩ := dt_rd I.hok e
    obtain ⟨w', hw, rw'⟩ := RelO.some_of (v := v) (o := (atKey xs k).map (·.2)) (by rw [l]; exact rel.val k)
    obtain ⟨p, hp, hp2⟩ := Option.map_eq_some_iff.mp hw
    refine wpAny_getItem_heap (tupleKind_room_in1 hu) (key_of I.hok eb) dd hp ?_
    rw [hp2]
    exact h w' _ (I.tok _) rw'
/-- a dict's object is replaced -/
theorem d_write {h' : Heap} {t' : Nat} {ob : HO} (I : Inv X pins σ H s) (mu : Mut (H a)) (hs : Heap.SameBut a s.heap h') (he : ∃ q, h'.get? a = some q) (new : ObjOk X.prog X.w (upd H a ob) h' a ob) :
    Inv X pins σ (upd H a ob) { s with heap := h', toks := t' } :=
  I.write (x := a) (e := a) mu (.inl rfl) (fun b q hb z => (hs.2 b hb).trans z) he new
theorem dk_new {P : Program} {w : World} {H' : Hp} {h' : Heap} {kvs : List (Key × V)} {vs : List (Key × Value)} (z : kvs.length ≤ sizeLine) (hd : (a == sysModules) = false) (rel : KV kvs vs) (dd : h'.DictOf (mixKind P w) a vs) :
    ObjOk P w H' h' a (.dK kvs) := ⟨z, hd, vs, rel, dd⟩
/-- d[y] = v -/
theorem d_setItem {H' : Hp} {Q : Unit → Shared → Prop} (hu : A.units + 1 < cLine) (I : Inv X pins σ H s) (g : DPut H a y v H') (ry : RelV y u) (rv : RelV v r) (h : ∀ s', Inv X pins σ H' s' → Q () s') :
    wpAny (model X.prog X.w) A (setItem (.ref a) u r) Q E s := by
  rcases g with ⟨kvs, k, e, ey, l, eH⟩ | ⟨kvs, k, b, e, ey, eb, l, eH⟩
  · subst ey eH
    obtain ⟨z, hd, vs, rel, dd⟩ := dk_of I.hok e
    have hz : vs.length ≤ sizeLine := by rw [← rel.length]; exact z
    have hl : (putK kvs k v).length ≤ sizeLine := by have := length_putK kvs k v; omega
    refine wpAny_setItem_pairs (hsz := hz) (kV_is ry) dd fun h' dd' hs => h _ ?_
    have he : ∃ q, h'.get? a = some q := let ⟨q, _, _, hq, _⟩ := dd'; ⟨q, hq⟩
    exact d_write I (by rw [e]; exact True.intro) hs he (dk_new hl hd (rel.put k rv) dd')
  · subst ey eH
    cases (show u = Value.ref b from ry)
    obtain ⟨z, hd, xs, rel, dd⟩ := dt_of I.hok e
    have hz : xs.length ≤ sizeLine := by rw [← Paired.length rel]; exact z
    have hl : (putK kvs k v).length ≤ sizeLine := by have := length_putK kvs k v; omega
    refine wpAny_setItem_heap (hsz := hz) (tupleKind_room_in1 hu) (key_of I.hok eb) dd fun h' dd' hs => h _ ?_
    obtain ⟨q, es, ep, hq, h2, h3, h4, _, h5⟩ := dd'
    refine d_write I (by rw [e]; exact True.intro) hs ⟨q, hq⟩ ⟨hl, hd, _, (rel.put k eb rv).keeps fun c ys ec => ?_, q, es, ep, hq, h2, h3, h4, h5⟩
    rw [upd_ne (ne_of ec e (fun z => nomatch z))]
    exact ec
end

section
variable {X : Cx} {pins : List (Addr × Obj)} {σ : St} {H : Hp} {s : Shared} {a : Addr} {kvs : List (Key × V)} {k : Key} {u : Value} {A : Around} {E : Value → Shared → Prop}
end


/-! ### readings and rules -/
/-- the element of a subscription, not a slice -/
def NoSl (i : Expr) : Prop := ∀ ov iv, subscripted i false ov iv = operate [ov, iv] (getItem ov iv)
theorem subD_of {prog : Program} {w : World} {A : Around} {E : Value → Shared → Prop} {s : Shared} {env : Env} {value slice : Expr} {pos : Pos} {T id : String} {Q : Value → Shared → Prop}
    (hl : typeLookup (.type T) "__getitem__" = pure (some (.builtin id))) (hs : NoSl slice)
    (h : wpAny (model prog w) A (eval value env) (fun o s₁ => wpAny (model prog w) A (eval slice env) (fun i s₂ => s₂.TypeIs o T ∧ wpAny (model prog w) A (getItem o i) Q E s₂) E s₁) E s) :
    wpAny (model prog w) A (eval (.Subscript value slice pos) env) Q E s := by
  refine Subscript_ (wpAny_mono h (fun o s₁ h₁ => wpAny_mono h₁ (fun i s₂ h₂ => ?_) fun _ _ x => x) fun _ _ x => x)
  obtain ⟨hT, h₂⟩ := h₂
  unfold subscriptTail
  refine wpAny_bind ?_
  rw [getitemInPython_of_ne hT.not_modules]
  refine wpAny_bind (wpAny_specialOf hT hl ?_)
  have fin : wpAny (model prog w) A (subscripted slice false o i) (fun r s₃ => wpAny (model prog w) A (letTemporaryGo value o r >>= fun _ => pure r) Q E s₃) E s₂ := by
    rw [hs o i]
    exact wpAny_operating (wpAny_mono h₂ (fun r s₃ h₃ => wpAny_bind (wpAny_letTemporaryGo (wpAny_pure h₃))) fun _ _ x => x)
  first
    | exact wpAny_pure (wpAny_bind fin)
    | exact wpAny_bind (wpAny_pure (wpAny_bind fin))
    | exact wpAny_bind fin

theorem dict_typeIs {X : Cx} {pins : List (Addr × Obj)} {σ : St} {H : Hp} {s : Shared} {a : Addr} {y : V} {o : Option V} (I : Inv X pins σ H s) (g : DGet H a y o) : s.TypeIs (.ref a) "dict" := by
  rcases g with ⟨kvs, k, e, _, _⟩ | ⟨kvs, k, b, e, _, _, _⟩
  · obtain ⟨_, _, vs, _, dd⟩ := dk_rd I.hok e
    exact dd.typeIs
  · obtain ⟨_, _, xs, _, dd⟩ := dt_rd I.hok e
    exact dd.typeIs
/-- d[y] -/
def tDGet (td ty : TE) : TE := fun σ H Q => td σ H fun x H1 => ty σ H1 fun y H2 => ∃ a v, x = .ref a ∧ DGet H2 a y (some v) ∧ Q v H2
/-- y in d, y not in d -/
def tDIn (ty td : TE) : TE := fun σ H Q => ty σ H fun y H1 => td σ H1 fun x H2 => ∃ a o, x = .ref a ∧ DGet H2 a y o ∧ Q (.bl o.isSome) H2
def tDNotIn (ty td : TE) : TE := fun σ H Q => ty σ H fun y H1 => td σ H1 fun x H2 => ∃ a o, x = .ref a ∧ DGet H2 a y o ∧ Q (.bl (!o.isSome)) H2
/-- d[y] = v -/
def sDPut (td ty tv : TE) : TS := fun D σ H => tv σ H fun v H1 => td σ H1 fun x H2 => ty σ H2 fun y H3 => ∃ a H4, x = .ref a ∧ DPut H3 a y v H4 ∧ D.nx σ H4
/-- d[y] op= v -/
def sDAug (td ty tv : TE) (rd : V → V → Hp → VK → Prop) : TS := fun D σ H => td σ H fun x H1 => ty σ H1 fun y H2 => ∃ a v, x = .ref a ∧ DGet H2 a y (some v) ∧
  tv σ H2 fun y2 H3 => rd v y2 H3 fun z H4 => ∃ H5, DPut H4 a y z H5 ∧ D.nx σ H5
/-- del d[y] -/
def sDDel (td ty : TE) : TS := fun D σ H => td σ H fun x H1 => ty σ H1 fun y H2 => ∃ a kvs k, x = .ref a ∧ H2 a = some (.dK kvs) ∧ y = kV k ∧ (valV kvs k).isSome = true ∧ D.nx σ (upd H2 a (.dK (dropK kvs k)))

section
variable {X : Cx} {o i e value : Expr} {pos pos' tpos : Pos} {td ty tv : TE}
theorem pe_dget (hu : X.A.units + 1 < cLine) (ho : PE X o td) (hi : PE X i ty) (hs : NoSl i) : PE X (.Subscript o i pos) (tDGet td ty) := by
  intro pins s σ H Q I h
  refine subD_of PySem.F.slot_dict_getitem.lookup hs (thn (ho pins s σ H _ I h) fun u s1 ⟨x, H1, I1, rx, q1⟩ => thn (hi pins s1 σ H1 _ I1 q1) fun iv s2 ⟨y, H2, I2, ry, a, v, ex, g, q2⟩ => ?_)
  subst ex
  obtain rfl : u = Value.ref a := rx
  exact ⟨dict_typeIs I2 g, d_getItem hu I2 g ry fun w' s3 I3 rw' => ⟨v, H2, I3, rw', q2⟩⟩
theorem ps_dput (hu : X.A.units + 1 < cLine) (ho : PE X o td) (hi : PE X i ty) (hv : PE X value tv) (hs : swapsWith value (some (.Subscript o i pos')) pos.line X.env = pure false) :
    PS X (.Assign [.Subscript o i pos'] value pos) (sDPut td ty tv) := by
  intro pins s σ H D I h
  refine wpAny_Assign_Subscript (thn (hv pins s σ H _ I h) fun r s1 ⟨v, H1, I1, rv, q1⟩ => thn (ho pins s1 σ H1 _ I1 q1) fun u s2 ⟨x, H2, I2, rx, q2⟩ => thn (hi pins s2 σ H2 _ I2 q2) fun iv s3 ⟨y, H3, I3, ry, a, H4, ex, g, q3⟩ => ?_) hs
  subst ex
  obtain rfl : u = Value.ref a := rx
  exact d_setItem hu I3 g ry rv fun s4 I4 => ⟨σ, H4, I4, q3⟩
end


/-! ### displays -/
theorem dk_empty {P : Program} {w : World} {H : Hp} (h : Heap) (hb : sysModules < h.objs.size) : ObjOk P w H (h.push { cls := .type "dict", data := .dict #[] }) h.objs.size (.dK []) :=
  ⟨Nat.zero_le _, beq_eq_false_iff_ne.mpr (Ne.symm (Nat.ne_of_lt hb)), [], .nil, Heap.DictOf.new h⟩
/-- {}, to be a dict of the kind that is wanted -/
def tDNewK : TE := fun _ H Q => ∀ p, H p = none → Q (.ref p) (upd H p (.dK []))
def tDNewT : TE := fun _ H Q => ∀ p, H p = none → Q (.ref p) (upd H p (.dT []))
section
variable {X : Cx} {pos : Pos}
theorem pe_dnewK : PE X (.Dict [] [] pos) tDNewK := fun pins s σ H Q I h =>
  wpAny_Dict_empty ⟨.ref s.heap.objs.size, _, I.laid (a := s.heap.objs.size) (o := .dK []) (t' := s.toks) (fun _ _ q => Heap.get?_push_of_some _ q) (Nat.le_refl _) (dk_empty s.heap I.big), rfl, h _ (I.hok.fresh (Nat.le_refl _))⟩
end

/-- the pairs of a display, from the left -/
def tPairs : List (TE × TE) → St → Hp → (List (V × V) → Hp → Prop) → Prop
  | [], _, H, Q => Q [] H
  | (tk, tv) :: r, σ, H, Q => tk σ H fun x H1 => tv σ H1 fun y H2 => tPairs r σ H2 fun ps H3 => Q ((x, y) :: ps) H3
abbrev VV : List (V × V) → List (Value × Value) → Prop := Paired fun p q => RelV p.1 q.1 ∧ RelV p.2 q.2
def PPs (X : Cx) (pos : Pos) (keys : List (Option Expr)) (values : List Expr) (trs : List (TE × TE)) : Prop :=
  ∀ (pins : List (Addr × Obj)) (s : Shared) (σ : St) (H : Hp) (Q : List (V × V) → Hp → Prop), Inv X pins σ H s → tPairs trs σ H Q →
    wpAny (model X.prog X.w) X.A (evalPairs (pairTrees keys values X.env pos)) (fun vs s' => ∃ ps H', Inv X pins σ H' s' ∧ VV ps vs ∧ Q ps H') X.xe s
theorem pps_nil {X : Cx} {pos : Pos} : PPs X pos [] [] [] := fun pins s σ H Q I h => pairTrees_nil_walk ⟨[], H, I, .nil, h⟩
theorem pps_cons {X : Cx} {pos : Pos} {k v : Expr} {ks : List (Option Expr)} {vs : List Expr} {tk tv : TE} {trs : List (TE × TE)} (hk : PE X k tk) (hv : PE X v tv) (hr : PPs X pos ks vs trs) :
    PPs X pos (some k :: ks) (v :: vs) ((tk, tv) :: trs) := fun pins s σ H Q I h =>
  pairTrees_cons_walk (thn (hk pins s σ H _ I h) fun u s1 ⟨x, H1, I1, rx, q1⟩ => thn (hv pins s1 σ H1 _ I1 q1) fun w2 s2 ⟨y, H2, I2, ry, q2⟩ =>
    thn (hr pins s2 σ H2 _ I2 q2) fun ws s3 ⟨ps, H3, I3, rel, q3⟩ => ⟨(x, y) :: ps, H3, I3, .cons ⟨rx, ry⟩ rel, q3⟩)

def mergeK (kvs more : List (Key × V)) : List (Key × V) := more.foldl (fun acc kv => putK acc kv.1 kv.2) kvs
theorem KV.merge : ∀ {more : List (Key × V)} {rs : List (Key × Value)} {kvs : List (Key × V)} {vs : List (Key × Value)}, KV more rs → KV kvs vs → KV (mergeK kvs more) (merged vs rs) := by
  intro more rs kvs vs r
  unfold KV at r
  induction r generalizing kvs vs with
  | nil => intro q; exact q
  | @cons p q ps qs h t ih =>
    intro r0
    have e : KV (putK kvs p.1 p.2) (stored vs q.1 q.2) := by
      have := r0.put p.1 h.2
      rw [← h.1]; exact this
    exact ih e
theorem length_mergeK : ∀ (more kvs : List (Key × V)), (mergeK kvs more).length ≤ kvs.length + more.length
  | [], kvs => by show kvs.length ≤ kvs.length + 0; omega
  | p :: r, kvs => by
    have h1 := length_mergeK r (putK kvs p.1 p.2)
    have h2 := length_putK kvs p.1 p.2
    show (mergeK (putK kvs p.1 p.2) r).length ≤ _
    rw [List.length_cons]; omega
theorem carries_of {P : Program} {w : World} : ∀ {kvs : List (Key × V)} {ws : List (Value × Value)}, VV (kvs.map fun kv => (kV kv.1, kv.2)) ws → ∃ rs, Carries (mixKind P w) ws rs ∧ KV kvs rs
  | [], _, r => by rw [List.map_nil] at r; cases r; exact ⟨[], True.intro, .nil⟩
  | p :: kvs, _, r => by
    rw [List.map_cons] at r
    cases r with
    | @cons a b as bs h t =>
      obtain ⟨rs, c, q⟩ := carries_of (P := P) (w := w) t
      obtain ⟨b1, b2⟩ := b
      exact ⟨(p.1, b2) :: rs, ⟨kV_is h.1, rfl, c⟩, .cons ⟨rfl, h.2⟩ q⟩
/-- {k: v, ..} with keys ints and texts; the new dict stands empty while the pairs are made -/
def tDisp (trs : List (TE × TE)) : TE := fun σ H Q => ∀ p, H p = none → tPairs trs σ (upd H p (.dK [])) fun ps H2 => H2 p = some (.dK []) ∧ ∃ kvs : List (Key × V), ps = kvs.map (fun kv => (kV kv.1, kv.2)) ∧ kvs.length ≤ 15 ∧ Q (.ref p) (upd H2 p (.dK (mergeK [] kvs)))
theorem pe_disp {X : Cx} {pos : Pos} {keys : List (Option Expr)} {values : List Expr} {trs : List (TE × TE)} (h : PPs X pos keys values trs) (hall : keys.all (·.isSome) = true) (hl : keys.length = values.length) (h0 : keys ≠ [])
    (h15 : keys.length ≤ 15) : PE X (.Dict keys values pos) (tDisp trs) := by
  intro pins s σ H Q I q
  have hn := I.hok.fresh (Nat.le_refl s.heap.objs.size)
  have I1 := I.laid (a := s.heap.objs.size) (o := .dK []) (h' := s.heap.push { cls := .type "dict", data := .dict #[] }) (t' := s.toks) (fun _ _ q => Heap.get?_push_of_some _ q) (Nat.le_refl _) (dk_empty s.heap I.big)
  refine wpAny_Dict_walk (knd := mixKind X.prog X.w) hall hl h0 h15 (thn (h pins _ σ _ _ I1 (q _ hn)) fun ws s2 ⟨ps, H2, I2, rel, e, kvs, ep, lk, q2⟩ => ?_)
  subst ep
  obtain ⟨rs, c, rk⟩ := carries_of (P := X.prog) (w := X.w) rel
  obtain ⟨z, hd, vs0, r0, dd⟩ := dk_of I2.hok e
  cases r0
  refine ⟨rs, c, dd, fun h' dd' hs => ⟨.ref s.heap.objs.size, _, ?_, rfl, q2⟩⟩
  have hz : (mergeK [] kvs).length ≤ sizeLine := by
    have h1 := length_mergeK kvs []
    rw [List.length_nil] at h1
    rw [sizeLine_eq]; omega
  have he : ∃ q, h'.get? s.heap.objs.size = some q := let ⟨q, _, _, hq, _⟩ := dd'; ⟨q, hq⟩
  exact d_write I2 (by rw [e]; exact True.intro) hs he (dk_new hz hd (rk.merge .nil) dd')


/-! ### methods -/
/-- a method call o.m(e) of a built-in, with one argument: what must be seen of the text -/
structure M1 (X : Cx) (o : Expr) (m : Str) (apos : Pos) (e : Expr) (cpos : Pos) : Prop where
  base : attributeBase o m X.env (eval o X.env) = eval o X.env
  few : ((backTo cpos (starEach [e] X.env)).all (fun x => !x.1) && (backToKw cpos (keywordEach [] X.env)).all (fun x => x.1.isSome)
    && decide (([e] : List Expr).length + ([] : List Keyword).length + (if ([] : List Keyword).isEmpty then 0 else 1) < 30)) = true
  line : (apos.endLine == cpos.line) = true
  trees : backTo cpos (starEach [e] X.env) = [(false, eval e X.env)]
structure M2 (X : Cx) (o : Expr) (m : Str) (apos : Pos) (e f : Expr) (cpos : Pos) : Prop where
  base : attributeBase o m X.env (eval o X.env) = eval o X.env
  few : ((backTo cpos (starEach [e, f] X.env)).all (fun x => !x.1) && (backToKw cpos (keywordEach [] X.env)).all (fun x => x.1.isSome)
    && decide (([e, f] : List Expr).length + ([] : List Keyword).length + (if ([] : List Keyword).isEmpty then 0 else 1) < 30)) = true
  line : (apos.endLine == cpos.line) = true
  trees : backTo cpos (starEach [e, f] X.env) = [(false, eval e X.env), (false, eval f X.env)]

/-- a is a dict, whatever its keys -/
def IsD (H : Hp) (a : Addr) : Prop := (∃ kvs, Rd H a (.dK kvs)) ∨ ∃ kvs, Rd H a (.dT kvs)
theorem isD_at {X : Cx} {pins : List (Addr × Obj)} {σ : St} {H : Hp} {s : Shared} {a : Addr} (I : Inv X pins σ H s) (d : IsD H a) :
    s.TypeIs (.ref a) "dict" ∧ (∀ b, Value.ref a = .ref b → ∃ ob, s.heap.get? b = some ob ∧ ob.dict = none) ∧ (a == sysModules) = false := by
  rcases d with ⟨kvs, e⟩ | ⟨kvs, e⟩
  · obtain ⟨_, hd, vs, _, dd⟩ := dk_rd I.hok e
    refine ⟨dd.typeIs, fun b q => ?_, hd⟩
    cases q
    obtain ⟨ob, _, _, h1, h2, _⟩ := dd
    exact ⟨ob, h1, h2.2.1⟩
  · obtain ⟨_, hd, xs, _, dd⟩ := dt_rd I.hok e
    refine ⟨dd.typeIs, fun b q => ?_, hd⟩
    cases q
    obtain ⟨ob, _, _, h1, h2, _⟩ := dd
    exact ⟨ob, h1, h2.2.1⟩

section
variable {X : Cx} {pins : List (Addr × Obj)} {σ : St} {H : Hp} {s : Shared} {a : Addr} {y d : V} {u r : Value} {o : Option V} {A : Around} {E : Value → Shared → Prop}
/-- d.get(y, x) -/
theorem d_get2 {Q : Value → Shared → Prop} (hu : A.units + 1 < cLine) (I : Inv X pins σ H s) (g : DGet H a y o) (ry : RelV y u) (rd : RelV d r) (h : ∀ w' s', Inv X pins σ H s' → RelV (o.getD d) w' → Q w' s') :
    wpAny (model X.prog X.w) A (call (.builtin "dict.get") [.ref a, u, r]) Q E s := by
  rcases g with ⟨kvs, k, e, ey, l⟩ | ⟨kvs, k, b, e, ey, eb, l⟩
  · subst ey
    obtain ⟨z, hd, vs, rel, dd⟩ := dk_rd I.hok e
    refine call_meetsIn PySem.F.slot_dict_get dd.typeIs PySem.F.entry_dict_get (PySem.F.args_dict_get_3 _ _ _) (meets_dict_get_default (mixKind X.prog X.w) a (kV_is ry) hd r) ⟨_, dd.mapOf, h _ _ (I.tok _) ?_⟩
    rw [l]
    exact (rel.val k).getD rd
  · subst ey
    cases (show u = Value.ref b from ry)
    obtain ⟨z, hd, xs, rel, dd⟩ := dt_rd I.hok e
    refine call_meetsIn PySem.F.slot_dict_get dd.typeIs PySem.F.entry_dict_get (PySem.F.args_dict_get_3 _ _ _) (meetsH_dict_get_default (tupleKind (mixKind X.prog X.w)) a b hd r) ⟨tupleKind_room_in1 hu, k, xs, key_of I.hok eb, dd, h _ _ (I.tok _) ?_⟩
    rw [l]
    exact (rel.val k).getD rd
end

def tDGet1 (td ty : TE) : TE := fun σ H Q => td σ H fun x H1 => ∃ a, x = .ref a ∧ IsD H1 a ∧ ty σ H1 fun y H2 => ∃ o, DGet H2 a y o ∧ Q (o.getD .non) H2
def tDGet2 (td ty tx : TE) : TE := fun σ H Q => td σ H fun x H1 => ∃ a, x = .ref a ∧ IsD H1 a ∧ ty σ H1 fun y H2 => tx σ H2 fun z H3 => ∃ o, DGet H3 a y o ∧ Q (o.getD z) H3
/-- d.pop(k): there; d.pop(k, x): there or not -/
def tDPop1 (td ty : TE) : TE := fun σ H Q => td σ H fun x H1 => ∃ a, x = .ref a ∧ IsD H1 a ∧ ty σ H1 fun y H2 => ∃ kvs k v, H2 a = some (.dK kvs) ∧ y = kV k ∧ valV kvs k = some v ∧ Q v (upd H2 a (.dK (dropK kvs k)))
def tDPop2 (td ty tx : TE) : TE := fun σ H Q => td σ H fun x H1 => ∃ a, x = .ref a ∧ IsD H1 a ∧ ty σ H1 fun y H2 => tx σ H2 fun z H3 => ∃ kvs k, H3 a = some (.dK kvs) ∧ y = kV k ∧
  (∀ v, valV kvs k = some v → Q v (upd H3 a (.dK (dropK kvs k)))) ∧ (valV kvs k = none → Q z H3)
section
variable {X : Cx} {o e f : Expr} {apos cpos : Pos} {td ty tx : TE}
theorem pe_dget2 (hu : X.A.units + 1 < cLine) (ho : PE X o td) (he : PE X e ty) (hf : PE X f tx) (m : M2 X o "get" apos e f cpos) : PE X (.Call (.Attribute o "get" apos) [e, f] [] cpos) (tDGet2 td ty tx) := by
  intro pins s σ H Q I h
  refine wpAny_Call_method m.base m.few m.line PySem.F.plainAttrs_dict PySem.F.slot_dict_get PySem.F.type_dict_get (thn (ho pins s σ H _ I h) fun u s1 ⟨x, H1, I1, rx, a, ex, d, q1⟩ => ?_)
  subst ex
  obtain rfl : u = Value.ref a := rx
  obtain ⟨t1, t2, _⟩ := isD_at I1 d
  refine ⟨t1, t2, ?_⟩
  rw [m.trees]
  refine Calls.callWith_builtin rfl (Calls.evalArgs_plain (Calls.spliced_cons (thn (he pins s1 σ H1 _ I1 q1) fun iv s2 ⟨y, H2, I2, ry, q2⟩ =>
    Calls.spliced_cons (thn (hf pins s2 σ H2 _ I2 q2) fun fv s3 ⟨z, H3, I3, rz, ov, g, q3⟩ => Calls.spliced_nil ?_))))
  exact d_get2 hu I3 g ry rz fun w' s4 I4 rw' => ⟨_, H3, I4, rw', q3⟩
end

/-! ### dict(d): a copy -/
section
variable {X : Cx} {pins : List (Addr × Obj)} {σ : St} {H : Hp} {s : Shared} {a : Addr} {kvs : List (Key × V)} {A : Around} {E : Value → Shared → Prop}
end


section
variable {X : Cx} {pins : List (Addr × Obj)} {σ : St} {H : Hp} {s : Shared} {a : Addr} {y : V} {u : Value} {A : Around} {E : Value → Shared → Prop}
end
end L2


namespace L2
open PySem PySem.Spec PyProof.Rows
section
variable {X : Cx}
theorem kV_rel {P : Program} {w : World} {k : Key} {u : Value} (h : (mixKind P w).is k u = true) : RelV (kV k) u := by
  cases k with
  | inl i => exact Value.isInt_shape (show Value.isInt i u = true from h)
  | inr x => exact Value.isStrOf_shape (show Value.isStrOf x u = true from h)
/-! ### for .. in d: the dict stands still while it is walked -/
def Itd (d : Addr) (o : Obj) (kvs : List (Key × V)) : It := ⟨fun i H => i < kvs.length ∧ H d = some (.frz o (.dK kvs)), fun i H x H' => H' = H ∧ ∃ k v, kvs[i]? = some (k, v) ∧ x = kV k, fun i H => i = kvs.length ∧ H d = some (.frz o (.dK kvs))⟩
theorem frz_at {P : Program} {w : World} {H : Hp} {h : Heap} {d : Addr} {o : Obj} {kvs : List (Key × V)} {es : Array DictEntry} {ep : Nat} (ok : HOk P w H h) (hd : o.data = .dict es ep) (e : H d = some (.frz o (.dK kvs))) :
    ∃ vs, KV kvs vs ∧ h.DictAt (mixKind P w) d vs ep := by
  obtain ⟨e1, _, _, vs, rel, o', es', ep', ho, c, hd', r⟩ := (show ObjOk P w H h d (.frz o (.dK kvs)) from ok d _ e)
  rw [e1] at ho
  cases ho
  rw [hd] at hd'
  cases hd'
  exact ⟨vs, rel, o, es, e1, c, hd, r⟩
theorem turn_dict {P : Program} {w : World} {K : PySem.W.Frag} {tg : Expr} (d it : Addr) (o : Obj) (kvs : List (Key × V)) {es : Array DictEntry} {ep : Nat} (ho : o.data = .dict es ep) : Turn P w K tg (Itd d o kvs) [it] it (fun i h => h.IsKeyIter it d i kvs.length ep) where
  mem := by simp
  obj := fun i h st b hb => by
    have e : b = it := by simpa using hb
    subst e
    obtain ⟨o, e, c, d⟩ := st
    exact ⟨o, e, fun v z => by rw [d] at z; cases z⟩
  keep := fun i h h' st k => st.at fun o e => k it (by simp) o e
  item := by
    intro X hP hw hK hc i pins s σ H E I hf st hg
    subst hP hw hK
    obtain ⟨hi, hfz⟩ := hg
    obtain ⟨vs, rel, hat⟩ := frz_at I.hok ho hfz
    have hlen := rel.length
    obtain ⟨f0, f1, f2, f3, f4, f5⟩ := hf it (by simp)
    obtain ⟨⟨k, x⟩, hx⟩ : ∃ p, vs[i]? = some p := ⟨vs[i]'(by omega), List.getElem?_eq_getElem (by omega)⟩
    rw [hlen] at st
    refine wpAny_pyNext_dict_item st hat hx fun key h' hkey hit' hs' => ?_
    have I1 : Inv X pins σ H { s with heap := h' } := I.turned (t' := s.toks) (fun b o hb e => hs'.extBut b o hb e) f0 f1 f3 f4 f5
    obtain ⟨o2, e, c, d2⟩ := id hit'
    rw [← hlen] at hit'
    have ek : (kvs.map (·.1))[i]? = some k := by rw [rel.keys, List.getElem?_map, hx]; rfl
    rw [List.getElem?_map] at ek
    obtain ⟨⟨k', v⟩, hk1, hk2⟩ : ∃ p, kvs[i]? = some p ∧ p.1 = k := by
      cases z : kvs[i]? with
      | none => rw [z] at ek; cases ek
      | some p => rw [z] at ek; exact ⟨p, rfl, Option.some.inj ek⟩
    dsimp only at hk2
    subst hk2
    exact ⟨key, rfl, go_of (s := { s with heap := h' }) e c d2 (by decide) ⟨kV k', H, I1, kV_rel hkey, ⟨rfl, k', v, hk1, rfl⟩, hit', fun b hb => (hf b hb).1⟩⟩
  done := by
    intro X hP hw hK hc i pins s σ H E I hf st hg
    subst hP hw hK
    obtain ⟨f0, f1, f2, f3, f4, f5⟩ := hf it (by simp)
    obtain ⟨hi, hfz⟩ := hg
    obtain ⟨vs, rel, hat⟩ := frz_at I.hok ho hfz
    have hlen := rel.length
    subst hi
    rw [hlen] at st
    exact wpAny_pyNext_dict_end (I.ok.hd hc) st hat (by simp) fun h' eb => ⟨rfl, I.turned (t' := s.toks) (fun b o hb e => eb b o hb e) f0 f1 f3 f4 f5⟩
  self := fun _ _ _ _ _ st h => wpAny_pyIter_keyiter st h
def iDict (te : TE) : TI := fun σ H R => te σ H fun x H1 => ∃ (d : Addr) (kvs : List (Key × V)), x = .ref d ∧ H1 d = some (.dK kvs) ∧ ∀ o, R (Itd d o kvs) (upd H1 d (.frz o (.dK kvs)))
theorem pi_dict {tg e : Expr} {te : TE} (he : PE X e te) : PI X tg e (iDict te) := by
  intro pins s σ H R I h
  refine thn (he pins s σ H _ I h) fun v s1 ⟨x, H1, I1, r1, q1⟩ => ?_
  obtain ⟨d, kvs, rfl, hd, q⟩ := q1
  cases (show v = Value.ref d from r1)
  obtain ⟨hz, lo, vs, rel, dd⟩ := dk_of I1.hok hd
  have hlen := rel.length
  obtain ⟨o, es, ep, ho, hx, hdat, hk, hp, hn⟩ := id dd
  have hat : s1.heap.DictAt (mixKind X.prog X.w) d vs ep := ⟨o, es, ho, hx, hdat, hk, hp, hn⟩
  refine wpAny_pyIter_dict lo hat ?_
  have I2 : Inv X pins σ (upd H1 d (.frz o (.dK kvs))) s1 := I1.write (x := d) (e := d) (t' := s1.toks) (h' := s1.heap) (by rw [hd]; trivial) (.inl rfl) (fun b u _ q => q) ⟨o, ho⟩ ⟨ho, hz, lo, vs, rel, dd⟩
  have I3 : Inv X pins σ (upd H1 d (.frz o (.dK kvs))) { s1 with heap := s1.heap.push { cls := .type "dict_keyiterator", data := .fields #[.ref d, .int 0 0, .int vs.length 0, .int ep 0] } } := I2.kept (t' := s1.toks) fun b u e => Heap.get?_push_of_some _ e
  refine ⟨s1.heap.objs.size, [s1.heap.objs.size], _, _, _, rfl, I3, turn_dict d _ o kvs hdat, ⟨_, Heap.get?_push_size _ rfl, rfl, by rw [hlen]; rfl⟩, fun b hb => ?_, q o⟩
  have e : b = s1.heap.objs.size := by simpa using hb
  subst e
  exact I2.fpOk (Nat.le_refl _) (I2.hok.fresh (Nat.le_refl _))
end
section
variable {K : PySem.W.Frag} {m : Nat} {js : List Nat} {g : TG} {c : TT} {te : TE} {σ : St} {H1 : Hp} {Q : VK}
theorem comp_dictG {d : Addr} {o : Obj} {kvs : List (Key × V)} (hd : H1 d = some (.frz o (.dK kvs))) (Pv : Addr → Nat → List V → Hp → Prop) (hS : ∀ acc i ys H, Pv acc i ys H → Same H1 H) (h0 : ∀ acc, H1 acc = none → Pv acc 0 [] (upd H1 acc (.lst [])))
    (turn : ∀ acc i k v ys H, H1 acc = none → i < kvs.length → kvs[i]? = some (k, v) → H acc = some (.lst ys) → Pv acc i ys H → g (kV k) (pick m js σ) H fun σ2 H2 => Wk (pick m js σ) σ2 ∧ c σ2 H2 fun b H3 => if b = true then te σ2 H3 fun y H4 => CPut kvs.length acc (Pv acc) i y H4 else CSkip kvs.length acc (Pv acc) i H3)
    (hQ : ∀ acc ys H, H1 acc = none → H acc = some (.lst ys) → Pv acc kvs.length ys H → Q (.ref acc) H) : tCompR m js g c te (Itd d o kvs) σ H1 Q := by
  intro acc hacc
  refine ⟨CW kvs.length acc (Pv acc), ⟨_, rfl, Nat.zero_le _, [], upd_same, h0 acc hacc⟩, ?_⟩
  rintro i m' H ⟨rfl, hi, ys, hy, p⟩
  have S := hS acc i ys H p
  by_cases hlt : i < kvs.length
  · refine .inr ⟨⟨hlt, S _ _ hd⟩, fun x H' y => ?_⟩
    obtain ⟨e, k, v, hk, ex⟩ := y
    subst e ex
    exact turn acc i k v ys _ hacc hlt hk hy p
  · have e : i = kvs.length := by omega
    subst e
    exact .inl ⟨⟨rfl, S _ _ hd⟩, hQ acc ys H hacc hy p⟩
end
end L2

namespace OL
open PySem L2
/-- how many bits stand in a number -/
def popc (n : Nat) : Nat := if h : n = 0 then 0 else n % 2 + popc (n / 2)
termination_by n
decreasing_by omega
section
variable {many : Int} {bs : List Int} (hb : ∀ x ∈ bs, InB many x)
include hb
end
def ofB (bs : List Int) (least : Int) (i : Nat) : Bool := decide (least ≤ countF bs (i : Int))
def ofKV (bs : List Int) (i : Nat) : Key × V := (Sum.inl (i : Int), V.int (colF bs (i : Int)))
def oftenKV (bs : List Int) (least : Int) (n : Nat) : List (Key × V) := ((List.range n).filter (ofB bs least)).map (ofKV bs)
def oftenR (bs : List Int) (least : Int) (n : Nat) : List (Int × Int) := ((List.range n).filter (ofB bs least)).map fun (i : Nat) => ((i : Int), countF bs (i : Int))
def keepKV (kvs : List (Key × V)) (least lot col : Int) : List (Key × V) := if least ≤ ((popc col.toNat : Nat) : Int) then putK kvs (.inl lot) (.int col) else kvs
/-- the lots gone through, and what a thing more brings behind them -/
def moreKV (bs : List Int) (least : Int) (t j : Nat) : List (Key × V) := oftenKV bs least (2 ^ t) ++ (((((List.range (2 ^ t)).filter (ofB bs least)).take j).filter fun i => ofB bs least (2 ^ t + i)).map fun i => ofKV bs (2 ^ t + i))
def spPlaces : Sp := fun vs H Q _ => ∃ x : Int, vs = [.int x] ∧ 0 ≤ x ∧ Q (.int ((popc x.toNat : Nat) : Int)) H
def spKeep : Sp := fun vs H Q _ => ∃ (d : Addr) (kvs : List (Key × V)) (least lot col : Int), vs = [.ref d, .int least, .int lot, .int col] ∧ H d = some (.dK kvs) ∧ kvs.length ≤ 5000 ∧ 0 ≤ col ∧ ∀ H', SameB d H H' → TSame H H' → H' d = some (.dK (keepKV kvs least lot col)) → Q .non H'
def spOftenC (K : PySem.W.Frag) : Sp := fun vs H Q _ => ∃ (b : Addr) (many : Int) (bs : List Int) (least : Int), vs = [.ref b, .int least] ∧ Bk K H b many bs ∧ bs.length ≤ 500 ∧ 0 ≤ many ∧ many ≤ 10 ∧ (∀ x ∈ bs, InB many x) ∧ ∀ (d : Addr) (H' : Hp), Same H H' → H d = none → H' d = some (.dK (oftenKV bs least (2 ^ many.toNat))) → Q (.ref d) H'
def spByC (K : PySem.W.Frag) : Sp := fun vs H Q _ => ∃ (b : Addr) (many : Int) (bs : List Int) (least : Int), vs = [.ref b, .int least] ∧ Bk K H b many bs ∧ bs.length ≤ 500 ∧ 0 ≤ many ∧ many ≤ 10 ∧ (∀ x ∈ bs, InB many x) ∧ ∀ (r : Addr) (xs : List V) (H' : Hp), Same H H' → H r = none → H' r = some (.lst xs) → Rows H' xs (oftenR bs least (2 ^ many.toNat)) → Q (.ref r) H'
end OL
namespace OL
open PySem L2
def TupAll (H : Hp) (xs : List V) (n : Nat) : Prop := ∀ x ∈ xs, ∃ (p : Addr) (ms : List Int), x = .ref p ∧ H p = some (.tup (ms.map V.int)) ∧ ms.length = n
theorem TupAll.same {H H' : Hp} {xs : List V} {n : Nat} (h : TupAll H xs n) (S : Same H H') : TupAll H' xs n := fun x hx => by
  obtain ⟨p, ms, e, hp, hl⟩ := h x hx
  exact ⟨p, ms, e, S _ _ hp, hl⟩
def spRowsL : Sp := fun vs H Q _ => ∃ (f : Addr) (xs : List V) (n : Nat), vs = [.ref f, .int (n : Int)] ∧ H f = some (.lst xs) ∧ TupAll H xs n ∧ n ≤ 10 ∧ ∀ H', Same H H' → Q (.bl true) H'
def spLeast62 : Sp := fun vs H Q _ => ∃ (l b bl : Addr) (ds bs : List Int) (many : Int), vs = [.ref l, .ref b] ∧ H l = some (.lst (ds.map V.int)) ∧ H b = some (.tup [.int many, .ref bl]) ∧ H bl = some (.lst (bs.map V.int)) ∧ bl ≠ l ∧ bs.length ≤ 500 ∧ ∀ (d : Int) (ds' : List Int) (H' : Hp), SameB l H H' → H' l = some (.lst (ds'.map V.int)) → 1 ≤ d → Q (.int d) H'
end OL

namespace OL
open PySem L2
def olF (bs : List Int) (least lot : Int) : Bool := decide (least ≤ countF bs lot) && leastP bs lot
def rowsP (bs : List Int) (p : Int → Bool) (n : Nat) : List (Int × Int) := ((List.range n).filter fun (i : Nat) => p (i : Int)).map fun (i : Nat) => ((i : Int), countF bs (i : Int))
def spOL (K : PySem.W.Frag) : Sp := fun vs H Q _ => ∃ (b : Addr) (many : Int) (bs : List Int) (least lot : Int), vs = [.ref b, .int least, .int lot] ∧ Bk K H b many bs ∧ bs.length ≤ 500 ∧ 0 ≤ many ∧ many ≤ 12 ∧ Sm lot ∧ ∀ H', Same H H' → Q (.bl (olF bs least lot)) H'
def spRowsB (K : PySem.W.Frag) (p : List Int → Int → Int → Bool) : Sp := fun vs H Q _ => ∃ (b : Addr) (many : Int) (bs : List Int) (least : Int), vs = [.ref b, .int least] ∧ Bk K H b many bs ∧ bs.length ≤ 500 ∧ 0 ≤ many ∧ many ≤ 12 ∧ ∀ (r : Addr) (xs : List V) (H' : Hp), Same H H' → H r = none → H' r = some (.lst xs) → Rows H' xs (rowsP bs (p bs least) (2 ^ many.toNat)) → Q (.ref r) H'
end OL
namespace OL
open PySem L2
def dlF (many : Int) (bs : List Int) (least lot : Int) : Bool := decide (least ≤ countF bs lot) && leastL many bs lot
def spDue (K : PySem.W.Frag) : Sp := fun vs H Q _ => ∃ (b : Addr) (many : Int) (bs : List Int) (least : Int), vs = [.ref b, .int least] ∧ Bk K H b many bs ∧ bs.length ≤ 500 ∧ 0 ≤ many ∧ many ≤ 12 ∧ (∀ x ∈ bs, InB many x) ∧ ∀ (r : Addr) (xs : List V) (H' : Hp), Same H H' → H r = none → H' r = some (.lst xs) → Rows H' xs (rowsP bs (olF bs least) (2 ^ many.toNat)) → Q (.ref r) H'
def spTold : Sp := fun vs H Q _ => ∃ (f d : Addr) (xs ys : List V) (rs : List (Int × Int)), vs = [.ref f, .ref d] ∧ H f = some (.lst xs) ∧ H d = some (.lst ys) ∧ Rows H xs rs ∧ Rows H ys rs ∧ ∀ H', Same H H' → Q (.bl true) H'
end OL

namespace L2
open PySem PySem.Spec PyProof.Rows
/-! ### for .. in d.items() -/
def Iti (d : Addr) (o : Obj) (kvs : List (Key × V)) : It := ⟨fun i H => i < kvs.length ∧ H d = some (.frz o (.dK kvs)), fun i H x H' => ∃ p k v, x = .ref p ∧ H p = none ∧ H' = upd H p (.tup [kV k, v]) ∧ kvs[i]? = some (k, v), fun i H => i = kvs.length ∧ H d = some (.frz o (.dK kvs))⟩
section
variable {X : Cx}
def iItems (te : TE) : TI := fun σ H R => te σ H fun x H1 => ∃ (d : Addr) (kvs : List (Key × V)), x = .ref d ∧ H1 d = some (.dK kvs) ∧ ∀ o, R (Iti d o kvs) (upd H1 d (.frz o (.dK kvs)))
end
end L2

namespace Tim
open PySem PyProof.Rows
def gallop' : Bool → Keyed → Array Keyed → Nat → Nat → Nat → StateT SortSt Sem (Option Nat) := sortPriv% PySem.Builtin.gallop
def mergeLo' : Array Keyed → Array Keyed → StateT SortSt Sem (Array Keyed) := sortPriv% PySem.Builtin.mergeLo
def mergeHi' : Array Keyed → Array Keyed → StateT SortSt Sem (Array Keyed) := sortPriv% PySem.Builtin.mergeHi
abbrev setGal (st : SortSt) (g : Nat) : SortSt := SortSt.mk' (kindOf st) (arrOf st) (pendingOf st) g (failedOf st)
/-- comparing two keys leaves all as it is and tells their order -/
def CmpOk (prog : Program) (w : World) (A : Around) (s : Shared) (κ : KeyKind) (kd : SortKind) : Prop :=
  ∀ (E : Value → Shared → Prop) (x y : Value) (a b : κ.α) (Q : Bool → Shared → Prop), κ.keyOf x = some a → κ.keyOf y = some b → Q (κ.blt a b) s → wpAny (model prog w) A (keyLt' kd x y) Q E s
section
variable {prog : Program} {w : World} {A : Around} {E : Value → Shared → Prop} {s : Shared} {κ : KeyKind} {kd : SortKind}
/-- all keys of the array can be read -/
def Good (κ : KeyKind) (zs : Array Keyed) : Prop := ∀ (i : Nat) (p : Keyed), zs[i]? = some p → ∃ a, κ.keyOf p.1 = some a
theorem Good.at {zs : Array Keyed} (g : Good κ zs) {i : Nat} (hi : i < zs.size) : ∃ p, zs[i]? = some p ∧ κ.keyOf p.1 = some (KK κ zs i) := by
  have e : zs[i]? = some zs[i] := getElem?_pos zs i hi
  obtain ⟨a, ha⟩ := g i _ e
  refine ⟨_, e, ?_⟩
  unfold KK
  rw [e, ha]
  show some a = some ((κ.keyOf zs[i].fst).getD κ.dflt)
  rw [ha]; rfl
/-- is the item at i ahead of where p belongs -/
def bey (κ : KeyKind) (left : Bool) (kp : κ.α) (zs : Array Keyed) (i : Nat) : Bool := if left then κ.blt (KK κ zs i) kp else !κ.blt kp (KK κ zs i)
def ahead (left : Bool) (p : Keyed) (zs : Array Keyed) (i : Nat) : StateT SortSt Sem (Option Bool) := do
  let q ← elem' zs i
  if left then lt' q p else return (← lt' p q).map (!·)
end
end Tim

namespace Tim
open PySem PyProof.Rows
section
variable {κ : KeyKind}
def ky (κ : KeyKind) (p : Keyed) : κ.α := (κ.keyOf p.1).getD κ.dflt
def le (κ : KeyKind) (p q : Keyed) : Prop := κ.kle (ky κ p) (ky κ q)
theorem take_at {L : List Keyed} {i t : Nat} (ht : t < L.length) (h : t < i) : L[t] ∈ L.take i := by
  rw [List.mem_iff_getElem]
  exact ⟨t, by rw [List.length_take]; omega, by rw [List.getElem_take]⟩
/-- what is told by then, of A its first i, of B its first j -/
structure MI (κ : KeyKind) (A B O : List Keyed) (i j : Nat) : Prop where
  perm : O.Perm (A.take i ++ B.take j)
  srt : O.Pairwise (le κ)
  la : ∀ x ∈ O, ∀ y ∈ A.drop i, le κ x y
  lb : ∀ x ∈ O, ∀ y ∈ B.drop j, le κ x y
def Res (κ : KeyKind) (A B M : List Keyed) : Prop := M.Perm (A ++ B) ∧ M.Pairwise (le κ)
variable {A B O : List Keyed} {i j : Nat}
/-- the same from the end: told are those of A from i on and those of B from j on -/
structure MH (κ : KeyKind) (A B R : List Keyed) (i j : Nat) : Prop where
  perm : R.Perm (A.drop i ++ B.drop j)
  srt : R.Pairwise (le κ)
  la : ∀ x ∈ A.take i, ∀ y ∈ R, le κ x y
  lb : ∀ x ∈ B.take j, ∀ y ∈ R, le κ x y
end
end Tim

namespace Tim
open PySem PyProof.Rows
section
variable {κ : KeyKind}
end
section
variable {prog : Program} {w : World} {A : Around} {E : Value → Shared → Prop} {s : Shared} {κ : KeyKind} {kd : SortKind}
def OK1 (κ : KeyKind) (a b : Array Keyed) (st st' : SortSt) (o : Array Keyed) (i j : Nat) : Prop := (∃ g, setGal st g = st') ∧ MI κ a.toList b.toList o.toList i j ∧ i + 1 < a.size ∧ j < b.size
end
end Tim

namespace Tim
open PySem PyProof.Rows
section
variable {κ : KeyKind} {A B R : List Keyed} {i j : Nat}
end
section
variable {prog : Program} {w : World} {A : Around} {E : Value → Shared → Prop} {s : Shared} {κ : KeyKind} {kd : SortKind}
def OK2 (κ : KeyKind) (a b : Array Keyed) (st st' : SortSt) (i j : Nat) (o : Array Keyed) : Prop := (∃ g, setGal st g = st') ∧ MH κ a.toList b.toList o.toList.reverse i j ∧ 0 < i ∧ 1 < j ∧ i ≤ a.size ∧ j ≤ b.size
end
end Tim

namespace Tim
open PySem PyProof.Rows
section
variable {κ : KeyKind}
/-- rising from lo to hi -/
def Ri (κ : KeyKind) (zs : Array Keyed) (lo hi : Nat) : Prop := ∀ u v, lo ≤ u → u ≤ v → v < hi → κ.kle (KK κ zs u) (KK κ zs v)
abbrev Rn := Nat × Nat × Nat
/-- runs, one behind the other, from a to b -/
def Runs (κ : KeyKind) (zs : Array Keyed) : List Rn → Nat → Nat → Prop
  | [], a, b => a = b
  | r :: rs, a, b => r.1 = a ∧ 0 < r.2.1 ∧ Ri κ zs a (a + r.2.1) ∧ Runs κ zs rs (a + r.2.1) b
theorem Runs.le {zs : Array Keyed} : ∀ {L : List Rn} {a b : Nat}, Runs κ zs L a b → a + L.length ≤ b
  | [], a, b, h => by have h : a = b := h; simp [h]
  | r :: rs, a, b, h => by
    obtain ⟨h1, h2, h3, h4⟩ := h
    have := Runs.le h4
    rw [List.length_cons]; omega
theorem Ri.frame {zs ys : Array Keyed} {lo hi : Nat} (h : Ri κ zs lo hi) (e : ∀ k, lo ≤ k → k < hi → KK κ ys k = KK κ zs k) : Ri κ ys lo hi := fun u v h1 h2 h3 => by
  rw [e u h1 (by omega), e v (by omega) h3]; exact h u v h1 h2 h3
theorem Runs.frame {zs ys : Array Keyed} : ∀ {L : List Rn} {a b : Nat}, Runs κ zs L a b → (∀ k, a ≤ k → k < b → KK κ ys k = KK κ zs k) → Runs κ ys L a b
  | [], _, _, h, _ => h
  | r :: rs, a, b, h, e => by
    obtain ⟨h1, h2, h3, h4⟩ := h
    have q := Runs.le h4
    exact ⟨h1, h2, h3.frame fun k k1 k2 => e k k1 (by omega), h4.frame fun k k1 k2 => e k (by omega) k2⟩
theorem Runs.push {zs : Array Keyed} {n p : Nat} (hn : 0 < n) : ∀ {L : List Rn} {a b : Nat}, Runs κ zs L a b → Ri κ zs b (b + n) → Runs κ zs (L ++ [(b, n, p)]) a (b + n)
  | [], a, b, h, r => by
    have h : a = b := h
    subst h
    exact ⟨rfl, hn, r, rfl⟩
  | r :: rs, a, b, h, s => by
    obtain ⟨h1, h2, h3, h4⟩ := h
    exact ⟨h1, h2, h3, h4.push hn s⟩
structure Two (κ : KeyKind) (zs : Array Keyed) (a b : Nat) (r q : Rn) : Prop where
  next : q.1 = r.1 + r.2.1
  n1 : 0 < r.2.1
  n2 : 0 < q.2.1
  s1 : Ri κ zs r.1 (r.1 + r.2.1)
  s2 : Ri κ zs q.1 (q.1 + q.2.1)
  lo : a ≤ r.1
  hi : q.1 + q.2.1 ≤ b
theorem Runs.two {zs : Array Keyed} : ∀ {L : List Rn} {a b i : Nat} {r q : Rn}, Runs κ zs L a b → L[i]? = some r → L[i + 1]? = some q → Two κ zs a b r q
  | r' :: q' :: rs, a, b, 0, r, q, h, e1, e2 => by
    obtain ⟨h1, h2, h3, g1, g2, g3, g4⟩ := h
    simp at e1 e2
    subst e1 e2
    have := g4.le
    exact ⟨by omega, h2, g2, by rw [h1]; exact h3, by rw [g1]; exact g3, by omega, by omega⟩
  | r' :: rs, a, b, i + 1, r, q, h, e1, e2 => by
    obtain ⟨h1, h2, h3, h4⟩ := h
    have T := Runs.two (i := i) h4 (by simpa using e1) (by simpa using e2)
    exact ⟨T.next, T.n1, T.n2, T.s1, T.s2, by have := T.lo; omega, T.hi⟩
  | [], _, _, _, _, _, _, e1, _ => by simp at e1
  | [_], _, _, 0, _, _, _, _, e2 => by simp at e2
theorem Runs.merge {zs ys : Array Keyed} : ∀ {L : List Rn} {a b i : Nat} {r q : Rn}, Runs κ zs L a b → L[i]? = some r → L[i + 1]? = some q → Ri κ ys r.1 (r.1 + (r.2.1 + q.2.1)) →
    (∀ k, (k < r.1 ∨ q.1 + q.2.1 ≤ k) → KK κ ys k = KK κ zs k) → Runs κ ys ((L.set i (r.1, r.2.1 + q.2.1, r.2.2)).eraseIdx (i + 1)) a b
  | r' :: q' :: rs, a, b, 0, r, q, h, e1, e2, S, F => by
    obtain ⟨h1, h2, h3, g1, g2, g3, g4⟩ := h
    simp at e1 e2
    subst e1 e2
    show Runs κ ys ((r'.1, r'.2.1 + q'.2.1, r'.2.2) :: rs) a b
    refine ⟨h1, by show 0 < r'.2.1 + q'.2.1; omega, by rw [h1] at S; exact S, ?_⟩
    show Runs κ ys rs (a + (r'.2.1 + q'.2.1)) b
    rw [← Nat.add_assoc]
    exact g4.frame fun k k1 k2 => F k (.inr (by omega))
  | r' :: rs, a, b, i + 1, r, q, h, e1, e2, S, F => by
    obtain ⟨h1, h2, h3, h4⟩ := h
    have T := Runs.two (i := i) h4 (by simpa using e1) (by simpa using e2)
    have lo := T.lo
    rw [List.set_cons_succ, List.eraseIdx_cons_succ]
    exact ⟨h1, h2, h3.frame fun k k1 k2 => F k (.inl (by omega)), h4.merge (by simpa using e1) (by simpa using e2) S F⟩
  | [], _, _, _, _, _, _, e1, _, _, _ => by simp at e1
  | [_], _, _, 0, _, _, _, _, e2, _, _ => by simp at e2
end
section
variable {prog : Program} {w : World} {A : Around} {E : Value → Shared → Prop} {s : Shared} {κ : KeyKind} {kd : SortKind}
theorem Good.ex {zs : Array Keyed} (g : Good κ zs) (m n : Nat) : Good κ (zs.extract m n) := fun i p h => by
  have hm : p ∈ (zs.extract m n).toList := by
    rw [← Array.getElem?_toList] at h; exact List.mem_of_getElem? h
  rw [Array.toList_extract, List.extract_eq_take_drop] at hm
  obtain ⟨j, hj, e⟩ := List.mem_iff_getElem.mp (List.mem_of_mem_drop (List.mem_of_mem_take hm))
  exact g j p (by rw [← Array.getElem?_toList, List.getElem?_eq_getElem hj, e])
end
end Tim

namespace Tim
open PySem PyProof.Rows
section
variable {κ : KeyKind}
/-- the same things, and all as it was outside lo to hi -/
structure Fr0 (κ : KeyKind) (lo hi : Nat) (zs ys : Array Keyed) : Prop where
  perm : ys.toList.Perm zs.toList
  out : ∀ k, (k < lo ∨ hi ≤ k) → KK κ ys k = KK κ zs k
def De (κ : KeyKind) (zs : Array Keyed) (lo hi : Nat) : Prop := ∀ u v, lo ≤ u → u ≤ v → v < hi → κ.kle (KK κ zs v) (KK κ zs u)
variable {lo hi : Nat} {zs ys : Array Keyed}
theorem Fr0.refl (zs : Array Keyed) : Fr0 κ lo hi zs zs := ⟨List.Perm.refl _, fun _ _ => rfl⟩
theorem Fr0.size (F : Fr0 κ lo hi zs ys) : ys.size = zs.size := by
  rw [← Array.length_toList, ← Array.length_toList]; exact F.perm.length_eq
end
section
variable {prog : Program} {w : World} {A : Around} {E : Value → Shared → Prop} {s : Shared} {κ : KeyKind} {kd : SortKind}
end
end Tim

namespace Tim
open PySem PyProof.Rows
section
variable {prog : Program} {w : World} {A : Around} {E : Value → Shared → Prop} {s : Shared} {κ : KeyKind} {kd : SortKind}
/-- a state on the way: all of z0 is there, runs up to lo -/
structure On (κ : KeyKind) (kd : SortKind) (z0 : Array Keyed) (lo : Nat) (st : SortSt) : Prop where
  kind : kindOf st = kd
  fail : failedOf st = none
  perm : (arrOf st).toList.Perm z0.toList
  runs : Runs κ (arrOf st) (pendingOf st).toList 0 lo
theorem On.size {z0 : Array Keyed} {lo : Nat} {st : SortSt} (o : On κ kd z0 lo st) : (arrOf st).size = z0.size := by
  rw [← Array.length_toList, ← Array.length_toList]; exact o.perm.length_eq
end
end Tim

namespace Tim
open PySem PyProof.Rows PySem.W
def lev (κ : KeyKind) (x y : Value) : Prop := κ.kle ((κ.keyOf x).getD κ.dflt) ((κ.keyOf y).getD κ.dflt)
/-- what sorting asks of the state it is done in -/
structure Sorts (prog : Program) (w : World) (s : Shared) (κ : KeyKind) (kd : SortKind) (vs : List Value) : Prop where
  cmp : ∀ A, CmpOk prog w A s κ kd
  kind : 2 ≤ vs.length → ∀ (A : Around) (E : Value → Shared → Prop) (Q : SortKind → Shared → Prop), Q kd s → wpAny (model prog w) A (keyKind' vs.toArray) Q E s
  keys : ∀ v ∈ vs, ∃ a, κ.keyOf v = some a
section
variable {prog : Program} {w : World} {A : Around} {E : Value → Shared → Prop} {s : Shared}
/-- the heap while it is sorted: the list is empty, two new things behind -/
def midHeap (h : Heap) (a : Addr) (vs : List Value) : Heap := ((h.update a (Obj.mapSeq fun _ => #[])).push (seqObj "tuple" vs.toArray 0)).push (seqObj "list" #[] 0)
/-! ### whole numbers -/
@[reducible] def intK : KeyKind where
  α := Int
  blt a b := decide (a < b)
  irrefl a := by simp
  trans a b c h1 h2 := by simp only [decide_eq_true_eq] at *; omega
  negTrans a b c h := by simp only [decide_eq_true_eq] at *; omega
  total a b h1 h2 := by simp only [decide_eq_false_iff_not] at *; omega
  keyOf v := match v with | .int x _ => some x | _ => none
  dflt := 0
/-! ### tuples of whole numbers -/
def intOf : Value → Option Int
  | .int n _ => some n
  | _ => none
def decT (h : Heap) (v : Value) : Option (List Int) := match v with
  | .ref a => match h.get? a with
    | some o => match o.data with
      | .seq xs _ => xs.toList.mapM intOf
      | _ => none
    | none => none
  | _ => none
@[reducible] def tupK (h : Heap) : KeyKind where
  α := List Int
  blt a b := decide (a < b)
  irrefl a := by simpa using List.lt_irrefl a
  trans a b c h1 h2 := by simp only [decide_eq_true_eq] at *; exact List.lt_trans h1 h2
  negTrans a b c h := by
    simp only [decide_eq_true_eq] at *
    by_cases hab : a < b
    · exact .inl hab
    · exact .inr (List.lt_of_le_of_lt (List.not_lt.mp hab) h)
  total a b h1 h2 := by simp only [decide_eq_false_iff_not] at *; exact List.le_antisymm (List.not_lt.mp h2) (List.not_lt.mp h1)
  keyOf v := decT h v
  dflt := []
end
end Tim

namespace L2
open PySem PySem.Spec PyProof.Rows
section
variable {X : Cx}
/-- sorted of a list of whole numbers, of any length -/
def rSortZ (K : PySem.W.Frag) : List V → Hp → VK → Prop := fun xs H Q => ∃ (p : Addr) (ns : List Int), xs = [.ref p] ∧ SqL K H p (ns.map V.int) ∧ ∀ (l : Addr) (ns' : List Int), H l = none → ns'.Perm ns → ns'.Pairwise (· ≤ ·) → Q (.ref l) (upd H l (.lst (ns'.map V.int)))
/-- sorted of a list of tuples of whole numbers, each told by its key -/
def TupK (K : PySem.W.Frag) {α : Type} (key : α → List Int) (H : Hp) (x : V) (r : α) : Prop := ∃ p, x = .ref p ∧ SqT K H p ((key r).map V.int)
def rSortG (K : PySem.W.Frag) {α : Type} (key : α → List Int) (R : Hp → V → α → Prop) : List V → Hp → VK → Prop := fun xs H Q => ∃ (p : Addr) (ys : List V) (rs : List α), xs = [.ref p] ∧ SqL K H p ys ∧ Paired (R H) ys rs ∧ (∀ r ∈ rs, key r ≠ []) ∧
  ∀ (l : Addr) (zs : List V) (rs' : List α), H l = none → rs'.Perm rs → rs'.Pairwise (fun a b => ¬ key b < key a) → Paired (R H) zs rs' → Q (.ref l) (upd H l (.lst zs))
/-- sorted of rows -/
def rleq (a b : Int × Int) : Prop := a.1 < b.1 ∨ (a.1 = b.1 ∧ a.2 ≤ b.2)
def rSortR (K : PySem.W.Frag) : List V → Hp → VK → Prop := fun xs H Q => ∃ (p : Addr) (ys : List V) (rs : List (Int × Int)), xs = [.ref p] ∧ SqL K H p ys ∧ Rows H ys rs ∧
  ∀ (l : Addr) (zs : List V) (rs' : List (Int × Int)), H l = none → rs'.Perm rs → rs'.Pairwise rleq → Rows H zs rs' → Q (.ref l) (upd H l (.lst zs))
/-- a row in a list of rows -/
def rInR (K : PySem.W.Frag) (neg : Bool) : R2 := fun x y H Q => ∃ (p : Addr) (ys : List V) (rs : List (Int × Int)) (r : Int × Int), y = .ref p ∧ SqL K H p ys ∧ Rows H ys rs ∧ Row H x r ∧ Q (.bl (if neg then !rs.any (fun q => decide (q = r)) else rs.any fun q => decide (q = r))) H
def isRowV (H : Hp) (r : Int × Int) : Value → Bool
  | .ref a => match H a with
    | some (.tup [.int i, .int j]) => decide ((i, j) = r)
    | _ => false
  | _ => false
end
end L2

namespace PySem
open Sem (wp)
section
variable {prog : Program} {w : World} {A : Around} {E : Value → Shared → Prop} {s : Shared} {a : Addr}
end
end PySem

namespace PySem
open PyProof.Rows
section
variable {prog : Program} {w : World} {K : Type} [DecidableEq K] {knd : KeyKind prog w K} {A : Around} {R : Result → Shared → Prop}
end
end PySem

namespace L2
open PySem PySem.Spec PyProof.Rows
/-- rows as a table -/
def tabR (rs : List (Int × Int)) : List (Key × V) := rs.map fun r => (.inl r.1, .int r.2)
section
variable {X : Cx}
end
end L2

namespace OL
open PySem L2
/-! ### how many things a lot has -/
def sz (x : Nat) : Nat := (List.range 12).countP fun t => x.testBit t
/-! ### rows looked up -/
def inR (rs : List (Int × Int)) (f : Int) : Bool := rs.any fun r => decide (r.1 = f)
theorem inR_iff {rs : List (Int × Int)} {f : Int} : inR rs f = true ↔ ∃ r ∈ rs, r.1 = f := by
  unfold inR
  rw [List.any_eq_true]
  constructor
  · rintro ⟨r, h1, h2⟩; exact ⟨r, h1, of_decide_eq_true h2⟩
  · rintro ⟨r, h1, h2⟩; exact ⟨r, h1, decide_eq_true h2⟩
def wt (lot : Int) (t : Nat) : Int := Builtin.bitOr lot (1 * 2 ^ t)
/-! ### levels -/
def levR (bs : List Int) (least : Int) (n k : Nat) : List (Int × Int) := ((List.range n).filter fun i => ofB bs least i && (sz i == k)).map fun (i : Nat) => ((i : Int), countF bs (i : Int))
def okB (rs : List (Int × Int)) (x : Int) : Bool := (fewF x).all fun f => inR rs f
def moreL (rs : List (Int × Int)) (lot : Int) (j : Nat) : List Int := ((List.range j).filter fun t => okB rs (wt lot (Builtin.Int.intBits lot + t))).map fun t => wt lot (Builtin.Int.intBits lot + t)
def nextU (many : Int) (rs : List (Int × Int)) (i : Nat) : List Int := (rs.take i).flatMap fun r => moreL rs r.1 (many.toNat - Builtin.Int.intBits r.1)
def candB (bs : List Int) (least : Int) (k i : Nat) : Bool := (sz i == k + 1) && (fewF (i : Int)).all fun f => decide (least ≤ countF bs f)
def candL (bs : List Int) (least : Int) (n k : Nat) : List Int := ((List.range n).filter (candB bs least k)).map fun (i : Nat) => (i : Int)
section
variable {many : Int} {bs : List Int} (hb : ∀ x ∈ bs, InB many x)
include hb
end
end OL

namespace L2
open PySem PySem.Spec PyProof.Rows
theorem for_dict {d : Addr} {o : Obj} {kvs : List (Key × V)} {g : TG} {tb : TS} {D : Ends} {σ : St} {H : Hp} (Pv : Nat → St → Hp → Prop) (h0 : Pv 0 σ H) (hl : ∀ i σ H, i ≤ kvs.length → Pv i σ H → H d = some (.frz o (.dK kvs)))
    (hs : ∀ i k v σ H, kvs[i]? = some (k, v) → Pv i σ H → g (kV k) σ H fun σ2 H2 => tb { D with nx := Pv (i + 1), ct := Pv (i + 1), bk := D.nx } σ2 H2) (hd : ∀ σ H, Pv kvs.length σ H → D.nx σ H) :
    ∃ W : Nat → Nat → St → Hp → Prop, (∃ m, W 0 m σ H) ∧ ∀ i m σ H, W i m σ H →
      ((Itd d o kvs).stop i H ∧ D.nx σ H) ∨ ((Itd d o kvs).go i H ∧ ∃ N : St → Hp → Prop, (∀ σ' H', N σ' H' → ∃ m', m' < m ∧ W (i + 1) m' σ' H') ∧ ∀ x H', (Itd d o kvs).yld i H x H' → g x σ H' fun σ2 H2 => tb { D with nx := N, ct := N, bk := D.nx } σ2 H2) := by
  refine ⟨fun i m σ H => m = kvs.length - i ∧ i ≤ kvs.length ∧ Pv i σ H, ⟨kvs.length, by simp, Nat.zero_le _, h0⟩, ?_⟩
  rintro i m σ H ⟨rfl, hi, p⟩
  have q := hl i σ H hi p
  by_cases hlt : i < kvs.length
  · refine .inr ⟨⟨hlt, q⟩, Pv (i + 1), fun σ' H' p' => ⟨kvs.length - (i + 1), by omega, rfl, hlt, p'⟩, fun x H' y => ?_⟩
    obtain ⟨e, k, v, e4, ex⟩ := y
    subst e ex
    exact hs i k v σ _ e4 p
  · have e : i = kvs.length := by omega
    subst e
    exact .inl ⟨⟨rfl, q⟩, hd σ H p⟩
/-- a dict that is read while it is walked -/
theorem DGet.f {H : Hp} {a : Addr} {kvs : List (Key × V)} {o : Obj} {k : Key} (e : H a = some (.frz o (.dK kvs))) : DGet H a (kV k) (valV kvs k) := .inl ⟨kvs, k, .inr ⟨o, e⟩, rfl, rfl⟩
end L2

namespace OL
open PySem L2
def rowsC (bs ns : List Int) : List (Int × Int) := ns.map fun x => (x, countF bs x)
def spCounted (K : PySem.W.Frag) : Sp := fun vs H Q _ => ∃ (b l : Addr) (many : Int) (bs ns : List Int), vs = [.ref b, .ref l] ∧ Bk K H b many bs ∧ bs.length ≤ 500 ∧ 0 ≤ many ∧ many ≤ 64 ∧ SqL K H l (ns.map V.int) ∧ ns.length ≤ 5000 ∧
  ∀ (r : Addr) (xs : List V) (H' : Hp), Same H H' → H r = none → H' r = some (.lst xs) → Rows H' xs (rowsC bs ns) → Q (.ref r) H'
def spAmong (K : PySem.W.Frag) (p : Int → Int × Int → Bool) : Sp := fun vs H Q _ => ∃ (b l : Addr) (many : Int) (bs ns : List Int) (least : Int), vs = [.ref b, .int least, .ref l] ∧ Bk K H b many bs ∧ bs.length ≤ 500 ∧ 0 ≤ many ∧ many ≤ 64 ∧ SqL K H l (ns.map V.int) ∧ ns.length ≤ 5000 ∧
  ∀ (r : Addr) (xs : List V) (H' : Hp), Same H H' → H r = none → H' r = some (.lst xs) → Rows H' xs ((rowsC bs ns).filter (p least)) → Q (.ref r) H'
def ofP (least : Int) (r : Int × Int) : Bool := decide (r.2 ≥ least)
def raP (least : Int) (r : Int × Int) : Bool := decide (r.2 < least)
def spNext : Sp := fun vs H Q _ => ∃ (a : Addr) (many : Int) (xs : List V) (rs : List (Int × Int)), vs = [.int many, .ref a] ∧ 0 ≤ many ∧ many ≤ 12 ∧ H a = some (.lst xs) ∧ Rows H xs rs ∧ (rs.map Prod.fst).Nodup ∧ (∀ r ∈ rs, Sm r.1) ∧ rs.length ≤ 4096 ∧
  ∀ (r : Addr) (ns : List Int) (H' : Hp), Same H H' → H r = none → ns.Perm (nextU many rs rs.length) → ns.Pairwise (· ≤ ·) → H' r = some (.lst (ns.map V.int)) → Q (.ref r) H'
def spLevels (K : PySem.W.Frag) : Sp := fun vs H Q _ => ∃ (b : Addr) (many : Int) (bs : List Int) (least : Int), vs = [.ref b, .int least] ∧ Bk K H b many bs ∧ bs.length ≤ 500 ∧ 0 ≤ many ∧ many ≤ 12 ∧ (∀ x ∈ bs, InB many x) ∧
  ∀ (r : Addr) (ls : List Addr) (H' : Hp), Same H H' → H r = none → H' r = some (.lst (ls.map V.ref)) → levR bs least (2 ^ many.toNat) ls.length = [] → (∀ k, k < ls.length → levR bs least (2 ^ many.toNat) k ≠ []) →
    (∀ (k : Nat) (a : Addr), ls[k]? = some a → H a = none ∧ a ≠ r ∧ RL H' a (levR bs least (2 ^ many.toNat) k)) → ls.Nodup → Q (.ref r) H'
def spOftenB (K : PySem.W.Frag) : Sp := fun vs H Q _ => ∃ (b : Addr) (many : Int) (bs : List Int) (least : Int), vs = [.ref b, .int least] ∧ Bk K H b many bs ∧ bs.length ≤ 500 ∧ 0 ≤ many ∧ many ≤ 12 ∧ (∀ x ∈ bs, InB many x) ∧
  ∀ (r : Addr) (xs : List V) (H' : Hp), Same H H' → H r = none → H' r = some (.lst xs) → Rows H' xs (oftenR bs least (2 ^ many.toNat)) → Q (.ref r) H'
theorem big5 {n : Nat} (h : n ≤ 65000) : n < sizeLine := Nat.lt_of_le_of_lt h (by decide)
end OL

namespace OL
open PySem L2
def rareR (bs : List Int) (least : Int) (n k : Nat) : List (Int × Int) := (rowsC bs (candL bs least n k)).filter (raP least)
def rare0 (bs : List Int) (least : Int) : List (Int × Int) := (rowsC bs [0]).filter (raP least)
def bordB (bs : List Int) (least : Int) (i : Nat) : Bool := !ofB bs least i && (fewF (i : Int)).all fun f => decide (least ≤ countF bs f)
def bordR (bs : List Int) (least : Int) (n : Nat) : List (Int × Int) := ((List.range n).filter (bordB bs least)).map fun (i : Nat) => ((i : Int), countF bs (i : Int))
def spBord (K : PySem.W.Frag) : Sp := fun vs H Q _ => ∃ (b : Addr) (many : Int) (bs : List Int) (least : Int), vs = [.ref b, .int least] ∧ Bk K H b many bs ∧ bs.length ≤ 500 ∧ 0 ≤ many ∧ many ≤ 12 ∧ (∀ x ∈ bs, InB many x) ∧
  ∀ (r : Addr) (xs : List V) (H' : Hp), Same H H' → H r = none → H' r = some (.lst xs) → Rows H' xs (bordR bs least (2 ^ many.toNat)) → Q (.ref r) H'
/-! ### the things of a lot below twelve, as the law tells them -/
def b12 (n : Nat) (t : Int) : Bool := Builtin.bitAnd ((n : Int) / 2 ^ t.toNat) 1 == 1
def th12 (n : Nat) : List Int := upto (b12 n) 12
def fw12 (n : Nat) : List Int := (th12 n).map fun t => (n : Int) - 1 * 2 ^ t.toNat
def spTh12 : Sp := fun vs H Q _ => ∃ n : Nat, vs = [.int (n : Int)] ∧ n < 4096 ∧ ∀ (r : Addr) (H' : Hp), Same H H' → H r = none → H' r = some (.lst ((th12 n).map V.int)) → Q (.ref r) H'
end OL

namespace OL
open PySem L2
def dLev (bs : List Int) (least : Int) (n L : Nat) : PyData := .list ((List.range L).map fun k => .list ((levR bs least n k).map dRow))
end OL

namespace L2
open PySem PySem.Spec PyProof.Rows
section
variable {X : Cx}
/-- sorted(d), d a dict of whole numbers -/
def rSortD : List V → Hp → VK → Prop := fun xs H Q => ∃ (d : Addr) (rs : List (Int × Int)), xs = [.ref d] ∧ H d = some (.dK (tabR rs)) ∧ ∀ (l : Addr) (ns : List Int), H l = none → ns.Perm (rs.map Prod.fst) → ns.Pairwise (· ≤ ·) → Q (.ref l) (upd H l (.lst (ns.map V.int)))
/-- min(xs), xs a list of whole numbers -/
theorem call_minL (hc : X.calm = true) : CallR X (.builtin "min") (fun xs H Q => ∃ (p : Addr) (ns : List Int), xs = [.ref p] ∧ SqL X.K H p (ns.map V.int) ∧ 0 < ns.length ∧ ∀ c : Int, c ∈ ns → (∀ x ∈ ns, c ≤ x) → Q (.int c) H) := by
  intro pins s σ H xs us Q I r h
  obtain ⟨p, ns, rfl, hq, hne, q⟩ := h
  obtain ⟨u, rfl, ru⟩ := vals1 r
  cases (show u = Value.ref p from ru)
  obtain ⟨its, rv, pl, hz⟩ := I.list hq
  have hi := intsAre_of rv
  obtain ⟨ys, e⟩ := (show PySem.AllInts its.toArray from hi.allInts).items
  have hl := pl.isList
  rw [e] at hl
  have hlen := hi.length
  have hys : 0 < ys.size := by
    have : its.toArray.size = ys.size := by rw [e]; simp [intItems]
    rw [List.size_toArray] at this
    omega
  have es : PySem.numsOf its.toArray.toList = ns := by rw [show its.toArray.toList = its from rfl, hi.numsOf]
  rw [e, nums_intItems] at es
  have hnum : ∀ i : Nat, i < ys.size → ∃ hi : i < ns.length, numAt ys i = ns[i] := fun i h => by
    subst es
    refine ⟨by simpa using h, ?_⟩
    simp [numAt, h]
  have hsz : ns.length = ys.size := by rw [← es]; simp
  refine PySem.min_intList (I.ok.hd hc) hl hys fun v h' tk hv kp => ?_
  obtain ⟨b1, b2⟩ := argBest_lt (numAt ys) (ys.size - 1)
  obtain ⟨t, rfl⟩ := intItems_at hv
  generalize argBest (fun i j => decide (numAt ys i < numAt ys j)) (ys.size - 1) = m at b1 b2 hv
  obtain ⟨hm1, hm2⟩ := hnum m (by omega)
  refine ⟨.int (numAt ys m), H, I.kept (t' := tk) kp, ⟨t, rfl⟩, q _ (by rw [hm2]; exact List.getElem_mem _) fun x hx => ?_⟩
  obtain ⟨i, hi1, rfl⟩ := List.getElem_of_mem hx
  obtain ⟨hi2, e2⟩ := hnum i (by omega)
  rw [← e2]
  exact b2 i (by omega)
end
end L2

namespace OL
open PySem L2
def numR (rs : List (Int × Int)) (f : Int) : Int := ((rs.find? fun r => decide (r.1 = f)).map (·.2)).getD 0
theorem valV_num (rs : List (Int × Int)) (f : Int) : valV (tabR rs) (.inl f) = (rs.find? fun r => decide (r.1 = f)).map fun r => V.int r.2 := by
  unfold valV tabR
  induction rs with
  | nil => rfl
  | cons r rs ih =>
    rw [List.map_cons, List.find?_cons, List.find?_cons]
    by_cases e : r.1 = f
    · subst e; simp
    · have : decide ((Sum.inl r.1 : Key) = Sum.inl f) = false := by simpa using e
      simp only [this, decide_eq_false e]
      exact ih
theorem nn (i : Nat) : (0 : Int) ≤ (i : Int) := Int.natCast_nonneg i
section
variable {many : Int} {bs : List Int} (hb : ∀ x ∈ bs, InB many x)
include hb
def insideL (bs : List Int) (least : Int) (n : Nat) (j : Int) : List Int := ((bordR bs least n).filter fun r => Builtin.bitAnd r.1 j == r.1).map Prod.fst
def besideL (bs : List Int) (least : Int) (n : Nat) (j : Int) : List Int := ((bordR bs least n).filter fun r => (Builtin.bitAnd r.1 j == r.1) && !(r.1 == j)).map Prod.fst
end
def up1 (r : Int × Int) : Int × Int := (r.1, r.2 + 1)
end OL

namespace OL
open PySem L2
def wantB (many : Int) (bs : List Int) (rs : List (Int × Int)) (n : Int) : Bool := (!(closeF many bs n == n)) && (ptF rs n).isNone
def fewU (many : Int) (bs : List Int) : Nat → List (Int × Int)
  | 0 => []
  | n + 1 => if wantB many bs (fewU many bs n) (n : Int) = true then fewU many bs n ++ [((n : Int), closeF many bs (n : Int) - (n : Int))] else fewU many bs n
/-- a lot in the law's way: what breaks it -/
def brkL (many : Int) (bs : List Int) (lot o : Int) : Bool := (Builtin.bitAnd o lot == o) && !(Builtin.bitAnd (closeL many bs o) lot == closeL many bs o)
def wantsL (many : Int) (bs : List Int) (lot : Int) (ls : List Int) : Bool := (!(closeL many bs lot == lot)) && !(ls.any fun o => brkL many bs lot o)
def wlotsU (many : Int) (bs : List Int) : Nat → List Int
  | 0 => []
  | n + 1 => if wantsL many bs (n : Int) (wlotsU many bs n) = true then wlotsU many bs n ++ [(n : Int)] else wlotsU many bs n
section
variable {many : Int} {bs : List Int} (hb : ∀ x ∈ bs, InB many x)
include hb
end
def spKeeps : Sp := fun vs H Q _ => ∃ (a : Addr) (rs : List (Int × Int)) (lot : Int), vs = [.int lot, .ref a] ∧ RL H a rs ∧ ∀ H', Same H H' → Q (.bl (ptF rs lot).isNone) H'
def spFew (K : PySem.W.Frag) : Sp := fun vs H Q _ => ∃ (b : Addr) (many : Int) (bs : List Int), vs = [.ref b] ∧ Bk K H b many bs ∧ bs.length ≤ 500 ∧ 0 ≤ many ∧ many ≤ 12 ∧ (∀ x ∈ bs, InB many x) ∧ ∀ (r : Addr) (xs : List V) (H' : Hp), Same H H' → H r = none → H' r = some (.lst xs) → Rows H' xs (fewU many bs (2 ^ many.toNat)) → Q (.ref r) H'
def spWants (K : PySem.W.Frag) : Sp := fun vs H Q _ => ∃ (b o : Addr) (many : Int) (bs : List Int) (lot : Int) (ls : List Int), vs = [.ref b, .int lot, .ref o] ∧ Bk K H b many bs ∧ bs.length ≤ 500 ∧ 0 ≤ many ∧ many ≤ 12 ∧ SqL K H o (ls.map V.int) ∧ ∀ H', Same H H' → Q (.bl (wantsL many bs lot ls)) H'
end OL

namespace L2
open PySem PySem.Spec PyProof.Rows
section
variable {X : Cx} {e e3 : Expr} {te : TE} {t3 : TO} {pos p2 : Pos}
/-- xs[::-1] of a list -/
def tRev (K : PySem.W.Frag) (te : TE) (t3 : TO) : TE := fun σ H Q => te σ H fun x H1 => t3 σ H1 fun o H2 => ∃ a xs, o = some (-1) ∧ x = .ref a ∧ SqL K H2 a xs ∧ ∀ p, H2 p = none → Q (.ref p) (upd H2 p (.lst xs.reverse))
end
end L2

namespace OL
open PySem L2
def tw (r : Int × Int) : Int × Int := (r.1, 2 * r.2)
/-! ### two things exchanged -/
def exI (x s t : Int) : Int := if (Builtin.bitAnd (x / 2 ^ s.toNat) 1 == Builtin.bitAnd (x / 2 ^ t.toNat) 1) = true then x else Builtin.bitXor x (Builtin.bitOr (1 * 2 ^ s.toNat) (1 * 2 ^ t.toNat))
def sw (s t i : Nat) : Nat := if i = s then t else if i = t then s else i
section
variable {many : Int} {bs : List Int} (hb : ∀ x ∈ bs, InB many x) {s t : Int}
include hb
end
def exR (s t : Int) (r : Int × Int) : Int × Int := (exI r.1 s t, r.2)
/-! ### slices -/
def spEx : Sp := fun vs H Q _ => ∃ x s t : Int, vs = [.int x, .int s, .int t] ∧ 0 ≤ s ∧ s ≤ 64 ∧ 0 ≤ t ∧ t ≤ 64 ∧ Q (.int (exI x s t)) H
end OL

namespace L2
open PySem PySem.Spec PyProof.Rows
/-! max(list of lists, key=len, default=[]) -/
section
variable {prog : Program} {w : World} {A : Around} {R : Result → Shared → Prop} {it : Addr} {fp wr : List Addr} {n : Nat} {PP : Nat → Value → Prop} {St : Nat → Heap → Prop} {h0 : Heap} {kf : Nat → Int} {d : Value}
end
section
variable {X : Cx}
def tMaxLen (K : PySem.W.Frag) (ta : TA) : TE := fun σ H Q => ta σ H fun vs H1 => ∃ (a : Addr) (xs : List Addr) (ys : Nat → List V), vs = [.ref a] ∧ SqL K H1 a (xs.map V.ref) ∧ (∀ i x, xs[i]? = some x → SqL K H1 x (ys i)) ∧
  ∀ d, H1 d = none → (xs = [] → Q (.ref d) (upd H1 d (.lst []))) ∧ (∀ i x, xs[i]? = some x → (∀ j, j < xs.length → (ys j).length ≤ (ys i).length) → Q (.ref x) (upd H1 d (.lst [])))
end
end L2

namespace OL
open PySem L2
section
variable {many : Int} {bs : List Int} (hb : ∀ x ∈ bs, InB many x)
include hb
end
def Heads (H : Hp) (c : Int) (xs : List Addr) : Prop := ∀ x ∈ xs, ∃ t : List Int, H x = some (.lst ((c :: t).map V.int))
def spLongest : Sp := fun vs H Q _ => ∃ (a : Addr) (rs : List (Int × Int)), vs = [.ref a] ∧ RL H a rs ∧ rs.length ≤ 1000 ∧ (∀ q rs', rs = q :: rs' → ∀ r ∈ rs, hasF r.1 q.1 = true) ∧
  ∀ (r : Addr) (ys : List Int) (H' : Hp), Same H H' → H' r = some (.lst (ys.map V.int)) → (rs = [] → ys = []) → (∀ q rs', rs = q :: rs' → ∃ t, ys = q.1 :: t) → Q (.ref r) H'
def spLongestOf (K : PySem.W.Frag) : Sp := fun vs H Q _ => ∃ (a : Addr) (xs : List Addr) (ys : Nat → List V), vs = [.ref a] ∧ SqL K H a (xs.map V.ref) ∧ (∀ i x, xs[i]? = some x → SqL K H x (ys i)) ∧
  ∀ (H' : Hp), Same H H' → (∀ d, xs = [] → H d = none → H' d = some (.lst []) → Q (.ref d) H') ∧ (∀ i x, xs[i]? = some x → (∀ j, j < xs.length → (ys j).length ≤ (ys i).length) → Q (.ref x) H')
def spOrder : Sp := fun vs H Q _ => ∃ (p l : Addr) (x y z : Int) (bs : List Int), vs = [.ref p, .ref l] ∧ H p = some (.lst [.int x, .int y, .int z]) ∧ H l = some (.lst (bs.map V.int)) ∧ p ≠ l ∧ bs.length ≤ 500 ∧
  ∀ (r : Addr) (bs' : List Int) (x' y' z' : Int) (H' : Hp), SameB p H H' → H r = none → H' r = some (.lst (bs'.map V.int)) → bs'.Perm bs → H' p = some (.lst [.int x', .int y', .int z']) → Q (.ref r) H'
end OL

namespace OL
open PySem L2
/-! ### lots cut out: at least as many as there are unlike baskets -/
/-- every part of x is some member's part in x -/
def cutB (F : List Nat) (n x : Nat) : Bool := (List.range n).all fun y => (!(y &&& x == y)) || F.any fun b => b &&& x == y
end OL

namespace L2
open PySem PySem.Spec PyProof.Rows
/-- new objects, several at once -/
def mrg (H N : Hp) : Hp := fun b => match N b with | some o => some o | none => H b
section
variable {X : Cx}
/-- list(d.items()), d a dict of whole numbers to whole numbers -/
def tListItems (te : TE) : TE := fun σ H Q => te σ H fun x H1 => ∃ (d : Addr) (rs : List (Int × Int)), x = .ref d ∧ H1 d = some (.dK (tabR rs)) ∧
  ∀ (l : Addr) (xs : List V) (H2 : Hp), Same H1 H2 → H1 l = none → H2 l = some (.lst xs) → Rows H2 xs rs → Q (.ref l) H2
open Classical in
noncomputable def rowN (L : Addr) (as : List Addr) (rs : List (Int × Int)) : Hp := fun b => if b = L then some (.lst (as.map V.ref)) else if h : ∃ j : Nat, as[j]? = some b then some (.tup [.int (rs.getD h.choose (0, 0)).1, .int (rs.getD h.choose (0, 0)).2]) else none
end
end L2

namespace L2
open PySem PySem.Spec PyProof.Rows
end L2
namespace OL
open PySem L2
/-! ### parts of a lot -/
def wiF (n : Nat) (i : Nat) : List Int := ((List.range i).filter fun (y : Nat) => Builtin.bitAnd (y : Int) (n : Int) == (y : Int)).map fun (y : Nat) => (y : Int)
def cutI' (bs : List Int) (lot : Int) : List Int := bs.map fun b => Builtin.bitAnd b lot
def toldF (bs : List Int) (n : Nat) (lot : Int) : List Int := (justU (cutI' bs lot) n).map Prod.fst
def cOut (bs : List Int) (n x : Nat) : Bool := toldF bs n (x : Int) == wiF x (x + 1)
theorem and_nat' (x y : Nat) : Builtin.bitAnd (x : Int) (y : Int) = ((x &&& y : Nat) : Int) := by
  rw [PyProof.Rows.bitAnd_pp (nn x) (nn y), Int.toNat_natCast, Int.toNat_natCast]
def outL (bs : List Int) (n i : Nat) : List Int := ((List.range i).filter (cOut bs n)).map fun (x : Nat) => (x : Int)
def fewL (k : Int) (i : Nat) : List Int := ((List.range i).filter fun x => decide ((sz x : Int) < k)).map fun (x : Nat) => (x : Int)
/-! ### counting in a dict -/
def CInv (cs : List Int) (rs : List (Int × Int)) : Prop := (rs.map Prod.fst).Nodup ∧ (∀ r ∈ rs, r.1 ∈ cs ∧ r.2 = (eqN cs r.1 : Int)) ∧ ∀ x ∈ cs, ∃ r ∈ rs, r.1 = x
def addR (rs : List (Int × Int)) (x : Int) : List (Int × Int) := if inR rs x = true then rs.map (fun r => if r.1 = x then (r.1, r.2 + 1) else r) else rs ++ [(x, 1)]
def spSz : Sp := fun vs H Q _ => ∃ n : Nat, vs = [.int (n : Int)] ∧ n < 4096 ∧ ∀ H', Same H H' → Q (.int (sz n : Int)) H'
def spWi : Sp := fun vs H Q _ => ∃ n : Nat, vs = [.int (n : Int)] ∧ n < 4096 ∧ ∀ (r : Addr) (H' : Hp), Same H H' → H r = none → H' r = some (.lst ((wiF n (n + 1)).map V.int)) → Q (.ref r) H'
def spJu (K : PySem.W.Frag) : Sp := fun vs H Q _ => ∃ (l : Addr) (many : Int) (bs : List Int), vs = [.int many, .ref l] ∧ SqL K H l (bs.map V.int) ∧ bs.length ≤ 100 ∧ 0 ≤ many ∧ many ≤ 5 ∧ (∀ x ∈ bs, InB many x) ∧ ∀ (r : Addr) (xs : List V) (H' : Hp), Same H H' → H r = none → H' r = some (.lst xs) → Rows H' xs (justU bs (2 ^ many.toNat)) → Q (.ref r) H'
def spCt (K : PySem.W.Frag) : Sp := fun vs H Q _ => ∃ (l : Addr) (many : Int) (bs : List Int), vs = [.ref l] ∧ SqL K H l (bs.map V.int) ∧ bs.length ≤ 100 ∧ (∀ x ∈ bs, InB many x) ∧ ∀ (r : Addr) (xs : List V) (H' : Hp), Same H H' → H r = none → H' r = some (.lst xs) → Rows H' xs (justU bs (2 ^ many.toNat)) → Q (.ref r) H'
def spLo : Sp := fun vs H Q _ => ∃ (p : Addr) (many rows x y z : Int), vs = [.ref p, .int many, .int rows] ∧ 1 ≤ many ∧ many ≤ 5 ∧ 0 ≤ rows ∧ rows ≤ 30 ∧ H p = some (.lst [.int x, .int y, .int z]) ∧
  ∀ (r : Addr) (bs : List Int) (x' y' z' : Int) (H' : Hp), SameB p H H' → H r = none → H' r = some (.lst (bs.map V.int)) → bs.length ≤ 100 → (∀ x ∈ bs, InB many x) → H' p = some (.lst [.int x', .int y', .int z']) → Q (.ref r) H'
end OL

/-! a comprehension whose own names may be cells (a comprehension within it reads them) -/
namespace L2
open PySem PySem.Spec PyProof.Rows

theorem cellsFrom_app : ∀ (names : List (Str × NameKind)) (n : Nat) (acc : List (Str × Addr)), cellsFrom n names acc = cellsFrom n names [] ++ acc
  | [], _, _ => rfl
  | (name, kind) :: r, n, acc => by
    unfold cellsFrom
    split
    · rw [cellsFrom_app r (n + 1) ((name, n) :: acc), cellsFrom_app r (n + 1) [(name, n)], List.append_assoc]; rfl
    · exact cellsFrom_app r n acc
theorem cellsFrom_mem : ∀ (names : List (Str × NameKind)) (n : Nat) (acc : List (Str × Addr)) {x : Str} {c : Addr}, (x, c) ∈ cellsFrom n names acc → (x, NameKind.cell) ∈ names ∨ (x, c) ∈ acc
  | [], _, _, _, _, h => .inr h
  | (name, kind) :: r, n, acc, x, c, h => by
    unfold cellsFrom at h
    split at h
    · rename_i hk
      rcases cellsFrom_mem r (n + 1) _ h with z | z
      · exact .inl (List.mem_cons_of_mem _ z)
      · rcases List.mem_cons.mp z with e | z
        · cases e
          have : kind = .cell := by simpa using hk
          subst this
          exact .inl List.mem_cons_self
        · exact .inr z
    · rcases cellsFrom_mem r n _ h with z | z
      · exact .inl (List.mem_cons_of_mem _ z)
      · exact .inr z

theorem lookup_app {l1 l2 : List (Str × Addr)} {x : Str} : (l1 ++ l2).lookup x = match l1.lookup x with | some c => some c | none => l2.lookup x := by
  induction l1 with
  | nil => rfl
  | cons p r ih =>
    obtain ⟨n, c⟩ := p
    rw [List.cons_append, List.lookup_cons, List.lookup_cons]
    cases x == n with
    | true => rfl
    | false => exact ih

theorem wpAny_newFunctionEnv_comp {M : Model} {A : Around} {E : Value → Shared → Prop} {s : Shared} {scope : Scope} {globals : Addr} {cl : List (Str × Addr)} {qual : Str} {env : Env} {Q : Env → Shared → Prop}
    (hQ : Q (newEnv scope s.heap.objs.size globals (cellsFrom (s.heap.objs.size + 1) scope.names cl) qual none .none (some env) builtinsNs) { s with heap := pushCells (s.heap.push { cls := .type "dict", data := .dict #[] }) scope.names }) :
    wpAny M A (newFunctionEnv scope globals cl [] qual none .none (some env)) Q E s := by
  simp only [newFunctionEnv, Option.isSome_some, if_true]
  refine wpAny_bind (wpAny_alloc ?_)
  refine wpAny_bind (wpAny_layCells _ (fun name kind cells => by cases hkc : kind == NameKind.cell <;> simp [hkc]) _ _ _ _ ?_)
  rw [show ({ s with heap := s.heap.push { cls := .type "dict", data := .dict #[] } } : Shared).heap.objs.size = s.heap.objs.size + 1 from Heap.size_push ..]
  refine wpAny_bind ?_
  rw [List.forIn_nil]
  exact wpAny_pure (wpAny_pure hQ)

/-- the scope that stands there, or one relabelled -/
def RelSc (a b : Scope) : Prop := a = b ∨ ∃ env, a = relabel b env
theorem relabel_kept {scope : Scope} {env : Env} {x : Str} (h : scope.names.lookup x = some .cell ∨ scope.names.lookup x = some .free) : (relabel scope env).names.lookup x = some .cell ∨ (relabel scope env).names.lookup x = some .free := by
  have go : ∀ names : List (Str × NameKind), (names.lookup x = some .cell ∨ names.lookup x = some .free) → (names.map fun (n, k) => if (k == NameKind.free && env.scope.kind == .function && env.kindOf n == some .cell) then (n, NameKind.cell) else (n, k)).lookup x = some .cell ∨
      (names.map fun (n, k) => if (k == NameKind.free && env.scope.kind == .function && env.kindOf n == some .cell) then (n, NameKind.cell) else (n, k)).lookup x = some .free := by
    intro names
    induction names with
    | nil => intro h; rcases h with h | h <;> cases h
    | cons p r ih =>
      obtain ⟨n, k⟩ := p
      intro h
      rw [List.lookup_cons] at h
      rw [List.map_cons]
      by_cases hc : (k == NameKind.free && env.scope.kind == .function && env.kindOf n == some .cell) = true
      · simp only [hc, if_true]
        rw [List.lookup_cons]
        cases hx : x == n with
        | true => exact .inl rfl
        | false => rw [hx] at h; exact ih h
      · have hc' : (k == NameKind.free && env.scope.kind == .function && env.kindOf n == some .cell) = false := by simpa using hc
        simp only [hc', Bool.false_eq_true, if_false]
        rw [List.lookup_cons]
        cases hx : x == n with
        | true => rw [hx] at h; exact h
        | false => rw [hx] at h; exact ih h
  exact go _ h

def Cx.compC (X : Cx) (scope : Scope) (own : List Str) (js : List Nat) (cl : List (Str × Addr)) (s : Shared) (H : Hp) (C : Addr) (fp : List Addr) : Cx :=
  { prog := X.prog, w := X.w, K := X.K, mg := X.mg, base := X.base, A := X.A, N := own ++ js.map (fun j => X.N.getD j ""), s₀ := s, H₀ := H, env := compEnvC scope cl C X.env, outer := X.stack, stack := X.stack, ex := fp,
    fn := fun x => scope.names.lookup x == some .cell, calm := X.calm, pn := [], xe := fun _ _ => False }
structure CompScopeCN (sc : Scope) (N : List Str) (scope : Scope) (js : List Nat) : Prop where
  kind : scope.kind = .function
  cell : ∀ x ∈ scope.names, x.2 = .cell → scope.names.lookup x.1 = some .cell
  names : ∀ x ∈ scope.names, x.2 = .local → scope.names.lookup x.1 = some .local
  free : ∀ x ∈ scope.names, x.2 = .free → sc.names.lookup x.1 = some .cell ∨ sc.names.lookup x.1 = some .free
  js : ∀ j ∈ js, scope.names.lookup (N.getD j "") ≠ some .local ∧ scope.names.lookup (N.getD j "") ≠ some .cell
structure CompScopeC (X : Cx) (scope : Scope) (own : List Str) (js : List Nat) : Prop where
  kind : scope.kind = .function
  cell : ∀ x ∈ scope.names, x.2 = .cell → scope.names.lookup x.1 = some .cell
  names : ∀ x ∈ scope.names, x.2 = .local → scope.names.lookup x.1 = some .local
  free : ∀ x ∈ scope.names, x.2 = .free → X.env.kindOf x.1 = some .cell ∨ X.env.kindOf x.1 = some .free
  js : ∀ j ∈ js, scope.names.lookup (X.N.getD j "") ≠ some .local ∧ scope.names.lookup (X.N.getD j "") ≠ some .cell

section
variable {X : Cx} {scope : Scope} {own : List Str} {js : List Nat}
theorem CompScopeCN.cs {sc : Scope} {N : List Str} (S : CompScopeCN sc N scope js) (h1 : RelSc X.env.scope sc) (h2 : X.N = N) : CompScopeC X scope own js := by
  subst h2
  refine ⟨S.kind, S.cell, S.names, fun x hx hf => ?_, S.js⟩
  have := S.free x hx hf
  rcases h1 with e | ⟨env, e⟩
  · show X.env.scope.names.lookup _ = _ ∨ X.env.scope.names.lookup _ = _
    rw [e]; exact this
  · show X.env.scope.names.lookup _ = _ ∨ X.env.scope.names.lookup _ = _
    rw [e]; exact relabel_kept this

/-- what the cells of the block are: the closure's, and new ones -/
structure CellsIn (X : Cx) (scope : Scope) (cl : List (Str × Addr)) (C : Addr) (h1 : Heap) : Prop where
  what : ∀ x c, cl.lookup x = some c → (X.env.cells.lookup x = some c ∧ (x, NameKind.cell) ∉ scope.names) ∨ (@LT.lt Nat _ C c ∧ h1.IsCell c none ∧ (x, NameKind.cell) ∈ scope.names)
  inj : ∀ x y c, (x, NameKind.cell) ∈ scope.names → (y, NameKind.cell) ∈ scope.names → cl.lookup x = some c → cl.lookup y = some c → x = y
  has : ∀ n, (n, NameKind.free) ∈ scope.names ∨ (n, NameKind.cell) ∈ scope.names → ∃ c, cl.lookup n = some c

theorem cells_in {cl0 : List (Str × Addr)} {h : Heap} {C : Addr} (S : CompScopeC X scope own js) (hcl : ∀ x c, cl0.lookup x = some c → X.env.cells.lookup x = some c) (hcl2 : ∀ n, (n, NameKind.free) ∈ scope.names → ∃ c, cl0.lookup n = some c)
    (hC : @Eq Nat h.objs.size (C + 1)) : CellsIn X scope (cellsFrom (C + 1) scope.names cl0) C (pushCells h scope.names) := by
  have ok := cellsFrom_ok scope.names h (C + 1) [] ⟨fun _ _ hm => (nomatch hm), List.Pairwise.nil⟩ (Nat.le_of_eq hC.symm)
  rw [hC] at ok
  have cases2 : ∀ x c, (cellsFrom (C + 1) scope.names cl0).lookup x = some c → ((cellsFrom (C + 1) scope.names []).lookup x = some c) ∨ ((cellsFrom (C + 1) scope.names []).lookup x = none ∧ cl0.lookup x = some c) := fun x c e => by
    rw [cellsFrom_app, lookup_app] at e
    cases q : (cellsFrom (C + 1) scope.names []).lookup x with
    | some c' => rw [q] at e; exact .inl e
    | none => rw [q] at e; exact .inr ⟨rfl, e⟩
  have newMem : ∀ x c, (cellsFrom (C + 1) scope.names []).lookup x = some c → (x, NameKind.cell) ∈ scope.names := fun x c e => (cellsFrom_mem _ _ _ (PySem.mem_of_lookup e)).elim id fun z => nomatch z
  have newHas : ∀ x, (x, NameKind.cell) ∈ scope.names → ∃ c, (cellsFrom (C + 1) scope.names []).lookup x = some c := fun x hx => Option.isSome_iff_exists.mp (PySem.W.cellsFrom_some scope.names _ [] (.inl (S.cell _ hx rfl)))
  refine ⟨fun x c e => ?_, fun x y c hx hy e1 e2 => ?_, fun n hn => ?_⟩
  · rcases cases2 x c e with q | ⟨q, e⟩
    · obtain ⟨z1, z2⟩ := ok.empty x c (PySem.mem_of_lookup q)
      exact .inr ⟨z2, z1, newMem x c q⟩
    · refine .inl ⟨hcl x c e, fun hm => ?_⟩
      obtain ⟨c', e'⟩ := newHas x hm
      rw [q] at e'; cases e'
  · have g : ∀ x, (x, NameKind.cell) ∈ scope.names → (cellsFrom (C + 1) scope.names cl0).lookup x = some c → (cellsFrom (C + 1) scope.names []).lookup x = some c := fun x hm e => by
      rcases cases2 x c e with q | ⟨q, e⟩
      · exact q
      · obtain ⟨c', e'⟩ := newHas x hm
        rw [q] at e'; cases e'
    exact name_of_addr ok.apart (PySem.mem_of_lookup (g x hx e1)) (PySem.mem_of_lookup (g y hy e2))
  · rw [cellsFrom_app, lookup_app]
    cases q : (cellsFrom (C + 1) scope.names []).lookup n with
    | some c' => exact ⟨c', rfl⟩
    | none =>
      rcases hn with hn | hn
      · exact hcl2 n hn
      · obtain ⟨c', e'⟩ := newHas n hn
        rw [q] at e'; cases e'

theorem comp_startC {pins : List (Addr × Obj)} {σ : St} {H : Hp} {s : Shared} {cl : List (Str × Addr)} {fp : List Addr} {h1 : Heap} {C : Addr} {m : Str → Option Value} {t1 : Nat} (S : CompScopeC X scope own js) (I : Inv X pins σ H s)
    (hf : ∀ b ∈ fp, FpOk X pins H b ∧ b < s.heap.objs.size)
    (CI : CellsIn X scope cl C h1)
    (hC : @Eq Nat C (s.heap.objs.size + 1)) (hns : h1.Ns C m) (hk : ∀ b o, s.heap.get? b = some o → h1.get? b = some o) (hn : h1.get? s.heap.objs.size = some { cls := .type "list", dict := none, data := .seq ([] : List Value).toArray }) :
    Inv (X.compC scope own js cl s H C fp) [] (pick own.length js σ) (upd H s.heap.objs.size (.lst [])) { s with heap := h1, toks := t1 } := by
  have below : ∀ b, b < s.heap.objs.size → b ≠ C ∧ b ≠ s.heap.objs.size := fun b hb => ⟨Nat.ne_of_lt (Nat.lt_of_lt_of_eq (Nat.lt_succ_of_lt hb) hC.symm), Nat.ne_of_lt hb⟩
  have kinds : ∀ x, ((X.compC scope own js cl s H C fp).env.kindOf x = some .cell ∨ (X.compC scope own js cl s H C fp).env.kindOf x = some .free) → (x, NameKind.free) ∈ scope.names ∨ (x, NameKind.cell) ∈ scope.names := fun x hx => by
    have hx : (relabel scope X.env).names.lookup x = some .cell ∨ (relabel scope X.env).names.lookup x = some .free := hx
    rcases hx with hx | hx
    · obtain ⟨k, q1, q2⟩ := relabel_lookup hx
      rcases q2 with q2 | ⟨q2, _⟩
      · subst q2; exact .inr (PySem.mem_of_lookup q1)
      · exact .inl (q2 ▸ PySem.mem_of_lookup q1)
    · obtain ⟨k, q1, q2⟩ := relabel_lookup hx
      rcases q2 with q2 | ⟨_, q2⟩
      · exact .inl (q2 ▸ PySem.mem_of_lookup q1)
      · cases q2
  have hCle : s.heap.objs.size ≤ C := Nat.le_of_lt (Nat.lt_of_lt_of_eq (Nat.lt_succ_self _) hC.symm)
  have hCne : C ≠ s.heap.objs.size := Nat.ne_of_gt (Nat.lt_of_lt_of_eq (Nat.lt_succ_self _) hC.symm)
  have accn : H s.heap.objs.size = none := I.hok.fresh (Nat.le_refl _)
  have oldLt : ∀ x c, X.env.cells.lookup x = some c → c < s.heap.objs.size := fun x c e => by
    obtain ⟨v, z⟩ := I.cell x c e
    exact z.lt
  have inj : ∀ x y c, cl.lookup x = some c → cl.lookup y = some c → x = y := fun x y c e1 e2 => by
    rcases CI.what x c e1 with ⟨a1, _⟩ | ⟨a1, _, a3⟩ <;> rcases CI.what y c e2 with ⟨b1, _⟩ | ⟨b1, _, b3⟩
    · exact I.ok.inj x y c a1 b1
    · exact absurd (Nat.lt_of_lt_of_le (oldLt x c a1) hCle) (Nat.lt_asymm b1)
    · exact absurd (Nat.lt_of_lt_of_le (oldLt y c b1) hCle) (Nat.lt_asymm a1)
    · exact CI.inj x y c a3 b3 e1 e2
  have cne : ∀ x c b, cl.lookup x = some c → b < s.heap.objs.size → (∀ x c, X.env.cells.lookup x = some c → c ≠ b) → c ≠ b := fun x c b e lt h => by
    rcases CI.what x c e with ⟨a1, _⟩ | ⟨a1, _⟩
    · exact h x c a1
    · exact Nat.ne_of_gt (Nat.lt_trans (Nat.lt_of_lt_of_le lt hCle) a1)
  refine ⟨⟨I.ok.mod, S.kind, I.ok.glob, I.ok.blt, hCle, inj, fun x hx => CI.has x (kinds x hx), fun x c hfn e => ?_, I.ok.hd, I.ok.frames, .inl rfl, fun b hb => ?_, I.bs, Nat.le_trans I.ok.bsz I.sz, fun b o e hb => ?_, fun b hb => ?_, I.stack, I.stkFree⟩,
    rfl, I.bare, ?_, ⟨m, hns, fun i x v e1 e2 e3 => ?_⟩, fun x c e => ?_, ?_, fun x c e => ?_, fun p hp => absurd (show p ∈ ([] : List (Addr × Obj)) from hp) (by simp), ?_, ?_⟩
  · have hfn : (scope.names.lookup x == some .cell) = true := hfn
    have hm := PySem.mem_of_lookup (eq_of_beq hfn)
    rcases CI.what x c e with ⟨_, a1⟩ | ⟨a1, _⟩
    · exact absurd hm a1
    · exact Nat.le_of_lt (Nat.lt_of_le_of_lt hCle a1)
  · obtain ⟨⟨f0, f1, f2, f3, f4, f5⟩, lt⟩ := hf b hb
    exact ⟨(below b lt).1, fun x c e => cne x c b e lt f4⟩
  · obtain ⟨⟨f0, f1, f2, f3, f4, f5⟩, lt⟩ := hf b hb
    rcases f3 with z | z
    · exact I.ok.noex b o e z
    · exact Nat.lt_irrefl _ (Nat.lt_of_lt_of_le (Heap.lt_size e) (Nat.le_trans I.ok.bsz z))
  · obtain ⟨⟨f0, f1, f2, f3, f4, f5⟩, lt⟩ := hf b hb
    exact fun z => (List.mem_cons.mp (I.stkSub b z)).elim f1 f2
  · exact Un.laid hk (Nat.le_refl _) accn
  · have hi : ¬ i < own.length := fun hi => by
      unfold pick at e2
      rw [List.getElem?_append_left (by simpa using hi), List.getElem?_replicate] at e2
      split at e2 <;> cases e2
    unfold pick at e2
    rw [List.getElem?_append_right (by simpa using hi), List.length_replicate] at e2
    have e1 : (own ++ js.map (fun j => X.N.getD j ""))[i]? = some x := e1
    rw [List.getElem?_append_right (by omega)] at e1
    rw [List.getElem?_map] at e1 e2
    cases ej : js[i - own.length]? with
    | none => rw [ej] at e1; cases e1
    | some j =>
      rw [ej] at e1 e2
      have e1 : X.N.getD j "" = x := Option.some.inj e1
      have e2 : (σ[j]?).join = some v := Option.some.inj e2
      have e2' : σ[j]? = some (some v) := by
        cases q : σ[j]? with
        | none => rw [q] at e2; cases e2
        | some o => rw [q] at e2; have : o = some v := e2; rw [this]
      have hj : j < X.N.length := by
        have := (List.getElem?_eq_some_iff.mp e2').1
        rw [I.len] at this; exact this
      have e1' : X.N[j]? = some x := by
        rw [← e1, List.getD_eq_getElem?_getD, List.getElem?_eq_getElem hj]; rfl
      have e3 : Vis (relabel scope X.env) x := e3
      have notl : ¬ (x, NameKind.cell) ∈ scope.names := fun hm => (S.js j (List.mem_of_getElem? ej)).2 (by rw [e1]; exact S.cell _ hm rfl)
      have hfr : (x, NameKind.free) ∈ scope.names := by
        rcases e3 with e3 | e3 | e3
        · obtain ⟨k, q1, q2⟩ := relabel_lookup e3
          rcases q2 with q2 | ⟨_, q2⟩
          · subst q2
            exact absurd (e1 ▸ q1) (S.js j (List.mem_of_getElem? ej)).1
          · cases q2
        · exact (kinds x (.inl e3)).elim id fun z => absurd z notl
        · exact (kinds x (.inr e3)).elim id fun z => absurd z notl
      have hkind := S.free _ hfr rfl
      obtain ⟨m0, hn0, hl0⟩ := I.loc
      have hv : Vis X.env.scope x := by
        rcases hkind with z | z
        · exact .inr (.inl z)
        · exact .inr (.inr z)
      obtain ⟨u, r, lk⟩ := hl0 j x v e1' e2' hv
      refine ⟨u, r, ?_⟩
      rcases lk with ⟨z, _⟩ | ⟨_, c, ec, hc⟩
      · rcases hkind with q | q <;> (rw [z] at q; cases q)
      · obtain ⟨c', ec'⟩ := CI.has x (.inl hfr)
        have : c' = c := by
          rcases CI.what x c' ec' with ⟨a1, _⟩ | ⟨_, _, a3⟩
          · rw [ec] at a1; cases a1; rfl
          · exact absurd a3 notl
        subst this
        refine .inr ⟨?_, c', ec', ?_⟩
        · rcases e3 with e3 | e3 | e3
          · obtain ⟨k, q1, q2⟩ := relabel_lookup e3
            rcases q2 with q2 | ⟨_, q2⟩
            · subst q2
              exact absurd (e1 ▸ q1) (S.js j (List.mem_of_getElem? ej)).1
            · cases q2
          · exact .inl e3
          · exact .inr e3
        · obtain ⟨oc, hoc, hd⟩ := hc
          exact ⟨oc, hk _ _ hoc, hd⟩
  · rcases CI.what x c e with ⟨a1, _⟩ | ⟨_, a2, _⟩
    · obtain ⟨v, oc, hoc, hd⟩ := I.cell x c a1
      exact ⟨v, oc, hk _ _ hoc, hd⟩
    · exact ⟨none, a2⟩
  · show upd H s.heap.objs.size (.lst []) C = none
    rw [upd_ne hCne]
    exact I.hok.fresh hCle
  · rcases CI.what x c e with ⟨a1, _⟩ | ⟨a1, a2, _⟩
    · rw [upd_ne (below c (oldLt x c a1)).2]
      exact I.freeC x c a1
    · rw [upd_ne (Nat.ne_of_gt (Nat.lt_of_le_of_lt hCle a1))]
      exact I.hok.fresh (Nat.le_of_lt (Nat.lt_of_le_of_lt hCle a1))
  · refine I.hok.laid hk (Nat.le_refl _) ⟨by show 0 ≤ sizeLine; exact Nat.zero_le _, [], 0, .nil, ?_⟩
    exact hn
  · unfold pick
    show _ = (own ++ js.map (fun j => X.N.getD j "")).length
    rw [List.length_append, List.length_append, List.length_replicate, List.length_map, List.length_map]
end

section
variable {X : Cx} {scope : Scope} {own : List Str} {js : List Nat} {tg iter elt : Expr} {ifs : List Expr} {pos : Pos} {wi : TI} {g : TG} {c : TT} {te : TE}
theorem comp_leaveC {pins : List (Addr × Obj)} {σ σ' : St} {H H' : Hp} {s s' : Shared} {cl : List (Str × Addr)} {fp : List Addr} {C : Addr} (I : Inv X pins σ H s) (hf : ∀ b ∈ fp, FpOk X pins H b)
    (J : Inv (X.compC scope own js cl s H C fp) [] σ' H' s') : Inv X pins σ H' s' :=
  I.call' (ch := fp) J.os J.base J.hok J.bare fun b hb => by
    obtain ⟨f0, f1, f2, f3, f4, f5⟩ := hf b hb
    exact ⟨f3, f1, f4, f5⟩

theorem comp_coreC {pins : List (Addr × Obj)} {σ : St} {H : Hp} {s : Shared} {cl0 : List (Str × Addr)} {fp : List Addr} {it : Addr} {tn : Nat → Heap → Prop} {J : It} {Q : VK} {E : Value → Shared → Prop} {RR : Value → Addr → Result → Shared → Prop}
    (hc : X.calm = true) (S : CompScopeC X scope own js) (I : Inv X pins σ H s) (T : Turn X.prog X.w X.K tg J fp it tn) (t0 : tn 0 s.heap) (hf : ∀ b ∈ fp, FpOk X pins H b)
    (hcl : ∀ x c, cl0.lookup x = some c → X.env.cells.lookup x = some c) (hcl2 : ∀ n, (n, NameKind.free) ∈ scope.names → ∃ c, cl0.lookup n = some c)
    (hg : ∀ cl s H C fp, PG (X.compC scope own js cl s H C fp) tg g) (hi : ∀ cl s H C fp, PIfs (X.compC scope own js cl s H C fp) ifs c) (he : ∀ cl s H C fp, PE (X.compC scope own js cl s H C fp) elt te)
    (q : tCompR own.length js g c te J σ H Q)
    (hRR : ∀ acc C cl H' s', s.heap.objs.size ≤ C → Inv (X.compC scope own js cl s H C fp) [] (pick own.length js σ) H' s' → Q (.ref acc) H' → RR (.ref acc) C (.ok .next) s') :
    wpAny (model X.prog X.w) X.A (newList []) (fun acc s3 => wpAny (model X.prog X.w) X.A (newFunctionEnv scope X.env.globals cl0 [] X.env.qual none .none (some X.env)) (fun cenv s4 =>
      codeAny (model X.prog X.w) X.A (.compStart (.ListComp elt [⟨tg, iter, ifs, 0⟩] scope pos) 0 (.ref it) acc { cenv with scope := relabel scope X.env }) (RR acc cenv.locals) s4) E s3) E s := by
  refine wpAny_newObj_type (wpAny_newFunctionEnv_comp ?_)
  dsimp only
  generalize hH2 : s.heap.push { cls := .type "list", dict := none, data := .seq ([] : List Value).toArray } = H2
  have hC : @Eq Nat H2.objs.size (s.heap.objs.size + 1) := by rw [← hH2, Heap.size_push]
  have hDC : s.heap.objs.size ≠ H2.objs.size := by rw [hC]; exact Nat.ne_of_lt (Nat.lt_succ_self _)
  have hCle : s.heap.objs.size ≤ H2.objs.size := by rw [hC]; exact Nat.le_succ _
  have CI := cells_in (h := H2.push { cls := .type "dict", data := .dict #[] }) (C := H2.objs.size) S hcl hcl2 (by rw [Heap.size_push])
  have hns1 : (pushCells (H2.push { cls := .type "dict", data := .dict #[] }) scope.names).Ns H2.objs.size fun _ => none := (Heap.Ns.new H2 (.type "dict")).keeps (pushCells_keeps _ _)
  have old2 : ∀ b o, H2.get? b = some o → (pushCells (H2.push { cls := .type "dict", data := .dict #[] }) scope.names).get? b = some o := fun b o e => pushCells_keeps _ _ b o (Heap.get?_push_of_some _ e)
  generalize hh1 : pushCells (H2.push { cls := .type "dict", data := .dict #[] }) scope.names = h1 at CI hns1 old2 ⊢
  generalize hcl' : cellsFrom (H2.objs.size + 1) scope.names cl0 = cl at CI ⊢
  have old : ∀ b o, s.heap.get? b = some o → h1.get? b = some o := fun b o e => old2 b o (hH2 ▸ Heap.get?_push_of_some _ e)
  have hacc : h1.get? s.heap.objs.size = some { cls := .type "list", dict := none, data := .seq ([] : List Value).toArray } := old2 _ _ (hH2 ▸ Heap.get?_push_size _ rfl)
  have hfl : ∀ b ∈ fp, FpOk X pins H b ∧ b < s.heap.objs.size := fun b hb => ⟨hf b hb, by
    obtain ⟨o, e, _⟩ := T.obj 0 s.heap t0 b hb
    exact Heap.lt_size e⟩
  obtain ⟨W, ⟨m0, w0⟩, turn⟩ := q s.heap.objs.size (I.hok.fresh (Nat.le_refl _))
  have I1 := comp_startC (t1 := s.toks) S I hfl CI hC hns1 old hacc
  have t1 : tn 0 h1 := T.keep 0 s.heap h1 t0 fun b _ o e => old b o e
  have stat : ∀ {pins' : List (Addr × Obj)} {H' : Hp}, (∀ b ∈ fp, H' b = none) → (∀ p ∈ pins', p.1 ∉ fp) → ∀ b ∈ fp, FpOk (X.compC scope own js cl s H H2.objs.size fp) pins' H' b := fun hn hp b hb => by
    obtain ⟨⟨f0, f1, f2, f3, f4, f5⟩, lt⟩ := hfl b hb
    refine ⟨hn b hb, Nat.ne_of_lt (Nat.lt_of_lt_of_le lt hCle), fun z => (List.mem_cons.mp (I.stkSub b z)).elim f1 f2, .inl hb, fun x c e => ?_, fun p hp' z => hp p hp' (z ▸ hb)⟩
    rcases CI.what x c e with ⟨a1, _⟩ | ⟨a1, _⟩
    · exact f4 x c a1
    · exact Nat.ne_of_gt (Nat.lt_trans (Nat.lt_of_lt_of_le lt hCle) a1)
  have fr0 : ∀ b ∈ fp, (upd H s.heap.objs.size (.lst [])) b = none := fun b hb => by
    obtain ⟨⟨f0, _⟩, lt⟩ := hfl b hb
    rw [upd_ne (Nat.ne_of_lt lt)]; exact f0
  have loop : ∀ s3 : Shared, s3 = { s with heap := h1 } →
      codeAny (model X.prog X.w) X.A (.compLoop (.ListComp elt [⟨tg, iter, ifs, 0⟩] scope pos) 0 (.ref it) (.ref s.heap.objs.size) (compEnvC scope cl H2.objs.size X.env)) (RR (.ref s.heap.objs.size) H2.objs.size) s3 := by
    rintro s3 rfl
    refine compLoop_any (fun n s' => ∃ i H', Inv (X.compC scope own js cl s H H2.objs.size fp) [] (pick own.length js σ) H' s' ∧ tn i s'.heap ∧ (∀ b ∈ fp, H' b = none) ∧ W i n H') ?_ m0 ⟨0, _, I1, t1, fr0, w0⟩
    rintro n s4 ⟨i, H4, I4, st4, fr4, w4⟩
    have noP : ∀ p ∈ ([] : List (Addr × Obj)), p.1 ∉ fp := fun p hp => nomatch hp
    rcases turn i n H4 w4 with ⟨stop, qn⟩ | ⟨go, step⟩
    · refine thn (T.done (X.compC scope own js cl s H H2.objs.size fp) rfl rfl rfl hc i [] s4 _ H4 (fun _ _ => False) I4 (stat fr4 noP) st4 stop) fun r s5 ⟨hr, I5⟩ => ?_
      subst hr
      exact hRR _ _ _ H4 s5 hCle I5 qn
    · refine thn (T.item (X.compC scope own js cl s H H2.objs.size fp) rfl rfl rfl hc i [] s4 _ H4 (fun _ _ => False) I4 (stat fr4 noP) st4 go) fun r s5 ⟨u, hr, h5⟩ => ?_
      subst hr
      refine thn h5 fun _ s6 ⟨x, H6, I6, r6, y6, st6, fr6⟩ => ?_
      have I6' := I6.pinned (stat fr6 noP) (T.obj _ _ st6)
      have again : ∀ {σ7 : St} {H7 : Hp} {s7 : Shared} {m' : Nat}, Wk (pick own.length js σ) σ7 → Inv (X.compC scope own js cl s H H2.objs.size fp) ([] ++ pinsAt fp s6.heap) σ7 H7 s7 → m' < n → W (i + 1) m' H7 →
          ∃ m, m < n ∧ ∃ i H', Inv (X.compC scope own js cl s H H2.objs.size fp) [] (pick own.length js σ) H' s7 ∧ tn i s7.heap ∧ (∀ b ∈ fp, H' b = none) ∧ W i m H' := fun {σ7 H7 s7 m'} wk I7 hm w7 => by
        refine ⟨m', hm, i + 1, H7, (I7.unpinned).weak wk.1 wk.2, T.keep _ _ _ st6 fun b hb o e => (I7.pin (b, o) (List.mem_append_right _ (List.mem_append_right _ (mem_pinsAt hb e)))).1, fun b hb => ?_, w7⟩
        obtain ⟨o, e, d⟩ := T.obj _ _ st6 b hb
        exact (I7.pin (b, o) (List.mem_append_right _ (List.mem_append_right _ (mem_pinsAt hb e)))).2.1
      refine thn (hg cl s H H2.objs.size fp _ s6 _ H6 x u _ I6' r6 (step x H6 y6)) fun _ s7 ⟨σ7, H7, I7, wk7, q7⟩ => ?_
      refine thn (hi cl s H H2.objs.size fp _ s7 σ7 H7 _ I7 q7) fun ok s8 ⟨H8, I8, q8⟩ => ?_
      cases ok with
      | false =>
        obtain ⟨m', hm, w8⟩ := (show ∃ m', m' < n ∧ W (i + 1) m' H8 from by simpa using q8)
        exact again wk7 I8 hm w8
      | true =>
        have q8 : te σ7 H8 fun y H4 => ∃ ys, H4 s.heap.objs.size = some (.lst ys) ∧ ys.length < sizeLine ∧ ∃ m', m' < n ∧ W (i + 1) m' (upd H4 s.heap.objs.size (.lst (ys ++ [y]))) := by simpa using q8
        refine thn (he cl s H H2.objs.size fp _ s8 σ7 H8 _ I8 q8) fun yv s9 ⟨y, H9, I9, r9, ys, hy, hz, m', hm, w9⟩ => ?_
        refine thn (mt_append (X := X.compC scope own js cl s H H2.objs.size fp) _ s9 σ7 H9 (.ref s.heap.objs.size) [y] (.ref s.heap.objs.size) [yv] (fun _ H' => W (i + 1) m' H') I9 rfl (.cons r9 .nil) ⟨_, ys, y, rfl, rfl, hy, hz, w9⟩) fun _ s10 ⟨_, H10, I10, _, w10⟩ => ?_
        exact again wk7 I10 hm w10
  exact codeAny_compStart_list (loop _ rfl) (T.self X.A 0 _ _ _ t1 (loop _ rfl))

theorem pe_compC {sc : Scope} {N : List Str} (own : List Str) (js : List Nat) (hsc : RelSc X.env.scope sc) (hNN : X.N = N) (S0 : CompScopeCN sc N scope js) (hc : X.calm = true) (hit : PI X tg iter wi)
    (hg : ∀ cl s H C fp, PG (X.compC scope own js cl s H C fp) tg g) (hi : ∀ cl s H C fp, PIfs (X.compC scope own js cl s H C fp) ifs c) (he : ∀ cl s H C fp, PE (X.compC scope own js cl s H C fp) elt te)
    (hs : ∀ x, foldedSetIterable iter X.env x = pure x := by intro _; rfl) : PE X (.ListComp elt [⟨tg, iter, ifs, 0⟩] scope pos) (tComp own.length js wi g c te) := by
  intro pins s σ H Q I h
  have S : CompScopeC X scope own js := S0.cs hsc hNN
  obtain ⟨cl, hcl0, hcl, hcl2⟩ := closure_ok (env := X.env) (scope := scope) fun n hn => I.ok.has n (S.free _ hn rfl)
  rw [eval_ListComp]
  refine wpAny_comprehension_free (use := none) rfl hs hcl0 S.kind S.names (thn (hit pins s σ H _ I h) fun xv s1 h1 => thn h1 fun itv s2 h2 => ?_)
  obtain ⟨it, fp, tn, J, H2, e, I2, T, st2, f2, q2⟩ := h2
  subst e
  refine comp_coreC (RR := fun acc C => compPost (model X.prog X.w) X.A X.xe none (EP X pins σ Q) acc C) hc S I2 T st2 f2 hcl hcl2 hg hi he q2 fun acc C cl' H' s' hC J' q' => ?_
  obtain ⟨m, hn, _⟩ := J'.loc
  exact ⟨m, hn, fun h' hs' => ⟨.ref acc, H', comp_gone I2 hC (comp_leaveC I2 f2 J') J'.free hs', rfl, q'⟩⟩

theorem ps_setCompC {i : Nat} {x : Str} {pos' spos : Pos} (hN : X.N.Nodup) (hi0 : X.N[i]? = some x) (hx : X.env.scope.names.lookup x = some .local) {sc : Scope} {N : List Str} (own : List Str) (js : List Nat) (hsc : RelSc X.env.scope sc) (hNN : X.N = N) (S0 : CompScopeCN sc N scope js) (hc : X.calm = true) (hit : PI X tg iter wi)
    (hg : ∀ cl s H C fp, PG (X.compC scope own js cl s H C fp) tg g) (hi : ∀ cl s H C fp, PIfs (X.compC scope own js cl s H C fp) ifs c) (he : ∀ cl s H C fp, PE (X.compC scope own js cl s H C fp) elt te)
    (hsw : swapsWith (.ListComp elt [⟨tg, iter, ifs, 0⟩] scope pos) (some (.Name x pos')) spos.line X.env = pure true)
    (hs : ∀ x, foldedSetIterable iter X.env x = pure x := by intro _; rfl) : PS X (.Assign [.Name x pos'] (.ListComp elt [⟨tg, iter, ifs, 0⟩] scope pos) spos) (tAsg (tComp own.length js wi g c te) (gName i)) := by
  intro pins s σ H D I h
  have S : CompScopeC X scope own js := S0.cs hsc hNN
  obtain ⟨cl, hcl0, hcl, hcl2⟩ := closure_ok (env := X.env) (scope := scope) fun n hn => I.ok.has n (S.free _ hn rfl)
  rw [exec_Assign_Name_used _ _ _ _ hsw]
  refine wpAny_bind (wpAny_standAt (wpAny_bind ?_))
  show wpAny _ X.A (do let _ ← comprehension (.ListComp elt [⟨tg, iter, ifs, 0⟩] scope pos) scope X.env _ (newList []) false (eval iter X.env) (some (assign (.Name x pos') X.env))) _ _ s
  refine wpAny_bind (wpAny_mono (wpAny_comprehension_free (use := some (assign (.Name x pos') X.env)) (Q := fun _ s' => SP X pins D .next s') rfl hs hcl0 S.kind S.names
    (thn (hit pins s σ H _ I h) fun xv s1 h1 => thn h1 fun itv s2 h2 => ?_)) (fun _ s' hq => wpAny_pure (wpAny_pure hq)) fun _ _ e => e)
  obtain ⟨it, fp, tn, J, H2, e, I2, T, st2, f2, q2⟩ := h2
  subst e
  refine comp_coreC (RR := fun acc C => compPost (model X.prog X.w) X.A X.xe (some (assign (.Name x pos') X.env)) (fun _ s' => SP X pins D .next s') acc C) hc S I2 T st2 f2 hcl hcl2 hg hi he q2 fun acc C cl' H' s' hC J' q' => ?_
  obtain ⟨m, hn, _⟩ := J'.loc
  have I3 := comp_leaveC I2 f2 J'
  show wpAny _ X.A (assign (.Name x pos') X.env (.ref acc)) _ _ _
  refine wpAny_assign_Name (store_ok2 I3 hN hi0 (.inl hx) (v := .ref acc) rfl (fun s4 I4 hsb => ?_) (.inr hx))
  obtain ⟨a, sb, ha⟩ := hsb
  have hCa : C ≠ a := by
    rcases ha with ha | ha
    · rw [ha]; exact Nat.ne_of_gt (Nat.lt_of_lt_of_le I2.lt hC)
    · obtain ⟨v, z⟩ := I2.cell x a ha
      exact Nat.ne_of_gt (Nat.lt_of_lt_of_le z.lt hC)
  refine ⟨m, hn.sameBut sb hCa, fun h' hs' => ⟨_, H', comp_gone I2 hC I4 J'.free hs', q'⟩⟩
end
end L2

namespace OL
open PySem L2
/-! ### draws of the fourth stage -/
def D31 (ds : List Int) : Prop := ∀ d ∈ ds, 0 ≤ d ∧ d < 2147483648
theorem D31.nil : D31 [] := fun d h => nomatch h
theorem D31.snoc {ds : List Int} {d : Int} (h : D31 ds) (h0 : 0 ≤ d) (h1 : d < 2147483648) : D31 (ds ++ [d]) := fun x hx => by
  rcases List.mem_append.mp hx with z | z
  · exact h x z
  · have : x = d := by simpa using z
    subst this; exact ⟨h0, h1⟩
theorem D31.cut {ds : List Int} {lo hi : Option Int} (h : D31 ds) : D31 (cutI ds lo hi) := fun d hd => h d (cutI_mem hd)
theorem D31.tail {d : Int} {ds : List Int} (h : D31 (d :: ds)) : D31 ds := fun x hx => h x (List.mem_cons_of_mem _ hx)
theorem mod31 (a : Int) {m : Int} (h0 : 0 < m) (h1 : m ≤ 2147483648) : 0 ≤ a % m ∧ a % m < 2147483648 := by
  have g0 := Int.emod_nonneg a (show m ≠ 0 by omega)
  have g1 := Int.emod_lt_of_pos a h0
  omega
def spMix : Sp := fun vs H Q _ => ∃ (c k : Int), vs = [.int c, .int k] ∧ 0 ≤ k ∧ k ≤ 2000 ∧ ∀ y : Int, 0 ≤ y → y < 2147483648 → Q (.int y) H
def spDr (K : PySem.W.Frag) : Sp := fun vs H Q _ => ∃ (a : Addr) (ns : List Int) (tn mn : Int), vs = [.ref a, .int tn, .int mn] ∧ SqL K H a (ns.map V.int) ∧ ns.length ≤ 63 ∧ 0 ≤ tn ∧ tn ≤ 100 ∧ 0 ≤ mn ∧ mn ≤ 900 ∧ ∀ (r : Addr) (ds : List Int) (H' : Hp), Same H H' → H r = none → H' r = some (.lst (ds.map V.int)) → D31 ds → Q (.ref r) H'
def spPop : Sp := fun vs H Q _ => ∃ (l : Addr) (ds : List Int), vs = [.ref l] ∧ H l = some (.lst (ds.map V.int)) ∧ D31 ds ∧ ∀ (d : Int) (ds' : List Int) (H' : Hp), 0 ≤ d → d < 2147483648 → SameB l H H' → H' l = some (.lst (ds'.map V.int)) → D31 ds' → Q (.int d) H'
def spBk8 : Sp := fun vs H Q _ => ∃ (l : Addr) (ds : List Int) (most am : Int), vs = [.ref l, .int most, .int am] ∧ H l = some (.lst (ds.map V.int)) ∧ D31 ds ∧ 1 ≤ most ∧ most ≤ 12 ∧ 0 ≤ am ∧ am ≤ 200 ∧
  ∀ (b bl : Addr) (many : Int) (bs ds' : List Int) (H' : Hp), SameB l H H' → H b = none → H bl = none → H' b = some (.tup [.int many, .ref bl]) → H' bl = some (.lst (bs.map V.int)) → H' l = some (.lst (ds'.map V.int)) → D31 ds' → BookOk many bs most am → Q (.ref b) H'

/-! ### least ones -/
structure LeastOf (ns T : List Int) : Prop where
  rise : T.Pairwise (· < ·)
  mem : ∀ x, x ∈ T ↔ x ∈ ns ∧ ∀ y ∈ ns, hasF x y = true → y = x
  len : T.length ≤ ns.length
  below : ∀ y ∈ ns, ∃ t ∈ T, hasF y t = true
def stepLe (T : List Int) (x : Int) : List Int := if (T.any fun t => hasF x t) = true then T else T ++ [x]
def leastF (ns : List Int) : List Int := ns.foldl stepLe []
theorem LeastOf.nil : LeastOf [] [] := ⟨.nil, fun x => ⟨fun h => absurd h List.not_mem_nil, fun h => absurd h.1 List.not_mem_nil⟩, Nat.le_refl _, fun y h => absurd h List.not_mem_nil⟩
/-! ### crossings -/
def crossB (ls : List Int) (x : Int) : Bool := ls.all fun o => decide (0 < Builtin.bitAnd x o)
def crossL (many : Int) (ls : List Int) : List Int := (rangeI (2 ^ many.toNat)).filter (crossB ls)
theorem powC (many : Int) : ((2 ^ many.toNat : Nat) : Int) = 2 ^ many.toNat := by push_cast; rfl
/-- the things outside -/
def outF (many x : Int) : Int := (((2 ^ many.toNat - 1) ^^^ (x.toNat % 2 ^ many.toNat) : Nat) : Int)
/-! ### promises -/
def spLeastA (K : PySem.W.Frag) : Sp := fun vs H Q _ => ∃ (l : Addr) (ns : List Int), vs = [.ref l] ∧ SqL K H l (ns.map V.int) ∧ ns.length ≤ 5000 ∧ ns.Pairwise (· ≤ ·) ∧ (∀ x ∈ ns, 0 ≤ x) ∧
  ∀ (r : Addr) (T : List Int) (H' : Hp), Same H H' → H r = none → H' r = some (.lst (T.map V.int)) → LeastOf ns T → Q (.ref r) H'
def spLeastL (K : PySem.W.Frag) : Sp := fun vs H Q _ => ∃ (l : Addr) (ns : List Int), vs = [.ref l] ∧ SqL K H l (ns.map V.int) ∧ ns.length ≤ 5000 ∧ (∀ x ∈ ns, 0 ≤ x) ∧
  ∀ (r : Addr) (T : List Int) (H' : Hp), Same H H' → H r = none → H' r = some (.lst (T.map V.int)) → LeastOf ns T → Q (.ref r) H'
def spCrossAll (K : PySem.W.Frag) : Sp := fun vs H Q _ => ∃ (l : Addr) (x : Int) (ls : List Int), vs = [.int x, .ref l] ∧ SqL K H l (ls.map V.int) ∧ ls.length ≤ 1000 ∧ ∀ H', Same H H' → Q (.bl (crossB ls x)) H'
def spCross (K : PySem.W.Frag) : Sp := fun vs H Q _ => ∃ (l : Addr) (many : Int) (ls : List Int), vs = [.int many, .ref l] ∧ 0 ≤ many ∧ many ≤ 12 ∧ SqL K H l (ls.map V.int) ∧ ls.length ≤ 1000 ∧
  ∀ (r : Addr) (T : List Int) (H' : Hp), Same H H' → H r = none → H' r = some (.lst (T.map V.int)) → LeastOf (crossL many ls) T → Q (.ref r) H'
end OL

namespace OL.Dl
/-! ### ways to choose, and dealings -/
def ch : Nat → Nat → Int
  | _, 0 => 1
  | 0, _ + 1 => 0
  | n + 1, k + 1 => ch n k + ch n (k + 1)
theorem ch_zero (n : Nat) : ch n 0 = 1 := by cases n <;> rfl
theorem ch_zs (k : Nat) : ch 0 (k + 1) = 0 := rfl
theorem ch_ss (n k : Nat) : ch (n + 1) (k + 1) = ch n k + ch n (k + 1) := rfl
theorem ch_gt : ∀ {n k : Nat}, n < k → ch n k = 0
  | 0, k + 1, _ => rfl
  | n + 1, k + 1, h => by rw [ch_ss, ch_gt (show n < k by omega), ch_gt (show n < k + 1 by omega)]; rfl
theorem ch_self : ∀ n : Nat, ch n n = 1
  | 0 => rfl
  | n + 1 => by rw [ch_ss, ch_self n, ch_gt (Nat.lt_succ_self n)]; rfl
theorem ch_nn : ∀ n k : Nat, 0 ≤ ch n k
  | n, 0 => by rw [ch_zero]; decide
  | 0, k + 1 => by rw [ch_zs]; decide
  | n + 1, k + 1 => by rw [ch_ss]; exact Int.add_nonneg (ch_nn n k) (ch_nn n (k + 1))
theorem ch_pos : ∀ {n k : Nat}, k ≤ n → 0 < ch n k
  | n, 0, _ => by rw [ch_zero]; decide
  | n + 1, k + 1, h => by
    rw [ch_ss]
    have := ch_pos (show k ≤ n by omega)
    have := ch_nn n (k + 1)
    omega
theorem ch_le : ∀ n k : Nat, ch n k ≤ 2 ^ n
  | n, 0 => by rw [ch_zero]; have : (0 : Int) < 2 ^ n := Int.pow_pos (by decide); omega
  | 0, k + 1 => by rw [ch_zs]; decide
  | n + 1, k + 1 => by
    rw [ch_ss, Int.pow_succ]
    have := ch_le n k
    have := ch_le n (k + 1)
    omega
theorem ch_one (n : Nat) : ch n 1 = n := by
  induction n with
  | zero => rfl
  | succ n ih => rw [ch_ss, ih, ch_zero]; omega
/-- sums -/
def sm : Nat → (Nat → Int) → Int
  | 0, _ => 0
  | n + 1, f => sm n f + f n
theorem sm_congr {f g : Nat → Int} : ∀ {n : Nat}, (∀ i, i < n → f i = g i) → sm n f = sm n g
  | 0, _ => rfl
  | n + 1, h => by
    show sm n f + f n = sm n g + g n
    rw [sm_congr fun i hi => h i (by omega), h n (by omega)]
theorem sm_add (f g : Nat → Int) : ∀ n, sm n (fun i => f i + g i) = sm n f + sm n g
  | 0 => rfl
  | n + 1 => by
    show sm n (fun i => f i + g i) + (f n + g n) = sm n f + f n + (sm n g + g n)
    rw [sm_add f g n]; omega
theorem sm_mul (c : Int) (f : Nat → Int) : ∀ n, sm n (fun i => c * f i) = c * sm n f
  | 0 => by show (0 : Int) = c * 0; rw [Int.mul_zero]
  | n + 1 => by
    show sm n (fun i => c * f i) + c * f n = c * (sm n f + f n)
    rw [sm_mul c f n, Int.mul_add]
theorem sm_zero {f : Nat → Int} : ∀ {n : Nat}, (∀ i, i < n → f i = 0) → sm n f = 0
  | 0, _ => rfl
  | n + 1, h => by
    show sm n f + f n = 0
    rw [sm_zero fun i hi => h i (by omega), h n (by omega)]; rfl
theorem sm_head (f : Nat → Int) : ∀ n, sm (n + 1) f = f 0 + sm n fun i => f (i + 1)
  | 0 => by show 0 + f 0 = f 0 + 0; omega
  | n + 1 => by
    show sm (n + 1) f + f (n + 1) = f 0 + (sm n (fun i => f (i + 1)) + f (n + 1))
    rw [sm_head f n]; omega
theorem sm_swap (f : Nat → Nat → Int) (m : Nat) : ∀ n, sm n (fun i => sm m (f i)) = sm m fun j => sm n fun i => f i j
  | 0 => (sm_zero fun _ _ => rfl).symm
  | n + 1 => by
    show sm n (fun i => sm m (f i)) + sm m (f n) = sm m fun j => sm n (fun i => f i j) + f n j
    rw [sm_swap f m n, sm_add]
theorem sm_nn {f : Nat → Int} : ∀ {n : Nat}, (∀ i, i < n → 0 ≤ f i) → 0 ≤ sm n f
  | 0, _ => Int.le_refl 0
  | n + 1, h => Int.add_nonneg (sm_nn fun i hi => h i (by omega)) (h n (by omega))
theorem sm_le {f : Nat → Int} {n : Nat} (h : ∀ i, i < n → 0 ≤ f i) {j : Nat} (hj : j < n) : f j ≤ sm n f := by
  induction n with
  | zero => omega
  | succ n ih =>
    show f j ≤ sm n f + f n
    have := sm_nn (f := f) (n := n) fun i hi => h i (by omega)
    by_cases e : j = n
    · subst e; omega
    · have := ih (fun i hi => h i (by omega)) (by omega)
      have := h n (by omega)
      omega
theorem sm_more {f : Nat → Int} {m : Nat} : ∀ {n : Nat}, m ≤ n → (∀ i, m ≤ i → i < n → f i = 0) → sm n f = sm m f
  | 0, h, _ => by have : m = 0 := by omega
                  subst this; rfl
  | n + 1, h, h0 => by
    by_cases e : m = n + 1
    · subst e; rfl
    · show sm n f + f n = _
      rw [h0 n (by omega) (by omega), Int.add_zero, sm_more (show m ≤ n by omega) fun i a b => h0 i a (by omega)]
theorem sm_one {f : Nat → Int} {n j : Nat} (hj : j < n) (h : ∀ i, i < n → i ≠ j → f i = 0) : sm n f = f j := by
  induction n with
  | zero => omega
  | succ n ih =>
    show sm n f + f n = _
    by_cases e : j = n
    · subst e
      rw [sm_zero fun i hi => h i (by omega) (by omega), Int.zero_add]
    · rw [ih (by omega) fun i hi hne => h i (by omega) hne, h n (by omega) (by omega), Int.add_zero]
/-- + and - by turns -/
def sg (n : Nat) : Int := if n % 2 = 0 then 1 else -1
theorem sg_succ (n : Nat) : sg (n + 1) = - sg n := by
  unfold sg
  by_cases h : n % 2 = 0
  · rw [if_pos h, if_neg (by omega)]
  · rw [if_neg h, if_pos (by omega)]; rfl
def dd (N u t : Nat) : Int := sm N fun s => sg (s + t) * (ch u s * ch s t)
theorem dd_zero (N t : Nat) : dd (N + 1) 0 t = if t = 0 then 1 else 0 := by
  unfold dd
  rw [sm_head, sm_zero fun s _ => by rw [ch_zs, Int.zero_mul, Int.mul_zero], Int.add_zero, Nat.zero_add, ch_zero, Int.one_mul]
  cases t with
  | zero => rfl
  | succ t => rw [ch_zs, Int.mul_zero, if_neg (by omega)]
theorem dd_step0 {N u : Nat} (h : u + 1 < N) : dd N (u + 1) 0 = 0 := by
  obtain ⟨M, rfl⟩ : ∃ M, N = M + 1 := ⟨N - 1, by omega⟩
  have e1 : dd (M + 1) (u + 1) 0 = dd (M + 1) u 0 + sm M fun r => sg (r + 1 + 0) * (ch u r * ch (r + 1) 0) := by
    unfold dd
    rw [sm_head, sm_head (f := fun s => sg (s + 0) * (ch u s * ch s 0))]
    rw [ch_zero, ch_zero u, Int.add_assoc, ← sm_add]
    congr 1
    refine sm_congr fun r _ => ?_
    rw [ch_ss, Int.add_mul, Int.mul_add, Int.add_comm]
  have e2 : dd (M + 1) u 0 = sm M fun r => sg (r + 0) * (ch u r * ch r 0) := by
    unfold dd
    show sm M _ + _ = _
    dsimp only
    rw [ch_gt (show u < M by omega), Int.zero_mul, Int.mul_zero, Int.add_zero]
  rw [e1, e2, ← sm_add]
  refine sm_zero fun r _ => ?_
  rw [ch_zero, ch_zero, Nat.add_zero, Nat.add_zero, sg_succ, Int.neg_mul]; omega
theorem dd_step {N u t : Nat} (h : u + 1 < N) : dd N (u + 1) (t + 1) = dd N u t := by
  obtain ⟨M, rfl⟩ : ∃ M, N = M + 1 := ⟨N - 1, by omega⟩
  have e1 : dd (M + 1) (u + 1) (t + 1) = dd (M + 1) u (t + 1) + sm M fun r => sg (r + 1 + (t + 1)) * (ch u r * ch (r + 1) (t + 1)) := by
    unfold dd
    rw [sm_head, sm_head (f := fun s => sg (s + (t + 1)) * (ch u s * ch s (t + 1)))]
    rw [ch_zero, ch_zero u, Int.add_assoc, ← sm_add]
    congr 1
    refine sm_congr fun r _ => ?_
    rw [ch_ss u r, Int.add_mul, Int.mul_add, Int.add_comm]
  have cut : ∀ v, dd (M + 1) u v = sm M fun r => sg (r + v) * (ch u r * ch r v) := fun v => by
    unfold dd
    show sm M _ + _ = _
    dsimp only
    rw [ch_gt (show u < M by omega), Int.zero_mul, Int.mul_zero, Int.add_zero]
  rw [e1, cut, cut t, ← sm_add]
  refine sm_congr fun r _ => ?_
  have s1 : sg (r + 1 + (t + 1)) = sg (r + t) := by rw [show r + 1 + (t + 1) = r + t + 1 + 1 by omega, sg_succ, sg_succ, Int.neg_neg]
  have s2 : sg (r + (t + 1)) = - sg (r + t) := by rw [show r + (t + 1) = r + t + 1 by omega, sg_succ]
  rw [s1, s2, ch_ss r t, Int.mul_add (ch u r), Int.mul_add, Int.neg_mul]; omega
theorem dd_eq {N : Nat} : ∀ {u t : Nat}, u < N → dd N u t = if u = t then 1 else 0
  | 0, t, h => by
    obtain ⟨M, rfl⟩ : ∃ M, N = M + 1 := ⟨N - 1, by omega⟩
    rw [dd_zero]
    by_cases e : t = 0
    · rw [if_pos e, if_pos e.symm]
    · rw [if_neg e, if_neg fun z => e z.symm]
  | u + 1, 0, h => by rw [dd_step0 h, if_neg (by omega)]
  | u + 1, t + 1, h => by
    rw [dd_step h, dd_eq (show u < N by omega)]
    by_cases e : u = t
    · rw [if_pos e, if_pos (by omega)]
    · rw [if_neg e, if_neg (by omega)]
/-- c - t of b -/
def chm (b c t : Nat) : Int := if t ≤ c then ch b (c - t) else 0
theorem chm_ss (b c t : Nat) : chm b (c + 1) (t + 1) = chm b c t := by
  unfold chm
  by_cases h : t ≤ c
  · rw [if_pos h, if_pos (by omega), show c + 1 - (t + 1) = c - t by omega]
  · rw [if_neg h, if_neg (by omega)]
def ee (N s b c j : Nat) : Int := sm N fun t => ch t j * (ch s t * chm b c t)
theorem chm_pas {n c j : Nat} (hj : j + 1 ≤ n) : chm (n - j) c j = chm (n - (j + 1)) c j + chm (n - (j + 1)) c (j + 1) := by
  unfold chm
  obtain ⟨m, hm⟩ : ∃ m, n - j = m + 1 := ⟨n - j - 1, by omega⟩
  rw [hm, show n - (j + 1) = m by omega]
  by_cases h : j ≤ c
  · rw [if_pos h, if_pos h]
    by_cases h2 : j + 1 ≤ c
    · rw [if_pos h2, show c - j = (c - (j + 1)) + 1 by omega, ch_ss]; omega
    · rw [if_neg h2, show c - j = 0 by omega, ch_zero, ch_zero]; rfl
  · rw [if_neg h, if_neg h, if_neg (by omega)]; rfl
theorem ee_eq {N : Nat} : ∀ (s b c j : Nat), s < N → ee N s b c j = ch s j * chm (s + b - j) c j
  | 0, b, c, j, h => by
    obtain ⟨M, rfl⟩ : ∃ M, N = M + 1 := ⟨N - 1, by omega⟩
    unfold ee
    rw [sm_head, sm_zero fun t _ => by rw [ch_zs, Int.zero_mul, Int.mul_zero], Int.add_zero, ch_zero, Int.one_mul]
    cases j with
    | zero => rw [Nat.zero_add, Nat.sub_zero]
    | succ j => rw [ch_zs, Int.zero_mul, Int.zero_mul]
  | s + 1, b, 0, j, h => by
    obtain ⟨M, rfl⟩ : ∃ M, N = M + 1 := ⟨N - 1, by omega⟩
    unfold ee
    rw [sm_head, sm_zero fun t _ => by rw [show chm b 0 (t + 1) = 0 from if_neg (by omega), Int.mul_zero, Int.mul_zero], Int.add_zero, ch_zero, Int.one_mul]
    cases j with
    | zero => rw [ch_zero, ch_zero, Int.one_mul, Int.one_mul]; unfold chm; rw [if_pos (Nat.le_refl _), if_pos (Nat.le_refl _), ch_zero, ch_zero]
    | succ j => rw [ch_zs, Int.zero_mul, show chm (s + 1 + b - (j + 1)) 0 (j + 1) = 0 from if_neg (by omega), Int.mul_zero]
  | s + 1, b, c + 1, j, h => by
    obtain ⟨M, rfl⟩ : ∃ M, N = M + 1 := ⟨N - 1, by omega⟩
    have e1 : ee (M + 1) (s + 1) b (c + 1) j = ee (M + 1) s b (c + 1) j + sm M fun r => ch (r + 1) j * (ch s r * chm b c r) := by
      unfold ee
      rw [sm_head, sm_head (f := fun t => ch t j * (ch s t * chm b (c + 1) t)), ch_zero, ch_zero s, Int.add_assoc, ← sm_add]
      congr 1
      refine sm_congr fun r _ => ?_
      rw [ch_ss s r, chm_ss, Int.add_mul, Int.mul_add, Int.add_comm]
    have cut : ∀ v, ee (M + 1) s b c v = sm M fun r => ch r v * (ch s r * chm b c r) := fun v => by
      unfold ee
      show sm M _ + _ = _
      dsimp only
      rw [ch_gt (show s < M by omega), Int.zero_mul, Int.mul_zero, Int.add_zero]
    cases j with
    | zero =>
      have e2 : (sm M fun r => ch (r + 1) 0 * (ch s r * chm b c r)) = ee (M + 1) s b c 0 := by
        rw [cut]
        refine sm_congr fun r _ => ?_
        rw [ch_zero, ch_zero]
      rw [e1, e2, ee_eq s b (c + 1) 0 (by omega), ee_eq s b c 0 (by omega)]
      rw [ch_zero, ch_zero, Int.one_mul, Int.one_mul, Int.one_mul, Nat.sub_zero, Nat.sub_zero]
      unfold chm
      rw [if_pos (Nat.zero_le _), if_pos (Nat.zero_le _), if_pos (Nat.zero_le _), Nat.sub_zero, Nat.sub_zero, show s + 1 + b = s + b + 1 by omega, ch_ss]; omega
    | succ j =>
      have e2 : (sm M fun r => ch (r + 1) (j + 1) * (ch s r * chm b c r)) = ee (M + 1) s b c j + ee (M + 1) s b c (j + 1) := by
        rw [cut, cut, ← sm_add]
        refine sm_congr fun r _ => ?_
        rw [ch_ss, Int.add_mul]
      rw [e1, e2, ee_eq s b (c + 1) (j + 1) (by omega), ee_eq s b c j (by omega), ee_eq s b c (j + 1) (by omega)]
      rw [ch_ss, chm_ss, chm_ss, show s + 1 + b - (j + 1) = s + b - j by omega, Int.add_mul]
      by_cases hs : j + 1 ≤ s
      · have hp := chm_pas (n := s + b) (c := c) (j := j) (by omega)
        rw [hp, Int.mul_add, Int.mul_add]; omega
      · rw [ch_gt (show s < j + 1 by omega)]; omega
/-- C(n, c) C(c, j) = C(n, j) C(n - j, c - j) -/
theorem ch_tri {n c : Nat} (hc : c ≤ n) (j : Nat) : ch n c * ch c j = ch n j * chm (n - j) c j := by
  have h := ee_eq (N := n + 1) n 0 c j (by omega)
  have h : ee (n + 1) n 0 c j = ch n j * chm (n - j) c j := h
  rw [← h]
  unfold ee
  rw [sm_one (j := c) (by omega) fun i hi hne => ?_]
  · unfold chm
    rw [if_pos (Nat.le_refl _), Nat.sub_self, ch_zero, Int.mul_one, Int.mul_comm]
  · have : chm 0 c i = 0 := by
      unfold chm
      by_cases z : i ≤ c
      · rw [if_pos z]; exact ch_gt (by omega)
      · rw [if_neg z]
    rw [this, Int.mul_zero, Int.mul_zero]
/-- dealings with just t in common -/
def wj (n : Nat) : List Nat → Nat → Int
  | [], t => if t = n then 1 else 0
  | c :: cs, t => sm (n + 1) fun s => wj n cs s * (ch s t * chm (n - s) c t)
def pr (n j : Nat) : List Nat → Int
  | [] => 1
  | c :: cs => chm (n - j) c j * pr n j cs
def mm (n j : Nat) (cs : List Nat) : Int := ch n j * pr n j cs
theorem wj_nn (n : Nat) : ∀ (cs : List Nat) (t : Nat), 0 ≤ wj n cs t
  | [], t => by show 0 ≤ (if t = n then (1 : Int) else 0); split <;> decide
  | c :: cs, t => sm_nn fun s _ => Int.mul_nonneg (wj_nn n cs s) (Int.mul_nonneg (ch_nn s t) (by unfold chm; split; exact ch_nn _ _; decide))
theorem wj_none (n : Nat) : ∀ (cs : List Nat) {t : Nat}, (∃ c ∈ cs, c < t) → wj n cs t = 0
  | [], t, h => by obtain ⟨c, hc, _⟩ := h; cases hc
  | c :: cs, t, h => by
    refine sm_zero fun s _ => ?_
    by_cases z : c < t
    · rw [show chm (n - s) c t = 0 from if_neg (by omega), Int.mul_zero, Int.mul_zero]
    · obtain ⟨d, hd, hdt⟩ := h
      rcases List.mem_cons.mp hd with e | hd
      · omega
      · by_cases hs : s < t
        · rw [ch_gt hs, Int.zero_mul, Int.mul_zero]
        · rw [wj_none n cs ⟨d, hd, by omega⟩, Int.zero_mul]
theorem moments (n j : Nat) : ∀ cs : List Nat, (sm (n + 1) fun t => ch t j * wj n cs t) = mm n j cs
  | [] => by
    rw [sm_one (j := n) (by omega) fun i _ hne => by show _ * (if i = n then (1 : Int) else 0) = 0; rw [if_neg hne, Int.mul_zero]]
    show ch n j * (if n = n then (1 : Int) else 0) = ch n j * 1
    rw [if_pos rfl]
  | c :: cs => by
    have ih := moments n j cs
    have e : (sm (n + 1) fun t => ch t j * wj n (c :: cs) t) = sm (n + 1) fun s => wj n cs s * ee (n + 1) s (n - s) c j := by
      have : (fun t => ch t j * wj n (c :: cs) t) = fun t => sm (n + 1) fun s => wj n cs s * (ch t j * (ch s t * chm (n - s) c t)) := by
        funext t
        show ch t j * sm (n + 1) _ = _
        rw [← sm_mul]
        refine sm_congr fun s _ => ?_
        ac_rfl
      rw [this, sm_swap]
      refine sm_congr fun s _ => ?_
      rw [sm_mul]; rfl
    rw [e]
    have e2 : (sm (n + 1) fun s => wj n cs s * ee (n + 1) s (n - s) c j) = sm (n + 1) fun s => chm (n - j) c j * (ch s j * wj n cs s) := by
      refine sm_congr fun s hs => ?_
      rw [ee_eq s (n - s) c j hs, show s + (n - s) - j = n - j by omega]
      rw [Int.mul_comm (ch s j), ← Int.mul_assoc, Int.mul_comm (wj n cs s), Int.mul_assoc, Int.mul_comm (wj n cs s)]
    rw [e2, sm_mul, ih]
    show chm (n - j) c j * (ch n j * pr n j cs) = ch n j * (chm (n - j) c j * pr n j cs)
    rw [← Int.mul_assoc, ← Int.mul_assoc, Int.mul_comm (ch n j)]
/-- the ways, had back from the moments -/
theorem invert {n m : Nat} {cs : List Nat} (hm : ∀ t, m < t → wj n cs t = 0) (hmn : m ≤ n) (t : Nat) : (sm (m + 1) fun s => sg (s + t) * (mm n s cs * ch s t)) = wj n cs t := by
  have hM : ∀ s, mm n s cs = sm (m + 1) fun u => ch u s * wj n cs u := fun s => by
    rw [← moments]
    exact sm_more (by omega) fun i hi _ => by rw [hm i (by omega), Int.mul_zero]
  have e : (sm (m + 1) fun s => sg (s + t) * (mm n s cs * ch s t)) = sm (m + 1) fun u => wj n cs u * dd (m + 1) u t := by
    have : (fun s => sg (s + t) * (mm n s cs * ch s t)) = fun s => sm (m + 1) fun u => wj n cs u * (sg (s + t) * (ch u s * ch s t)) := by
      funext s
      rw [hM s, Int.mul_comm _ (ch s t), ← Int.mul_assoc, ← sm_mul]
      refine sm_congr fun u _ => ?_
      ac_rfl
    rw [this, sm_swap]
    refine sm_congr fun u _ => ?_
    rw [sm_mul]; rfl
  rw [e]
  by_cases ht : t < m + 1
  · rw [sm_one (j := t) ht fun i hi hne => by rw [dd_eq hi, if_neg hne, Int.mul_zero], dd_eq ht, if_pos rfl, Int.mul_one]
  · rw [hm t (by omega)]
    refine sm_zero fun i hi => ?_
    rw [dd_eq hi, if_neg (by omega), Int.mul_zero]
/-- all dealings -/
def al (n : Nat) : List Nat → Int
  | [] => 1
  | c :: cs => ch n c * al n cs
theorem mm_zero (n : Nat) (cs : List Nat) : mm n 0 cs = al n cs := by
  unfold mm
  rw [ch_zero, Int.one_mul]
  induction cs with
  | nil => rfl
  | cons c cs ih =>
    show chm (n - 0) c 0 * pr n 0 cs = ch n c * al n cs
    rw [ih]
    unfold chm
    rw [if_pos (Nat.zero_le _), Nat.sub_zero, Nat.sub_zero]
theorem al_pos {n : Nat} : ∀ {cs : List Nat}, (∀ c ∈ cs, c ≤ n) → 0 < al n cs
  | [], _ => by show (0 : Int) < 1; decide
  | c :: cs, h => Int.mul_pos (ch_pos (h c (.head _))) (al_pos fun d hd => h d (.tail _ hd))
/-- product of C(c, j) -/
def up (j : Nat) : List Nat → Int
  | [] => 1
  | c :: cs => ch c j * up j cs
theorem al_up {n j : Nat} : ∀ {cs : List Nat}, (∀ c ∈ cs, c ≤ n) → al n cs * up j cs = ch n j ^ cs.length * pr n j cs
  | [], _ => by show (1 : Int) * 1 = ch n j ^ 0 * 1; rw [Int.pow_zero]
  | c :: cs, h => by
    have ih := al_up (j := j) fun d hd => h d (.tail _ hd)
    have t := ch_tri (h c (.head _)) j
    show ch n c * al n cs * (ch c j * up j cs) = ch n j ^ (cs.length + 1) * (chm (n - j) c j * pr n j cs)
    rw [Int.pow_succ]
    have e1 : ch n c * al n cs * (ch c j * up j cs) = (ch n c * ch c j) * (al n cs * up j cs) := by
      rw [Int.mul_assoc, Int.mul_assoc]
      congr 1
      rw [← Int.mul_assoc, ← Int.mul_assoc, Int.mul_comm (al n cs)]
    rw [e1, t, ih]
    ac_rfl
/-- the moments over all dealings -/
theorem mom {n j : Nat} {c : Nat} {cs : List Nat} (h : ∀ d ∈ c :: cs, d ≤ n) : al n (c :: cs) * up j (c :: cs) = ch n j ^ cs.length * mm n j (c :: cs) := by
  rw [al_up h, List.length_cons, Int.pow_succ]
  unfold mm
  rw [Int.mul_assoc]
end OL.Dl

/-! comprehensions by a list of what is walked, a choice and what comes of each -/
namespace OL
open PySem L2
def LookE (t : TE) (σ : St) (H : Hp) (v : V) : Prop := ∀ Q : VK, (∀ H', Same H H' → Q v H') → t σ H Q
theorem LookE.pure {t : TE} {σ : St} {H : Hp} {v : V} (h : ∀ Q : VK, Q v H → t σ H Q) : LookE t σ H v := fun Q q => h Q (q H (Same.refl H))
/-- what a turn must do -/
def CTurn (m : Nat) (js : List Nat) (g : TG) (c : TT) (te : TE) (σ : St) (v : V) (H2 : Hp) (b : Bool) (R : Hp → V → Prop) : Prop :=
  ∀ (PUT : V → Hp → Prop) (SKIP : Hp → Prop), (b = true → ∀ y H', Same H2 H' → R H' y → PUT y H') → (b = false → ∀ H', Same H2 H' → SKIP H') →
    g v (pick m js σ) H2 fun σ2 H3 => Wk (pick m js σ) σ2 ∧ c σ2 H3 fun k H4 => if k = true then te σ2 H4 fun y H5 => PUT y H5 else SKIP H4
section
variable {K : PySem.W.Frag} {m : Nat} {js : List Nat} {g : TG} {c : TT} {te : TE} {σ : St} {H1 : Hp} {Q : VK} {α : Type}
theorem paired_take {F : V → α → Prop} {xs : List V} {as : List α} (h : Paired F xs as) {i : Nat} {v : V} (hv : xs[i]? = some v) : ∃ x, as[i]? = some x ∧ F v x := by
  induction h generalizing i with
  | nil => simp at hv
  | cons z r ih =>
    cases i with
    | zero => simp at hv; subst hv; exact ⟨_, rfl, z⟩
    | succ i => simpa using ih (by simpa using hv)
theorem take_at {as : List α} {i : Nat} {x : α} (h : as[i]? = some x) : as.take (i + 1) = as.take i ++ [x] := by
  obtain ⟨hi, e⟩ := List.getElem?_eq_some_iff.mp h
  rw [← e]; exact List.take_succ_eq_append_getElem hi
theorem filt_len {p : α → Bool} {as : List α} {i : Nat} : ((as.take i).filter p).length ≤ as.length := Nat.le_trans (List.length_filter_le _ _) (by rw [List.length_take]; exact Nat.min_le_right _ _)
theorem filt_yes {p : α → Bool} {as : List α} {i : Nat} {x : α} (h : as[i]? = some x) (c : p x = true) : (as.take (i + 1)).filter p = (as.take i).filter p ++ [x] := by
  rw [take_at h, List.filter_append, List.filter_cons, if_pos c]; rfl
theorem filt_no {p : α → Bool} {as : List α} {i : Nat} {x : α} (h : as[i]? = some x) (c : p x = false) : (as.take (i + 1)).filter p = (as.take i).filter p := by
  rw [take_at h, List.filter_append, List.filter_cons, if_neg (by rw [c]; decide)]; simp
/-- over a list -/
theorem compA_list {a : Addr} {xs : List V} {as : List α} {Re : V → α → Prop} (hx : SqL K H1 a xs) (hp : Paired Re xs as) (p : α → Bool) (Rl : Hp → V → α → Prop) (hst : ∀ H H' y x, TSame H H' → Rl H y x → Rl H' y x) (hz : as.length ≤ 65000)
    (turn : ∀ x v H2, x ∈ as → Re v x → Same H1 H2 → CTurn m js g c te σ v H2 (p x) fun H' y => Rl H' y x)
    (hQ : ∀ acc ys H', H1 acc = none → Same H1 H' → H' acc = some (.lst ys) → Paired (Rl H') ys (as.filter p) → Q (.ref acc) H') : tCompR m js g c te (Itl K a) σ H1 Q := by
  intro acc hacc
  have hl := Paired.length hp
  refine ⟨CW xs.length acc (fun i ys H => Same H1 H ∧ Paired (Rl H) ys ((as.take i).filter p)), ⟨_, rfl, Nat.zero_le _, [], upd_same, same_new hacc _, .nil⟩, ?_⟩
  rintro i m' H ⟨rfl, hi, ys, h0, S, hR⟩
  have q := S.seq hx
  by_cases hlt : i < xs.length
  · refine .inr ⟨⟨xs, xs[i], q, by simp [hlt]⟩, fun v H' y => ?_⟩
    obtain ⟨e, y⟩ := y
    subst e
    obtain ⟨x, hxa, hre⟩ := paired_take hp (y xs q)
    have hyl := Paired.length hR
    have hfl : ((as.take i).filter p).length ≤ as.length := filt_len
    refine turn x v _ (List.mem_of_getElem? hxa) hre S _ _ (fun cc y' H5 s r => ?_) (fun cc H4 s => ?_)
    · refine ⟨ys, s acc _ h0, big5 (by omega), xs.length - (i + 1), by omega, rfl, hlt, ys ++ [y'], upd_same, fun b o z => ?_, ?_⟩
      · rw [upd_ne (ne_of_none z hacc)]; exact s b o (S b o z)
      · have ts : TSame H5 (upd H5 acc (.lst (ys ++ [y']))) := tsame_upd (s acc _ h0)
        rw [filt_yes hxa cc]
        exact Paired.snoc (Paired.imp' (fun _ _ z => hst _ _ _ _ ts (hst _ _ _ _ s.t z)) hR) (hst _ _ _ _ ts r)
    · refine ⟨xs.length - (i + 1), by omega, rfl, hlt, ys, s acc _ h0, S.trans s, ?_⟩
      rw [filt_no hxa cc]
      exact Paired.imp' (fun _ _ z => hst _ _ _ _ s.t z) hR
  · have e : i = xs.length := by omega
    subst e
    rw [hl, List.take_length] at hR
    exact .inl ⟨⟨xs, q, Nat.le_refl _⟩, hQ acc ys H hacc S h0 hR⟩
/-- over a range -/
theorem compA_range {lo : Int} {n : Nat} (p : Nat → Bool) (Rl : Hp → V → Nat → Prop) (hst : ∀ H H' y x, TSame H H' → Rl H y x → Rl H' y x) (hz : n ≤ 65000)
    (turn : ∀ x H2, x < n → Same H1 H2 → CTurn m js g c te σ (.int (lo + (x : Nat))) H2 (p x) fun H' y => Rl H' y x)
    (hQ : ∀ acc ys H', H1 acc = none → Same H1 H' → H' acc = some (.lst ys) → Paired (Rl H') ys ((List.range n).filter p) → Q (.ref acc) H') : tCompR m js g c te (Itr lo n) σ H1 Q := by
  intro acc hacc
  refine ⟨CW n acc (fun i ys H => Same H1 H ∧ Paired (Rl H) ys ((List.range i).filter p)), ⟨_, rfl, Nat.zero_le _, [], upd_same, same_new hacc _, .nil⟩, ?_⟩
  rintro i m' H ⟨rfl, hi, ys, h0, S, hR⟩
  by_cases hlt : i < n
  · refine .inr ⟨hlt, fun v H' y => ?_⟩
    obtain ⟨e, y⟩ := y
    subst e y
    have hyl := Paired.length hR
    have hfl : ((List.range i).filter p).length ≤ i := Nat.le_trans (List.length_filter_le _ _) (by simp)
    refine turn i _ hlt S _ _ (fun cc y' H5 s r => ?_) (fun cc H4 s => ?_)
    · refine ⟨ys, s acc _ h0, big5 (by omega), n - (i + 1), by omega, rfl, hlt, ys ++ [y'], upd_same, fun b o z => ?_, ?_⟩
      · rw [upd_ne (ne_of_none z hacc)]; exact s b o (S b o z)
      · have ts : TSame H5 (upd H5 acc (.lst (ys ++ [y']))) := tsame_upd (s acc _ h0)
        rw [List.range_succ, List.filter_append, List.filter_cons, if_pos cc]
        exact Paired.snoc (Paired.imp' (fun _ _ z => hst _ _ _ _ ts (hst _ _ _ _ s.t z)) hR) (hst _ _ _ _ ts r)
    · refine ⟨n - (i + 1), by omega, rfl, hlt, ys, s acc _ h0, S.trans s, ?_⟩
      rw [List.range_succ, List.filter_append, List.filter_cons, if_neg (by rw [cc]; decide), List.filter_nil, List.append_nil]
      exact Paired.imp' (fun _ _ z => hst _ _ _ _ s.t z) hR
  · have e : i = n := by omega
    subst e
    exact .inl ⟨Nat.le_refl _, hQ acc ys H hacc S h0 hR⟩
theorem paired_map {β : Type} {f : β → V} : ∀ {ys : List V} {as : List β}, Paired (fun y x => y = f x) ys as → ys = as.map f
  | _, _, .nil => rfl
  | _, _, .cons h r => by rw [h, paired_map r]; rfl
theorem paired_ints : ∀ ns : List Int, Paired (fun v (n : Int) => v = V.int n) (ns.map V.int) ns
  | [] => .nil
  | n :: r => .cons rfl (paired_ints r)
/-- ints in, values out -/
theorem compV_list {a : Addr} {ns : List Int} (hx : SqL K H1 a (ns.map V.int)) (p : Int → Bool) (f : Int → V) (hz : ns.length ≤ 65000)
    (turn : ∀ x H2, x ∈ ns → Same H1 H2 → CTurn m js g c te σ (.int x) H2 (p x) fun _ y => y = f x)
    (hQ : ∀ acc H', H1 acc = none → Same H1 H' → H' acc = some (.lst ((ns.filter p).map f)) → Q (.ref acc) H') : tCompR m js g c te (Itl K a) σ H1 Q :=
  compA_list hx (paired_ints ns) p (fun _ y x => y = f x) (fun _ _ _ _ _ z => z) hz (fun x v H2 hm e S => e ▸ turn x H2 hm S) fun acc ys H' h0 S h1 hp => hQ acc H' h0 S (by rw [h1, paired_map hp])
theorem compV_range {n : Nat} (p : Nat → Bool) (f : Nat → V) (hz : n ≤ 65000)
    (turn : ∀ x H2, x < n → Same H1 H2 → CTurn m js g c te σ (.int (x : Nat)) H2 (p x) fun _ y => y = f x)
    (hQ : ∀ acc H', H1 acc = none → Same H1 H' → H' acc = some (.lst (((List.range n).filter p).map f)) → Q (.ref acc) H') : tCompR m js g c te (Itr 0 n) σ H1 Q :=
  compA_range p (fun _ y x => y = f x) (fun _ _ _ _ _ z => z) hz (fun x H2 hm S => by rw [Int.zero_add]; exact turn x H2 hm S) fun acc ys H' h0 S h1 hp => hQ acc H' h0 S (by rw [h1, paired_map hp])
theorem row_st {r : α → Int × Int} : ∀ (H H' : Hp) (y : V) (x : α), TSame H H' → Row H y (r x) → Row H' y (r x) := fun _ _ _ _ t z => z.same t
theorem rows_of {r : α → Int × Int} {H : Hp} : ∀ {ys : List V} {as : List α}, Paired (fun y x => Row H y (r x)) ys as → Rows H ys (as.map r)
  | _, _, .nil => .nil
  | _, _, .cons h t => .cons h (rows_of t)
/-- ints in, rows out -/
theorem compR_list {a : Addr} {ns : List Int} (hx : SqL K H1 a (ns.map V.int)) (p : Int → Bool) (r : Int → Int × Int) (hz : ns.length ≤ 65000)
    (turn : ∀ x H2, x ∈ ns → Same H1 H2 → CTurn m js g c te σ (.int x) H2 (p x) fun H' y => Row H' y (r x))
    (hQ : ∀ acc ys H', H1 acc = none → Same H1 H' → H' acc = some (.lst ys) → Rows H' ys ((ns.filter p).map r) → Q (.ref acc) H') : tCompR m js g c te (Itl K a) σ H1 Q :=
  compA_list hx (paired_ints ns) p (fun H y x => Row H y (r x)) row_st hz (fun x v H2 hm e S => e ▸ turn x H2 hm S) fun acc ys H' h0 S h1 hp => hQ acc ys H' h0 S h1 (rows_of hp)
end
/-- a turn with one plain name and a test that looks, giving the name's own int -/
theorem turn_pick {js : List Nat} {c : TT} {te : TE} {σ : St} {v y : V} {H2 : Hp} {b : Bool} {R : Hp → V → Prop} (hc : LookT c ((pick 1 js σ).set 0 (some v)) H2 b) (he : b = true → ∀ H3, Same H2 H3 → LookE te ((pick 1 js σ).set 0 (some v)) H3 y) (hR : b = true → ∀ H3, Same H2 H3 → R H3 y) : CTurn 1 js (gName 0) c te σ v H2 b R := by
  intro PUT SKIP h1 h2
  refine ⟨(Wk.refl _).set (by decide), hc _ fun H3 S3 => ?_⟩
  cases b with
  | true => exact iteT (he rfl H3 S3 _ fun H4 S4 => h1 rfl _ _ (S3.trans S4) (hR rfl _ (S3.trans S4)))
  | false => exact iteF (h2 rfl _ S3)
theorem look_yes {σ : St} {H : Hp} : LookT tYes σ H true := .pure fun Q h => h
theorem filter_true {α : Type} (l : List α) : l.filter (fun _ => true) = l := by simp
end OL

namespace OL
open PySem L2
/-! ### what can be shown by str -/
structure Sho (d : PyData) (n k : Nat) : Prop where
  show' : d.showable = true
  nodict : d.hasDict = false
  short : d.leavesShort 13 = true
  bulk : d.bulk ≤ n
  depth : d.depth ≤ k
  lay : d.canLay0 = true
structure ShoAll (ds : List PyData) (n k : Nat) : Prop where
  show' : PyData.showableAll ds = true
  nodict : PyData.hasDictAll ds = false
  short : PyData.leavesShortAll 13 ds = true
  bulk : PyData.bulkAll ds ≤ n
  depth : PyData.depthAll ds ≤ k
  lay : PyData.canLayAll0 ds = true
theorem Sho.int {i : Int} (h : i.natAbs < 10 ^ 12) : Sho (.int i) 0 0 := by
  refine ⟨?_, rfl, ?_, Nat.le_refl _, Nat.le_refl _, rfl⟩
  · show decide (i.natAbs.log2 < 1920) = true
    refine decide_eq_true ?_
    by_cases e : i.natAbs = 0
    · rw [e]; decide
    · rw [Nat.log2_lt e]
      exact Nat.lt_trans h (Nat.lt_of_lt_of_le (by decide : 10 ^ 12 < 2 ^ 40) (Nat.pow_le_pow_right (by decide) (by decide)))
  · show decide ((PyData.int i).shown.length ≤ 13) = true
    exact decide_eq_true (PyData.shown_int_le h)
theorem Sho.non : Sho .none 0 0 := ⟨rfl, rfl, rfl, Nat.le_refl _, Nat.le_refl _, rfl⟩
theorem Sho.bool {b : Bool} : Sho (.bool b) 0 0 := ⟨rfl, rfl, rfl, Nat.le_refl _, Nat.le_refl _, rfl⟩
theorem ShoAll.nil : ShoAll [] 0 0 := ⟨rfl, rfl, rfl, Nat.le_refl _, Nat.le_refl _, rfl⟩
theorem ShoAll.cons {d : PyData} {ds : List PyData} {n m k j : Nat} (h : Sho d n k) (t : ShoAll ds m j) : ShoAll (d :: ds) (n + 1 + m) (max k j) := by
  refine ⟨?_, ?_, ?_, ?_, ?_, ?_⟩
  · show (d.showable && PyData.showableAll ds) = true
    rw [h.show', t.show']; rfl
  · show (d.hasDict || PyData.hasDictAll ds) = false
    rw [h.nodict, t.nodict]; rfl
  · show (d.leavesShort 13 && PyData.leavesShortAll 13 ds) = true
    rw [h.short, t.short]; rfl
  · show d.bulk + 1 + PyData.bulkAll ds ≤ _
    have := h.bulk; have := t.bulk; omega
  · show max d.depth (PyData.depthAll ds) ≤ _
    have := h.depth; have := t.depth; omega
  · show (d.canLay0 && PyData.canLayAll0 ds) = true
    rw [h.lay, t.lay]; rfl
theorem Sho.list {ds : List PyData} {n k : Nat} (h : ShoAll ds n k) : Sho (.list ds) n (k + 1) := by
  refine ⟨h.show', h.nodict, h.short, h.bulk, ?_, h.lay⟩
  show PyData.depthAll ds + 1 ≤ _
  have := h.depth; omega
theorem Sho.tuple {ds : List PyData} {n k : Nat} (h : ShoAll ds n k) : Sho (.tuple ds) n (k + 1) := by
  refine ⟨h.show', h.nodict, h.short, h.bulk, ?_, h.lay⟩
  show PyData.depthAll ds + 1 ≤ _
  have := h.depth; omega
theorem Sho.mono {d : PyData} {n k n' k' : Nat} (h : Sho d n k) (h1 : n ≤ n') (h2 : k ≤ k') : Sho d n' k' := ⟨h.show', h.nodict, h.short, Nat.le_trans h.bulk h1, Nat.le_trans h.depth h2, h.lay⟩
theorem ShoAll.mono {d : List PyData} {n k n' k' : Nat} (h : ShoAll d n k) (h1 : n ≤ n') (h2 : k ≤ k') : ShoAll d n' k' := ⟨h.show', h.nodict, h.short, Nat.le_trans h.bulk h1, Nat.le_trans h.depth h2, h.lay⟩
/-- many alike -/
theorem ShoAll.map {α : Type} {f : α → PyData} {n k : Nat} : ∀ {as : List α}, (∀ x ∈ as, Sho (f x) n k) → ShoAll (as.map f) ((n + 1) * as.length) k
  | [], _ => ⟨rfl, rfl, rfl, Nat.zero_le _, Nat.zero_le _, rfl⟩
  | a :: as, h => by
    have h1 := ShoAll.cons (h a List.mem_cons_self) (ShoAll.map (as := as) fun x hx => h x (List.mem_cons_of_mem _ hx))
    refine h1.mono ?_ (by omega)
    rw [List.length_cons, Nat.mul_add]; omega
theorem Sho.ints {ns : List Int} (h : ∀ x ∈ ns, 0 ≤ x ∧ x < 1000000000000) : Sho (.list (ns.map PyData.int)) ns.length 1 := by
  refine (Sho.list (ShoAll.map (n := 0) (k := 0) fun x hx => Sho.int ?_)).mono (by omega) (Nat.le_refl _)
  have := h x hx
  have e : (10 : Nat) ^ 12 = 1000000000000 := by decide
  omega
theorem Sho.bk {many : Int} {bs : List Int} (h0 : 0 ≤ many ∧ many < 1000000000000) (h : ∀ x ∈ bs, 0 ≤ x ∧ x < 1000000000000) : Sho (.tuple [.int many, .list (bs.map PyData.int)]) (bs.length + 2) 2 := by
  have e : (10 : Nat) ^ 12 = 1000000000000 := by decide
  exact (Sho.tuple (ShoAll.cons (Sho.int (by omega)) (ShoAll.cons (Sho.ints h) .nil))).mono (by omega) (by decide)
theorem Sho.fits {d : PyData} {n k : Nat} (h : Sho d n k) (hn : n ≤ 1000000) : d.shown.length ≤ sizeLine := PyData.shown_fits_bulk (B := 13) (by decide) (by decide) h.short (Nat.le_trans h.bulk (Nat.le_trans hn (by decide)))
theorem Sho.shaped {d : PyData} {n k : Nat} (h : Sho d n k) (hk : k ≤ 60) : PySem.SeqAt.shaped d = true := by
  unfold PySem.SeqAt.shaped
  rw [h.lay, Bool.true_and]
  exact decide_eq_true (by have := h.depth; omega)
theorem Sho.str {x : Str} (h : x.cps.all (fun c => decide (c < 0x110000)) = true) (h' : (x.cps.toList.all fun c => decide (c < 16 ^ 8)) = true) : Sho (.str x) x.cps.size 0 := ⟨rfl, rfl, h', Nat.le_refl _, Nat.le_refl _, h⟩
/-- str(x) != str(y), of the same data -/
theorem ne_str {d : PyData} {H : Hp} {Q : Bool → Hp → Prop} (q : Q false H) : rNe (.str d.shown) (.str d.shown) H fun x H' => ∃ k, x = .bl k ∧ Q k H' := by
  refine ⟨rfl, _, rfl, ?_⟩
  rw [show decide (V.str d.shown = V.str d.shown) = true from decide_eq_true rfl]; exact q
/-- x != y, of the same data -/
theorem ne_data {K : PySem.W.Frag} {H : Hp} {x y : V} {d : PyData} {Q : Bool → Hp → Prop} (hx : DR K H x d) (hy : DR K H y d) (hs : PySem.SeqAt.shaped d = true) (he : PyData.eqv d d = true) (q : Q false H) : rEqD K true x y H fun v H' => ∃ k, v = .bl k ∧ Q k H' := by
  refine ⟨d, d, hx, hy, hs, hs, _, rfl, ?_⟩
  rw [he]; exact q
theorem nil_len : ([] : List V).length ≤ sizeLine := by show 0 ≤ sizeLine; decide
def rStrD (K : PySem.W.Frag) : List V → Hp → VK → Prop := fun xs H Q => ∃ p d, xs = [.ref p] ∧ DR K H (.ref p) d ∧ d.showable = true ∧ d.hasDict = false ∧ d.depth ≤ 60 ∧ d.shown.length ≤ sizeLine ∧ Q (.str d.shown) H
/-- a value that is had without a change -/
def IsE (t : TE) (σ : St) (H : Hp) (v : V) : Prop := ∀ Q : VK, Q v H → t σ H Q
end OL

namespace L2
open PySem PySem.Spec PyProof.Rows
section
variable {X : Cx}
/-! ### any(xs), xs a list of truths; max of a list -/
def rAny (K : PySem.W.Frag) : List V → Hp → VK → Prop := fun xs H Q => ∃ (p : Addr) (bs : List Bool), xs = [.ref p] ∧ SqL K H p (bs.map V.bl) ∧ Q (.bl (bs.any id)) H
end
end L2

namespace L2
open PySem PySem.Spec PyProof.Rows
section
variable {K : PySem.W.Frag} {m : Nat} {js : List Nat} {g : TG} {c : TT} {te : TE} {σ : St} {H1 : Hp} {Q : VK}
end
end L2

namespace L2
open PySem PySem.Spec PyProof.Rows
/-! ### zip over two lists, its pairs taken apart by the target -/
def Itz (K : PySem.W.Frag) (a b : Addr) : It :=
  ⟨fun i H => ∃ xs ys x y, SqL K H a xs ∧ SqL K H b ys ∧ xs[i]? = some x ∧ ys[i]? = some y, fun i H x H' => ∃ p u v, x = .ref p ∧ H p = none ∧ H' = upd H p (.tup [u, v]) ∧ (∀ xs, SqL K H a xs → xs[i]? = some u) ∧ ∀ ys, SqL K H b ys → ys[i]? = some v, fun i H => ∃ xs ys, SqL K H a xs ∧ SqL K H b ys ∧ (xs.length ≤ i ∨ ys.length ≤ i)⟩
theorem turn_zip {P : Program} {w : World} {K : PySem.W.Frag} {es : List Expr} {k : _} {pos : Pos} {z TI TO i1 i2 l1 l2 : Addr} (D : ZipApart z TI TO i1 i2 l1 l2) : Turn P w K (.Tuple es k pos) (Itz K l1 l2) [z, TI, TO, i1, i2] z (fun i h => IsZip h z TI TO .none ∧ IsPair h TI (.ref i1) (.ref i2) ∧ (∃ a b, IsPair h TO a b) ∧ h.IsListIter i1 l1 i ∧ h.IsListIter i2 l2 i) where
  mem := by simp
  obj := fun i h st c hc => by
    obtain ⟨hz, hTI, ⟨a, b, hTO⟩, ⟨o1, e1, _, d1⟩, ⟨o2, e2, _, d2⟩⟩ := st
    simp only [List.mem_cons, List.not_mem_nil, or_false] at hc
    rcases hc with rfl | rfl | rfl | rfl | rfl
    · exact ⟨_, hz, fun v q => by have q' : Data.fields _ = Data.cell v := q; cases q'⟩
    · exact ⟨_, hTI, fun v q => by have q' : Data.seq _ _ = Data.cell v := q; cases q'⟩
    · exact ⟨_, hTO, fun v q => by have q' : Data.seq _ _ = Data.cell v := q; cases q'⟩
    · exact ⟨o1, e1, fun v q => by rw [d1] at q; cases q⟩
    · exact ⟨o2, e2, fun v q => by rw [d2] at q; cases q⟩
  keep := fun i h h' st k => by
    obtain ⟨hz, hTI, ⟨a, b, hTO⟩, h1, h2⟩ := st
    exact ⟨k z (by simp) _ hz, k TI (by simp) _ hTI, ⟨a, b, k TO (by simp) _ hTO⟩, h1.at fun o q => k i1 (by simp) o q, h2.at fun o q => k i2 (by simp) o q⟩
  item := by
    intro X hP hw hK hc i pins s σ H E I hf st hg
    subst hP hw hK
    obtain ⟨xs, ys, x, y, hqa, hqb, hx, hy⟩ := hg
    obtain ⟨its, rv, p, hz0⟩ := I.list hqa
    obtain ⟨jts, rw', p', hz1⟩ := I.list hqb
    obtain ⟨u, hu, ru⟩ := rv.get hx
    obtain ⟨v, hv, rv2⟩ := rw'.get hy
    obtain ⟨hz, hTI, ⟨a, b, hTO⟩, h1, h2⟩ := st
    refine wpAny_pyNext_zip_item D hz hTI hTO h1 h2 p.isList p'.isList (x := u) (y := v) (by simpa using hu) (by simpa using hv) fun h' hz' hTO' h1' h2' hT' hsz hk => ?_
    refine ⟨_, rfl, wpAny_letOwnedTupleGo_zip hz' fun h2h hz2 hs2 => ?_⟩
    have lt : ∀ c ∈ [z, TI, TO, i1, i2], c < s.heap.objs.size := fun c hc => by
      simp only [List.mem_cons, List.not_mem_nil, or_false] at hc
      rcases hc with rfl | rfl | rfl | rfl | rfl
      · exact Heap.lt_size hz
      · exact Heap.lt_size hTI
      · exact Heap.lt_size hTO
      · obtain ⟨o, e, _⟩ := h1; exact Heap.lt_size e
      · obtain ⟨o, e, _⟩ := h2; exact Heap.lt_size e
    have hTz : s.heap.objs.size ≠ z := Nat.ne_of_gt (lt z (by simp))
    have hk2 : ∀ c o, c ∉ [z, TI, TO, i1, i2] → s.heap.get? c = some o → h2h.get? c = some o := fun c o hc q => by
      simp only [List.mem_cons, List.not_mem_nil, or_false, not_or] at hc
      exact (hs2.2 c hc.1).trans (hk c o hc.1 hc.2.2.1 hc.2.2.2.1 hc.2.2.2.2 q)
    have hkA : ∀ c o, s.heap.get? c = some o → ∃ o', h2h.get? c = some o' := fun c o q => by
      have hlt := Heap.lt_size q
      have : c < h2h.objs.size := by rw [hs2.1, hsz]; exact Nat.lt_succ_of_lt hlt
      by_cases hc : c ∈ [z, TI, TO, i1, i2]
      · simp only [List.mem_cons, List.not_mem_nil, or_false] at hc
        rcases hc with rfl | rfl | rfl | rfl | rfl
        · exact ⟨_, hz2⟩
        · exact ⟨_, (hs2.2 _ D.TIz).trans (hk _ _ D.TIz D.TITO D.TIi1 D.TIi2 hTI)⟩
        · exact ⟨_, (hs2.2 _ D.TOz).trans hTO'⟩
        · obtain ⟨o', e', _⟩ := h1'; exact ⟨o', (hs2.2 _ D.i1z).trans e'⟩
        · obtain ⟨o', e', _⟩ := h2'; exact ⟨o', (hs2.2 _ D.i2z).trans e'⟩
      · exact ⟨o, hk2 c o hc q⟩
    have hT : h2h.get? s.heap.objs.size = some { cls := .type "tuple", data := .seq #[u, v] } := (hs2.2 _ hTz).trans hT'
    have hTn : H s.heap.objs.size = none := I.hok.fresh (Nat.le_refl _)
    have ne : ∀ c o, H c = some o → c ≠ s.heap.objs.size := fun c o q z => by rw [z, hTn] at q; cases q
    have nch : ∀ c o, H c = some o → c ∉ [z, TI, TO, i1, i2] := fun c o q z => by rw [(hf c z).1] at q; cases q
    have up : ∀ c o, H c = some o → upd H s.heap.objs.size (.tup [x, y]) c = some o := fun c o q => by rw [upd_ne (ne c o q)]; exact q
    have I1 : Inv X pins σ (upd H s.heap.objs.size (.tup [x, y])) { s with heap := h2h, toks := s.toks } := by
      refine I.step (g' := s.gens) (d' := s.drawn) (ch := [z, TI, TO, i1, i2]) (fun c hc => ?_) (fun c o _ _ hc q _ => hk2 c o hc q) (fun c o _ _ hc q _ => ⟨o.slots, hk2 c o hc q⟩) (fun c o hc q n => ?_) (fun c o hc q => ⟨o, hk2 c o hc q⟩)
        (fun c xs q => up c _ q) (fun c o u q => up c _ q) (fun c ps q => ⟨#[], by rw [up c _ q]; simp⟩) (fun m hm => ?_) (fun c u' q => ?_) I.bare
      · obtain ⟨f0, f1, f2, f3, f4, f5⟩ := hf c hc
        exact ⟨f3, f1, f4, f5⟩
      · rw [upd_ne (Nat.ne_of_lt (Heap.lt_size q))]; exact n
      · obtain ⟨o, es, ep, ho, r⟩ := hm
        exact ⟨o, es, ep, hk2 _ o (fun z => (hf _ z).2.1 rfl) ho, r⟩
      · by_cases hc : c = s.heap.objs.size
        · subst hc
          rw [upd_same] at q
          cases q
          exact ⟨by show 2 ≤ sizeLine; decide, [u, v], .cons ru (.cons rv2 .nil), _, hT, rfl, 0, rfl⟩
        · rw [upd_ne hc] at q
          refine (I.hok c u' q).stay (fun d v' hd q' => hk2 d v' ?_ q') (fun d q' => up d _ q') fun d xs q' => up d _ q'
          rcases hd with z' | z'
          · subst z'; exact nch _ _ q
          · exact nch _ _ z'
    refine ⟨.ref s.heap.objs.size, _, I1, rfl, ⟨_, x, y, rfl, hTn, rfl, fun ys' hy' => by rw [I.list_inj hy' hqa]; exact hx, fun ys' hy' => by rw [I.list_inj hy' hqb]; exact hy⟩, ⟨hz2, (hs2.2 _ D.TIz).trans (hk _ _ D.TIz D.TITO D.TIi1 D.TIi2 hTI), ⟨_, _, (hs2.2 _ D.TOz).trans hTO'⟩, h1'.extBut hs2.extBut D.i1z, h2'.extBut hs2.extBut D.i2z⟩, fun c hc => ?_⟩
    rw [upd_ne (Nat.ne_of_lt (lt c hc))]; exact (hf c hc).1
  done := by
    intro X hP hw hK hc i pins s σ H E I hf st hg
    subst hP hw hK
    obtain ⟨xs, ys, hqa, hqb, hx⟩ := hg
    obtain ⟨its, rv, p, hz0⟩ := I.list hqa
    obtain ⟨jts, rw', p', hz1⟩ := I.list hqb
    obtain ⟨hz, hTI, ⟨a, b, hTO⟩, h1, h2⟩ := st
    have hl := rv.length
    have hl' := rw'.length
    refine wpAny_pyNext_zip_end (I.ok.hd hc) D hz hTI hTO h1 h2 p.isList p'.isList (by simp; omega) fun h' hk => ⟨rfl, ?_⟩
    have hk2 : ∀ c o, c ∉ [z, TI, TO, i1, i2] → s.heap.get? c = some o → h'.get? c = some o := fun c o hc q => by
      simp only [List.mem_cons, List.not_mem_nil, or_false, not_or] at hc
      exact hk c o hc.1 hc.2.2.1 hc.2.2.2.1 hc.2.2.2.2 q
    have nch : ∀ c o, H c = some o → c ∉ [z, TI, TO, i1, i2] := fun c o q z => by rw [(hf c z).1] at q; cases q
    refine I.step (g' := s.gens) (d' := s.drawn) (t' := s.toks) (ch := [z, TI, TO, i1, i2]) (fun c hc => ?_) (fun c o _ _ hc q _ => hk2 c o hc q) (fun c o _ _ hc q _ => ⟨o.slots, hk2 c o hc q⟩) (fun c o hc q n => n) (fun c o hc q => ⟨o, hk2 c o hc q⟩)
        (fun c xs q => q) (fun c o u q => q) (fun c ps q => ⟨#[], by rw [q]; simp⟩) (fun m hm => ?_) (fun c u' q => ?_) I.bare
    · obtain ⟨f0, f1, f2, f3, f4, f5⟩ := hf c hc
      exact ⟨f3, f1, f4, f5⟩
    · obtain ⟨o, es, ep, ho, r⟩ := hm
      exact ⟨o, es, ep, hk2 _ o (fun z => (hf _ z).2.1 rfl) ho, r⟩
    · refine (I.hok c u' q).stay (fun d v' hd q' => hk2 d v' ?_ q') (fun d q' => q') fun d xs q' => q'
      rcases hd with z' | z'
      · subst z'; exact nch _ _ q
      · exact nch _ _ z'
  self := fun _ _ _ _ _ st h => by
    obtain ⟨hz, _⟩ := st
    exact wpAny_pyIter_zip hz h

section
variable {X : Cx}
def iZip (K : PySem.W.Frag) (ta : TA) : TI := fun σ H R => ta σ H fun vs H1 => ∃ a b, vs = [.ref a, .ref b] ∧ (∃ xs, SqL K H1 a xs) ∧ (∃ ys, SqL K H1 b ys) ∧ R (Itz K a b) H1
theorem pi_zip {es : List Expr} {k : _} {tpos : Pos} {a b : Expr} {ta : TA} {p pos : Pos} (hg : Gl X "zip") (hm : X.mg "zip" = none) (ha : PA X [a, b] ta) (hs : starEach [a, b] X.env = [(false, eval a X.env), (false, eval b X.env)] := by rfl) (hs2 : starEach [b] X.env = [(false, eval b X.env)] := by rfl) : PI X (.Tuple es k tpos) (.Call (.Name "zip" p) [a, b] [] pos) (iZip X.K ta) := by
  intro pins s σ H R I h
  refine Call_ (ld_blt I hg hm boot_zip (PyProof.Rows.callWith_type1 (thn (ha pos pins s σ H _ I h) fun us s1 ⟨vs, H1, I1, r1, q1⟩ => ?_) (by rw [hs, hs2]) (by rw [hs2]; rfl)))
  obtain ⟨l1, l2, e, ⟨xs, hqa⟩, ⟨ys, hqb⟩, q⟩ := q1
  subst e
  obtain ⟨u, u', rfl, ru, ru'⟩ := vals2 r1
  cases ru
  cases ru'
  obtain ⟨its, rv, pl, hz⟩ := I1.list hqa
  obtain ⟨jts, rv', pl', hz'⟩ := I1.list hqb
  have lt1 : l1 < s1.heap.objs.size := by obtain ⟨o, e, _⟩ := pl.isList; exact Heap.lt_size e
  have lt2 : l2 < s1.heap.objs.size := by obtain ⟨o, e, _⟩ := pl'.isList; exact Heap.lt_size e
  refine call_zip_2 pl.isList pl'.isList fun h' hz hTI hTO h1 h2 hsz hk => wpAny_pyIter_zip hz ?_
  have I2 : Inv X pins σ H1 { s1 with heap := h' } := I1.kept (t' := s1.toks) hk
  refine ⟨_, _, _, _, H1, rfl, I2, turn_zip (zipApart_new lt1 lt2), ⟨hz, hTI, ⟨_, _, hTO⟩, h1, h2⟩, fun c hc => ?_, q⟩
  have hc' : s1.heap.objs.size ≤ c := by
    simp only [List.mem_cons, List.not_mem_nil, or_false] at hc
    rcases hc with rfl | rfl | rfl | rfl | rfl
    · exact Nat.le_add_right _ 4
    · exact Nat.le_add_right _ 2
    · exact Nat.le_add_right _ 3
    · exact Nat.le_refl _
    · exact Nat.le_add_right _ 1
  exact I1.fpOk hc' (I1.hok.fresh hc')
end
end L2

namespace L2
open PySem PySem.Spec PyProof.Rows
open Builtin.Int (intBits)
section
variable {X : Cx}
theorem sumIK (K : PySem.W.Frag) (hK : X.K = K) (hc : X.calm = true) : CallR X (.builtin "sum") (rSumI K) := by subst hK; exact call_sumI hc
/-! ### big numbers -/
def CMulW (i j : Int) : Prop := ∃ a b : Nat, intBits i ≤ a ∧ intBits j ≤ b ∧ a + b ≤ 134217728
theorem op_mulW : OpR X (binaryOp .Mult) (rI CMulW fun i j => .int (i * j)) := opI fun _ _ _ _ _ _ _ hc q => by
  obtain ⟨a, b, h1, h2, h3⟩ := hc
  exact mul_int q (IntMulOk.of_le h1 h2 h3)
def CDivW (_ j : Int) : Prop := 0 < j ∧ intBits j ≤ 9000
theorem op_fdivW : OpR X (binaryOp .FloorDiv) (rI CDivW fun i j => .int (i / j)) := opI fun i j _ _ _ _ _ hc q => by
  have h1 : (0 : Int) < j := hc.1
  have h2 : intBits j ≤ 9000 := hc.2
  refine floordiv_int (by omega) (by rw [Int.fdiv_eq_ediv_of_nonneg i (by omega)]; exact q) (.inl (PyProof.noPylong_of_log2 ?_))
  have h3 := intBits_le_iff.mp h2
  have h4 : j.natAbs ≠ 0 := by omega
  exact (Nat.log2_lt h4).mpr h3
end
section
variable {K : PySem.W.Frag} {m : Nat} {js : List Nat} {g : TG} {c : TT} {te : TE} {σ : St} {H1 : Hp} {Q : VK}
/-- a comprehension over zip, the second no longer than the first -/
theorem comp_zip {a b : Addr} {xs zs : List V} (hx : SqL K H1 a xs) (hz : SqL K H1 b zs) (hle : zs.length ≤ xs.length) (F : Nat → List V) (hF : F 0 = [])
    (turn : ∀ acc i x z p H, H1 acc = none → i < zs.length → xs[i]? = some x → zs[i]? = some z → Same H1 H → H acc = some (.lst (F i)) → H p = none → g (.ref p) (pick m js σ) (upd H p (.tup [x, z])) fun σ2 H2 => Wk (pick m js σ) σ2 ∧ c σ2 H2 fun b H3 => if b = true then te σ2 H3 fun y H4 => CPut zs.length acc (CP H1 F) i y H4 else CSkip zs.length acc (CP H1 F) i H3)
    (hQ : ∀ acc H, H1 acc = none → Same H1 H → H acc = some (.lst (F zs.length)) → Q (.ref acc) H) : tCompR m js g c te (Itz K a b) σ H1 Q := by
  intro acc hacc
  refine ⟨CW zs.length acc (CP H1 F), ⟨_, rfl, Nat.zero_le _, [], upd_same, same_new hacc _, hF.symm⟩, ?_⟩
  rintro i m' H ⟨rfl, hi, ys, h0, S, rfl⟩
  have q := S.seq hx
  have q' := S.seq hz
  by_cases hlt : i < zs.length
  · refine .inr ⟨⟨xs, zs, xs[i]'(by omega), zs[i], q, q', by simp [show i < xs.length by omega], by simp [hlt]⟩, fun x H' y => ?_⟩
    obtain ⟨p, u, v, e, hp, e2, y, y'⟩ := y
    subst e e2
    exact turn acc i u v p _ hacc hlt (y xs q) (y' zs q') S h0 hp
  · have e : i = zs.length := by omega
    subst e
    exact .inl ⟨⟨xs, zs, q, q', .inr (Nat.le_refl _)⟩, hQ acc H hacc S h0⟩
end
end L2
namespace OL
open PySem L2
open Builtin.Int (intBits)
/-! ### what can be shown by str, with big numbers in it -/
structure ShB (d : PyData) (n k : Nat) : Prop where
  show' : d.showable = true
  nodict : d.hasDict = false
  short : d.leavesShort 800 = true
  bulk : d.bulk ≤ n
  depth : d.depth ≤ k
  lay : d.canLay0 = true
structure ShBAll (ds : List PyData) (n k : Nat) : Prop where
  show' : PyData.showableAll ds = true
  nodict : PyData.hasDictAll ds = false
  short : PyData.leavesShortAll 800 ds = true
  bulk : PyData.bulkAll ds ≤ n
  depth : PyData.depthAll ds ≤ k
  lay : PyData.canLayAll0 ds = true
theorem ShB.int {i : Int} (h : intBits i ≤ 799) : ShB (.int i) 0 0 := by
  have h := intBits_le_iff.mp h
  refine ⟨?_, rfl, ?_, Nat.le_refl _, Nat.le_refl _, rfl⟩
  · show decide (i.natAbs.log2 < 1920) = true
    refine decide_eq_true ?_
    by_cases e : i.natAbs = 0
    · rw [e]; decide
    · rw [Nat.log2_lt e]
      exact Nat.lt_of_lt_of_le h (Nat.pow_le_pow_right (by decide) (by decide))
  · show decide ((PyData.int i).shown.length ≤ 800) = true
    have e := int_text_length_le10 (k := 799) (by decide) (Nat.lt_of_lt_of_le h (Nat.pow_le_pow_left (by decide) _))
    refine decide_eq_true ?_
    show (Str.ofString (toString i)).length ≤ 800
    rw [ofString_length]; exact e
theorem ShBAll.nil : ShBAll [] 0 0 := ⟨rfl, rfl, rfl, Nat.le_refl _, Nat.le_refl _, rfl⟩
theorem ShBAll.cons {d : PyData} {ds : List PyData} {n m k j : Nat} (h : ShB d n k) (t : ShBAll ds m j) : ShBAll (d :: ds) (n + 1 + m) (max k j) := by
  refine ⟨?_, ?_, ?_, ?_, ?_, ?_⟩
  · show (d.showable && PyData.showableAll ds) = true
    rw [h.show', t.show']; rfl
  · show (d.hasDict || PyData.hasDictAll ds) = false
    rw [h.nodict, t.nodict]; rfl
  · show (d.leavesShort 800 && PyData.leavesShortAll 800 ds) = true
    rw [h.short, t.short]; rfl
  · show d.bulk + 1 + PyData.bulkAll ds ≤ _
    have := h.bulk; have := t.bulk; omega
  · show max d.depth (PyData.depthAll ds) ≤ _
    have := h.depth; have := t.depth; omega
  · show (d.canLay0 && PyData.canLayAll0 ds) = true
    rw [h.lay, t.lay]; rfl
theorem ShB.list {ds : List PyData} {n k : Nat} (h : ShBAll ds n k) : ShB (.list ds) n (k + 1) := by
  refine ⟨h.show', h.nodict, h.short, h.bulk, ?_, h.lay⟩
  show PyData.depthAll ds + 1 ≤ _
  have := h.depth; omega
theorem ShB.tuple {ds : List PyData} {n k : Nat} (h : ShBAll ds n k) : ShB (.tuple ds) n (k + 1) := by
  refine ⟨h.show', h.nodict, h.short, h.bulk, ?_, h.lay⟩
  show PyData.depthAll ds + 1 ≤ _
  have := h.depth; omega
theorem ShB.mono {d : PyData} {n k n' k' : Nat} (h : ShB d n k) (h1 : n ≤ n') (h2 : k ≤ k') : ShB d n' k' := ⟨h.show', h.nodict, h.short, Nat.le_trans h.bulk h1, Nat.le_trans h.depth h2, h.lay⟩
theorem ShBAll.map {α : Type} {f : α → PyData} {n k : Nat} : ∀ {as : List α}, (∀ x ∈ as, ShB (f x) n k) → ShBAll (as.map f) ((n + 1) * as.length) k
  | [], _ => ⟨rfl, rfl, rfl, Nat.zero_le _, Nat.zero_le _, rfl⟩
  | a :: as, h => by
    have t := ShBAll.map (as := as) fun x hx => h x (.tail _ hx)
    have c := ShBAll.cons (h a (.head _)) t
    refine ⟨c.show', c.nodict, c.short, Nat.le_trans c.bulk ?_, Nat.le_trans c.depth (by omega), c.lay⟩
    rw [List.length_cons, Nat.mul_succ]; omega
theorem ShB.fits {d : PyData} {n k : Nat} (h : ShB d n k) (hn : n ≤ 1000) : d.shown.length ≤ sizeLine := by
  have h1 := PyData.shown_le_bulk 800 (by decide) d h.short
  have h2 := h.bulk
  have h3 : (800 + 2) * d.bulk ≤ 802 * 1000 := Nat.mul_le_mul (by decide) (by omega)
  rw [sizeLine_eq]
  omega
theorem ShB.shaped {d : PyData} {n k : Nat} (h : ShB d n k) (hk : k ≤ 60) : PySem.SeqAt.shaped d = true := by
  unfold PySem.SeqAt.shaped
  rw [h.lay, Bool.true_and]
  exact decide_eq_true (by have := h.depth; omega)
section
variable {K : PySem.W.Frag} {m : Nat} {js : List Nat} {g : TG} {c : TT} {te : TE} {σ : St} {H1 : Hp} {Q : VK}
end
end OL

namespace OL
open PySem L2 Dl
open Builtin.Int (intBits)
/-! ### shares of dealings: k79 -/
def nI (cs : List Nat) : List Int := cs.map fun c => ((c : Nat) : Int)
def chRow (i : Nat) : List Int := (List.range (i + 1)).map fun j => ch i j
def Pasc (K : PySem.W.Frag) (H : Hp) (a : Addr) (n : Nat) : Prop := ∃ xs : List V, SqL K H a xs ∧ xs.length = n + 1 ∧ ∀ i, i ≤ n → ∃ p, xs[i]? = some (.ref p) ∧ SqL K H p ((chRow i).map V.int)
theorem Pasc.same {K : PySem.W.Frag} {H H' : Hp} {a : Addr} {n : Nat} (h : Pasc K H a n) (S : Same H H') : Pasc K H' a n := by
  obtain ⟨xs, h1, h2, h3⟩ := h
  exact ⟨xs, S.seq h1, h2, fun i hi => by obtain ⟨p, e, hp⟩ := h3 i hi; exact ⟨p, e, S.seq hp⟩⟩
theorem chRow_len (i : Nat) : (chRow i).length = i + 1 := by unfold chRow; rw [List.length_map, List.length_range]
theorem chRow_get {i j : Nat} (h : j ≤ i) : (chRow i)[j]? = some (ch i j) := by
  unfold chRow
  rw [List.getElem?_map, List.getElem?_range (by omega)]; rfl
theorem chRow_at {i j : Nat} (h : j ≤ i) : atI ((chRow i).map V.int) ((j : Nat) : Int) = some (.int (ch i j)) := by
  rw [atI_map (Int.natCast_nonneg _) (by rw [List.length_map, chRow_len]; omega), Int.toNat_natCast, List.getD_eq_getElem?_getD, chRow_get h]; rfl
/-- the next row of choices -/
theorem chRow_next (i : Nat) : chRow (i + 1) = [1] ++ ((List.range i).map fun j => ch i j + ch i (j + 1)) ++ [1] := by
  refine List.ext_getElem? fun k => ?_
  by_cases h0 : k = 0
  · subst h0; rw [chRow_get (Nat.zero_le _), ch_zero]; rfl
  · obtain ⟨j, rfl⟩ : ∃ j, k = j + 1 := ⟨k - 1, by omega⟩
    show _ = (((List.range i).map fun j => ch i j + ch i (j + 1)) ++ [1])[j]?
    by_cases h1 : j < i
    · rw [chRow_get (by omega), List.getElem?_append_left (by rw [List.length_map, List.length_range]; exact h1), List.getElem?_map, List.getElem?_range h1, ch_ss]; rfl
    · rw [List.getElem?_append_right (by rw [List.length_map, List.length_range]; omega), List.length_map, List.length_range]
      by_cases h2 : j = i
      · subst h2; rw [chRow_get (Nat.le_refl _), ch_self, Nat.sub_self]; rfl
      · rw [List.getElem?_eq_none (by rw [chRow_len]; omega), List.getElem?_eq_none (by show 1 ≤ _; omega)]
/-! bits -/
theorem ch_bits {n : Nat} (h : n ≤ 100) (k : Nat) : intBits (ch n k) ≤ 101 := by
  refine intBits_le_iff.mpr ?_
  have h1 := ch_le n k
  have h2 := ch_nn n k
  have h3 : (2 : Int) ^ n = ((2 ^ n : Nat) : Int) := by rw [Int.natCast_pow]; rfl
  have h4 : (2 : Nat) ^ n < 2 ^ 101 := Nat.pow_lt_pow_right (by decide) (by omega)
  have h5 : (ch n k).natAbs ≤ 2 ^ n := by omega
  exact Nat.lt_of_le_of_lt h5 h4
theorem chm_bits {n : Nat} (h : n ≤ 100) (c t : Nat) : intBits (chm n c t) ≤ 101 := by
  unfold chm
  split
  · exact ch_bits h _
  · exact Nat.zero_le _
theorem pr_bits {n j : Nat} (h : n ≤ 100) : ∀ cs : List Nat, intBits (pr n j cs) ≤ 101 * cs.length + 1
  | [] => by show intBits 1 ≤ _; exact Nat.le_trans (show intBits 1 ≤ 1 by decide) (by omega)
  | c :: cs => Nat.le_trans (intBits_mul_le (chm_bits (by omega) c j) (pr_bits h cs)) (by rw [List.length_cons]; omega)
theorem mm_bits {n j : Nat} (h : n ≤ 100) (cs : List Nat) : intBits (mm n j cs) ≤ 101 * cs.length + 102 := Nat.le_trans (intBits_mul_le (ch_bits h j) (pr_bits h cs)) (by omega)
theorem al_bits {n : Nat} (h : n ≤ 100) : ∀ cs : List Nat, intBits (al n cs) ≤ 101 * cs.length + 1
  | [] => by show intBits 1 ≤ _; exact Nat.le_trans (show intBits 1 ≤ 1 by decide) (by omega)
  | c :: cs => Nat.le_trans (intBits_mul_le (ch_bits h c) (al_bits h cs)) (by rw [List.length_cons]; omega)
theorem up_bits {j : Nat} : ∀ {cs : List Nat}, (∀ c ∈ cs, c ≤ 100) → intBits (up j cs) ≤ 101 * cs.length + 1
  | [], _ => by show intBits 1 ≤ _; exact Nat.le_trans (show intBits 1 ≤ 1 by decide) (by omega)
  | c :: cs, h => Nat.le_trans (intBits_mul_le (ch_bits (h c (.head _)) j) (up_bits fun d hd => h d (.tail _ hd))) (by rw [List.length_cons]; omega)
theorem pr_snoc (n j : Nat) (c : Nat) : ∀ cs : List Nat, pr n j (cs ++ [c]) = pr n j cs * chm (n - j) c j
  | [] => by show chm (n - j) c j * 1 = 1 * _; rw [Int.mul_one, Int.one_mul]
  | d :: cs => by show chm (n - j) d j * pr n j (cs ++ [c]) = chm (n - j) d j * pr n j cs * _; rw [pr_snoc n j c cs, Int.mul_assoc]
theorem up_snoc (j : Nat) (c : Nat) : ∀ cs : List Nat, up j (cs ++ [c]) = up j cs * ch c j
  | [] => by show ch c j * 1 = 1 * _; rw [Int.mul_one, Int.one_mul]
  | d :: cs => by show ch d j * up j (cs ++ [c]) = ch d j * up j cs * _; rw [up_snoc j c cs, Int.mul_assoc]
theorem al_snoc (n : Nat) (c : Nat) : ∀ cs : List Nat, al n (cs ++ [c]) = al n cs * ch n c
  | [] => by show ch n c * 1 = 1 * _; rw [Int.mul_one, Int.one_mul]
  | d :: cs => by show ch n d * al n (cs ++ [c]) = ch n d * al n cs * _; rw [al_snoc n c cs, Int.mul_assoc]
theorem pr_rev (n j : Nat) : ∀ cs : List Nat, pr n j cs.reverse = pr n j cs
  | [] => rfl
  | c :: cs => by rw [List.reverse_cons, pr_snoc, pr_rev n j cs, Int.mul_comm]; rfl
theorem al_rev (n : Nat) : ∀ cs : List Nat, al n cs.reverse = al n cs
  | [] => rfl
  | c :: cs => by rw [List.reverse_cons, al_snoc, al_rev n cs, Int.mul_comm]; rfl
theorem take_snoc {α : Type} {l : List α} {i : Nat} {x : α} (h : l[i]? = some x) : l.take (i + 1) = l.take i ++ [x] := by
  rw [List.take_succ, h]; rfl
/-! C(a, k) step by step -/
/-! lowest terms -/
def lowF (t b : Int) : Int × Int := (t / gcdF t b, b / gcdF t b)
structure LowOk (N w : Int) (p : Int × Int) : Prop where
  nn : 0 ≤ p.1
  pos : 0 < p.2
  eq : p.1 * N = w * p.2
theorem gcdF_dvd (t b : Int) (ht : 0 ≤ t) (hb : 0 < b) : gcdF t b ∣ t ∧ gcdF t b ∣ b := by
  unfold gcdF
  have e1 : ((t.toNat : Nat) : Int) = t := by omega
  have e2 : ((b.toNat : Nat) : Int) = b := by omega
  constructor
  · have := Int.natCast_dvd_natCast.mpr (Nat.gcd_dvd_left t.toNat b.toNat); rwa [e1] at this
  · have := Int.natCast_dvd_natCast.mpr (Nat.gcd_dvd_right t.toNat b.toNat); rwa [e2] at this
theorem low_ok {t b : Int} (ht : 0 ≤ t) (hb : 0 < b) : LowOk b t (lowF t b) := by
  have g0 := gcd_pos (t := t) hb
  obtain ⟨d1, d2⟩ := gcdF_dvd t b ht hb
  refine ⟨Int.ediv_nonneg ht (by omega), ?_, ?_⟩
  · exact Int.ediv_pos_of_pos_of_dvd hb (by omega) d2
  · show t / gcdF t b * b = t * (b / gcdF t b)
    generalize gcdF t b = g at g0 d1 d2
    obtain ⟨x, rfl⟩ := d1
    obtain ⟨y, rfl⟩ := d2
    rw [Int.mul_ediv_cancel_left _ (by omega), Int.mul_ediv_cancel_left _ (by omega)]
    ac_rfl
theorem low_gcd {t b : Int} (ht : 0 ≤ t) (hb : 0 < b) : gcdF (lowF t b).1 (lowF t b).2 = 1 := by
  show gcdF (t / gcdF t b) (b / gcdF t b) = 1
  unfold gcdF
  obtain ⟨x, rfl⟩ : ∃ x : Nat, t = x := ⟨t.toNat, by omega⟩
  obtain ⟨y, rfl⟩ : ∃ y : Nat, b = y := ⟨b.toNat, by omega⟩
  rw [Int.toNat_natCast, Int.toNat_natCast, ← Int.natCast_ediv, ← Int.natCast_ediv, Int.toNat_natCast, Int.toNat_natCast]
  rw [Nat.gcd_div (Nat.gcd_dvd_left x y) (Nat.gcd_dvd_right x y), Nat.div_self (Nat.gcd_pos_of_pos_right x (by omega))]; rfl
theorem low_bits1 {t b : Int} {m : Nat} (ht : 0 ≤ t) (h : intBits t ≤ m) : intBits (lowF t b).1 ≤ m := by
  refine intBits_le_of_natAbs ?_ h
  show (t / gcdF t b).natAbs ≤ t.natAbs
  have h1 := Int.ediv_le_self (gcdF t b) ht
  have h2 : 0 ≤ gcdF t b := Int.natCast_nonneg _
  have h3 := Int.ediv_nonneg ht h2
  omega
theorem low_bits2 {t b : Int} {m : Nat} (hb : 0 < b) (h : intBits b ≤ m) : intBits (lowF t b).2 ≤ m := by
  refine intBits_le_of_natAbs ?_ h
  show (b / gcdF t b).natAbs ≤ b.natAbs
  have h1 := Int.ediv_le_self (gcdF t b) (show 0 ≤ b by omega)
  have h2 : 0 ≤ gcdF t b := Int.natCast_nonneg _
  have h3 := Int.ediv_nonneg (show 0 ≤ b by omega) h2
  omega
/-! sums of shares -/
def stepS (tb p : Int × Int) : Int × Int := if tb.2 % p.2 = 0 then (tb.1 + p.1 * (tb.2 / p.2), tb.2) else (tb.1 * p.2 + p.1 * tb.2, tb.2 * p.2)
def sumF (ps : List (Int × Int)) : Int × Int := ps.foldl stepS (0, 1)
theorem sum_range (w : Nat → Int) : ∀ n : Nat, ((List.range n).map w).sum = sm n w
  | 0 => rfl
  | n + 1 => by
    rw [List.range_succ, List.map_append, List.sum_append, sum_range w n]
    show sm n w + (w n + 0) = sm n w + w n
    rw [Int.add_zero]
def SBits (ps : List (Int × Int)) : Prop := ∀ p ∈ ps, 0 < p.2 ∧ intBits p.1 ≤ 1000 ∧ intBits p.2 ≤ 1000
/-! the shares -/
def IsMin (m : Nat) (cs : List Nat) : Prop := m ∈ cs ∧ ∀ x ∈ cs, m ≤ x
def togF (n m : Nat) (cs : List Nat) : List (Int × Int) := (List.range (m + 1)).map fun t => lowF (wj n cs t) (al n cs)
structure Cnt (n m : Nat) (cs : List Nat) : Prop where
  n100 : n ≤ 100
  min : IsMin m cs
  le : ∀ c ∈ cs, c ≤ n
  len : cs.length ≤ 6
theorem Cnt.mn {n m : Nat} {cs : List Nat} (h : Cnt n m cs) : m ≤ n := h.le m h.min.1
theorem Cnt.pos {n m : Nat} {cs : List Nat} (h : Cnt n m cs) : 0 < al n cs := al_pos h.le
theorem Cnt.zero {n m : Nat} {cs : List Nat} (h : Cnt n m cs) : ∀ t, m < t → wj n cs t = 0 := fun t ht => wj_none n cs ⟨m, h.min.1, ht⟩
theorem Cnt.mom {n m : Nat} {cs : List Nat} (h : Cnt n m cs) (j : Nat) : (sm (m + 1) fun t => ch t j * wj n cs t) = mm n j cs := by
  rw [← moments]
  exact (sm_more (by have := h.mn; omega) fun i hi _ => by rw [h.zero i (by omega), Int.mul_zero]).symm
theorem Cnt.all {n m : Nat} {cs : List Nat} (h : Cnt n m cs) : (sm (m + 1) fun t => wj n cs t) = al n cs := by
  rw [← mm_zero, ← h.mom 0]
  exact sm_congr fun i _ => by rw [ch_zero, Int.one_mul]
theorem Cnt.wle {n m : Nat} {cs : List Nat} (h : Cnt n m cs) {t : Nat} (ht : t ≤ m) : wj n cs t ≤ al n cs := by
  rw [← h.all]
  exact sm_le (fun i _ => wj_nn n cs i) (by omega)
theorem Cnt.abits {n m : Nat} {cs : List Nat} (h : Cnt n m cs) : intBits (al n cs) ≤ 700 := Nat.le_trans (al_bits h.n100 cs) (by have := h.len; omega)
theorem Cnt.wbits {n m : Nat} {cs : List Nat} (h : Cnt n m cs) {t : Nat} (ht : t ≤ m) : intBits (wj n cs t) ≤ 700 := by
  refine intBits_le_of_natAbs ?_ h.abits
  have h1 := h.wle ht
  have h2 := wj_nn n cs t
  omega
theorem tog_len (n m : Nat) (cs : List Nat) : (togF n m cs).length = m + 1 := by unfold togF; rw [List.length_map, List.length_range]
theorem tog_mem {n m : Nat} {cs : List Nat} (h : Cnt n m cs) {p : Int × Int} (hp : p ∈ togF n m cs) : 0 ≤ p.1 ∧ 0 < p.2 ∧ gcdF p.1 p.2 = 1 ∧ intBits p.1 ≤ 700 ∧ intBits p.2 ≤ 700 := by
  obtain ⟨t, ht, rfl⟩ := List.mem_map.mp hp
  have ht := List.mem_range.mp ht
  have l := low_ok (wj_nn n cs t) h.pos
  exact ⟨l.nn, l.pos, low_gcd (wj_nn n cs t) h.pos, low_bits1 (wj_nn n cs t) (h.wbits (by omega)), low_bits2 h.pos h.abits⟩
theorem Cnt.rev {n m : Nat} {cs : List Nat} (h : Cnt n m cs) : Cnt n m cs.reverse := ⟨h.n100, ⟨List.mem_reverse.mpr h.min.1, fun x hx => h.min.2 x (List.mem_reverse.mp hx)⟩, fun c hc => h.le c (List.mem_reverse.mp hc), by rw [List.length_reverse]; exact h.len⟩
theorem Cnt.none {n m : Nat} {cs : List Nat} (h : Cnt n m cs) (h5 : cs.length ≤ 5) : Cnt n 0 (cs ++ [0]) := by
  refine ⟨h.n100, ⟨List.mem_append_right _ (.head _), fun x _ => Nat.zero_le _⟩, fun c hc => ?_, by rw [List.length_append]; show _ + 1 ≤ 6; omega⟩
  rcases List.mem_append.mp hc with z | z
  · exact h.le c z
  · rw [List.mem_singleton.mp z]; exact Nat.zero_le _
/-- the sum over the shares, each taken k t times -/
def timesF (k : Nat → Int) (n m : Nat) (cs : List Nat) : List (Int × Int) := (List.range (m + 1)).map fun t => (k t * (lowF (wj n cs t) (al n cs)).1, (lowF (wj n cs t) (al n cs)).2)
def meanF (n : Nat) (cs : List Nat) : Int × Int := if n = 0 then (0, 1) else lowF (up 1 cs) ((n : Int) ^ (cs.length - 1))
theorem up_nn (j : Nat) : ∀ cs : List Nat, 0 ≤ up j cs
  | [] => by show (0 : Int) ≤ 1; decide
  | c :: cs => Int.mul_nonneg (ch_nn c j) (up_nn j cs)
/-! what the defs give back -/
def wjL (n m : Nat) (cs : List Nat) : List Int := (List.range (m + 1)).map fun t => wj n cs t
def mmL (n m : Nat) (cs : List Nat) : List Int := (List.range (m + 1)).map fun s => mm n s cs
def spLowW : Sp := fun vs H Q _ => ∃ (t b : Int), vs = [.int t, .int b] ∧ 0 ≤ t ∧ 0 < b ∧ intBits b ≤ 9000 ∧ ∀ p, H p = none → Q (.ref p) (upd H p (.tup [.int (lowF t b).1, .int (lowF t b).2]))
def spRows79 (K : PySem.W.Frag) : Sp := fun vs H Q _ => ∃ (n : Nat), vs = [.int (n : Int)] ∧ n ≤ 100 ∧ ∀ (a : Addr) (H' : Hp), Same H H' → H a = none → Pasc K H' a n → Q (.ref a) H'
def spWays79 (K : PySem.W.Frag) : Sp := fun vs H Q _ => ∃ (a c : Addr) (n s m : Nat) (cs : List Nat), vs = [.ref a, .int (n : Int), .ref c, .int (s : Int)] ∧ Pasc K H a n ∧ SqL K H c ((nI cs).map V.int) ∧ Cnt n m cs ∧ s ≤ m ∧ Q (.int (mm n s cs)) H
def spJust79 (K : PySem.W.Frag) : Sp := fun vs H Q _ => ∃ (a c : Addr) (n m t : Nat) (cs : List Nat), vs = [.ref a, .ref c, .int (t : Int)] ∧ Pasc K H a n ∧ SqL K H c ((mmL n m cs).map V.int) ∧ Cnt n m cs ∧ t ≤ m ∧ Q (.int (wj n cs t)) H
def spJusts79 (K : PySem.W.Frag) : Sp := fun vs H Q _ => ∃ (c : Addr) (n m : Nat) (cs : List Nat), vs = [.int (n : Int), .ref c] ∧ SqL K H c ((nI cs).map V.int) ∧ Cnt n m cs ∧ ∀ (r : Addr) (H' : Hp), Same H H' → H r = none → H' r = some (.lst ((wjL n m cs).map V.int)) → Q (.ref r) H'
def spTog79 (K : PySem.W.Frag) : Sp := fun vs H Q _ => ∃ (c : Addr) (n m : Nat) (cs : List Nat), vs = [.int (n : Int), .ref c] ∧ SqL K H c ((nI cs).map V.int) ∧ Cnt n m cs ∧ ∀ (r : Addr) (xs : List V) (H' : Hp), Same H H' → H r = none → H' r = some (.lst xs) → Rows H' xs (togF n m cs) → Q (.ref r) H'
def spMean79 (K : PySem.W.Frag) : Sp := fun vs H Q _ => ∃ (c : Addr) (n m : Nat) (cs : List Nat), vs = [.int (n : Int), .ref c] ∧ SqL K H c ((nI cs).map V.int) ∧ Cnt n m cs ∧ ∀ (r : Addr) (H' : Hp), Same H H' → H r = none → H' r = some (.tup [.int (meanF n cs).1, .int (meanF n cs).2]) → Q (.ref r) H'
def spSum79 (K : PySem.W.Frag) : Sp := fun vs H Q _ => ∃ (a : Addr) (xs : List V) (ps : List (Int × Int)), vs = [.ref a] ∧ SqL K H a xs ∧ Rows H xs ps ∧ ps.length ≤ 200 ∧ SBits ps ∧ ∀ (p : Addr) (H' : Hp), Same H H' → H p = none → H' p = some (.tup [.int (sumF ps).1, .int (sumF ps).2]) → Q (.ref p) H'
def spChoose79 : Sp := fun vs H Q _ => ∃ (a b : Nat), vs = [.int (a : Int), .int (b : Int)] ∧ a ≤ 200 ∧ b ≤ 200 ∧ Q (.int (ch a b)) H
def spMoment79 (K : PySem.W.Frag) : Sp := fun vs H Q _ => ∃ (f c : Addr) (xs : List V) (n m j : Nat) (cs : List Nat), vs = [.ref f, .int (n : Int), .ref c, .int (j : Int)] ∧ SqL K H f xs ∧ Rows H xs (togF n m cs) ∧ SqL K H c ((nI cs).map V.int) ∧ Cnt n m cs ∧ j ≤ 100 ∧ ∀ H', Same H H' → Q (.bl true) H'
theorem nI_len (cs : List Nat) : (nI cs).length = cs.length := List.length_map _
theorem nI_get {cs : List Nat} {i : Nat} {x : V} (h : ((nI cs).map V.int)[i]? = some x) : ∃ c : Nat, cs[i]? = some c ∧ x = .int (c : Int) := by
  unfold nI at h
  rw [List.map_map, List.getElem?_map] at h
  cases e : cs[i]? with
  | none => rw [e] at h; cases h
  | some c => rw [e] at h; cases h; exact ⟨c, rfl, rfl⟩
theorem nI_app (cs ds : List Nat) : nI (cs ++ ds) = nI cs ++ nI ds := List.map_append
theorem mmL_at {n m : Nat} {cs : List Nat} {s : Nat} (h : s ≤ m) : atI ((mmL n m cs).map V.int) ((s : Nat) : Int) = some (.int (mm n s cs)) := atI_nat (by unfold mmL; rw [List.map_map, List.getElem?_map, List.getElem?_range (by omega)]; rfl)
theorem wjL_sum {n m : Nat} {cs : List Nat} (h : Cnt n m cs) : (wjL n m cs).sum = al n cs := by unfold wjL; rw [sum_range, h.all]
theorem cut_tail (xs : List V) : cutV xs (some 1) none = xs.drop 1 := by
  show cutV xs (some ((1 : Nat) : Int)) none = _
  unfold cutV
  rw [HT.sIx_nat]
  show (xs.drop (min 1 xs.length)).take (xs.length - min 1 xs.length) = _
  rw [List.take_of_length_le (by rw [List.length_drop]; omega)]
  by_cases h : 1 ≤ xs.length
  · rw [Nat.min_eq_left h]
  · rw [Nat.min_eq_right (by omega), List.drop_length, List.drop_eq_nil_of_le (by omega)]
theorem Pasc.get {K : PySem.W.Frag} {H : Hp} {a : Addr} {n : Nat} (h : Pasc K H a n) {i : Nat} {k : Int} (hk : k = (i : Int)) (hi : i ≤ n) : ∃ xs p, SqL K H a xs ∧ atI xs k = some (.ref p) ∧ SqL K H p ((chRow i).map V.int) := by
  obtain ⟨xs, h1, h2, h3⟩ := h
  obtain ⟨p, e, hp⟩ := h3 i hi
  exact ⟨xs, p, h1, by rw [hk]; exact atI_nat e, hp⟩
theorem chRow_at' {i j : Nat} {k : Int} (hk : k = (j : Int)) (h : j ≤ i) : atI ((chRow i).map V.int) k = some (.int (ch i j)) := by rw [hk]; exact chRow_at h
/-! for the law itself -/
theorem min_is {m : Nat} {cs : List Nat} (h : IsMin m cs) {k : Int} (hk : k ∈ nI cs) (hk2 : ∀ x ∈ nI cs, k ≤ x) : k = (m : Int) := by
  obtain ⟨d, hd, rfl⟩ := List.mem_map.mp hk
  have h1 := h.2 d hd
  have h2 := hk2 (m : Int) (List.mem_map.mpr ⟨m, h.1, rfl⟩)
  omega
theorem exists_min : ∀ {cs : List Nat}, cs ≠ [] → ∃ m, IsMin m cs
  | [], h => absurd rfl h
  | [c], _ => ⟨c, .head _, fun x hx => by rw [List.mem_singleton.mp hx]; exact Nat.le_refl _⟩
  | c :: d :: cs, _ => by
    obtain ⟨m, h1, h2⟩ := exists_min (cs := d :: cs) (by simp)
    by_cases h : c ≤ m
    · refine ⟨c, .head _, fun x hx => ?_⟩
      rcases List.mem_cons.mp hx with rfl | hx
      · exact Nat.le_refl _
      · exact Nat.le_trans h (h2 x hx)
    · refine ⟨m, .tail _ h1, fun x hx => ?_⟩
      rcases List.mem_cons.mp hx with rfl | hx
      · omega
      · exact h2 x hx
theorem mean_bits {n m : Nat} {cs : List Nat} (h : Cnt n m cs) : intBits (meanF n cs).1 ≤ 700 ∧ intBits (meanF n cs).2 ≤ 700 := by
  have c6 := h.len
  unfold meanF
  by_cases e : n = 0
  · rw [if_pos e]; exact ⟨by decide, by decide⟩
  · rw [if_neg e]
    have hp : (0 : Int) < (n : Int) ^ (cs.length - 1) := Int.pow_pos (by omega)
    have h7 : intBits (n : Int) ≤ 7 := intBits_le_iff.mpr (by have := h.n100; show n < 2 ^ 7; omega)
    exact ⟨low_bits1 (up_nn 1 cs) (Nat.le_trans (up_bits fun c hc => Nat.le_trans (h.le c hc) h.n100) (by omega)), low_bits2 hp (Nat.le_trans (intBits_pow_le h7 _) (by omega))⟩
theorem shB_tog {n m : Nat} {cs : List Nat} (h : Cnt n m cs) : ShB (.list ((togF n m cs).map dRow)) 303 2 := by
  refine (ShB.list (ShBAll.map (n := 2) (k := 1) fun p hp => ?_)).mono ?_ (Nat.le_refl _)
  · obtain ⟨_, _, _, b1, b2⟩ := tog_mem h hp
    exact (ShB.tuple (ShBAll.cons (ShB.int (by omega)) (ShBAll.cons (ShB.int (by omega)) .nil))).mono (by decide) (by decide)
  · have h1 := h.mn
    have h2 := h.n100
    rw [tog_len]; omega
end OL

namespace L2
open PySem PySem.Spec PyProof.Rows
section
variable {X : Cx}
end
end L2

/-! min(xs, default=e), e a whole number -/
namespace L2
open PySem PySem.Spec PyProof.Rows
section
variable {dv : Value} {prog : Program} {w : World} {A : Around} {R : Result → Shared → Prop} {it : Addr} {fp wr : List Addr} {n : Nat} {PP : Nat → Value → Prop} {St : Nat → Heap → Prop}
end
section
variable {X : Cx}
def valminD (ns : List Int) (d : Int) : V := if ns.length = 0 then .int d else .int (bstmin ns (ns.length - 1))
def tDxmin (K : PySem.W.Frag) (ta : TA) (td : TE) : TE := fun σ H Q => ta σ H fun vs H1 => td σ H1 fun y H2 => ∃ a ns d, vs = [.ref a] ∧ y = .int d ∧ SqL K H2 a (ns.map V.int) ∧ Q (valminD ns d) H2
end
end L2

namespace OL
open PySem L2
/-! ### greatest often lots -/
def lackF (many lot : Int) : List Int := ((List.range many.toNat).filter fun t => !hasF lot (1 * 2 ^ t)).map fun (t : Nat) => (t : Int)
def leadB (many : Int) (rs : List (Int × Int)) (lot : Int) : Bool := (lackF many lot).any fun t => inR rs (wt lot t.toNat)
def greatR (many : Int) (bs : List Int) (least : Int) : List (Int × Int) := (oftenR bs least (2 ^ many.toNat)).filter fun r => !leadB many (oftenR bs least (2 ^ many.toNat)) r.1
/-! ### outside -/
def spLack : Sp := fun vs H Q _ => ∃ many lot : Int, vs = [.int many, .int lot] ∧ 0 ≤ many ∧ many ≤ 12 ∧ ∀ (r : Addr) (H' : Hp), Same H H' → H r = none → H' r = some (.lst ((lackF many lot).map V.int)) → Q (.ref r) H'
def spLead : Sp := fun vs H Q _ => ∃ (d : Addr) (many lot : Int) (rs : List (Int × Int)), vs = [.int many, .int lot, .ref d] ∧ 0 ≤ many ∧ many ≤ 12 ∧ H d = some (.dK (tabR rs)) ∧ ∀ H', Same H H' → Q (.bl (leadB many rs lot)) H'
def spGreatest (K : PySem.W.Frag) : Sp := fun vs H Q _ => ∃ (b : Addr) (many : Int) (bs : List Int) (least : Int), vs = [.ref b, .int least] ∧ Bk K H b many bs ∧ bs.length ≤ 500 ∧ 0 ≤ many ∧ many ≤ 12 ∧ (∀ x ∈ bs, InB many x) ∧
  ∀ (r : Addr) (xs : List V) (H' : Hp), Same H H' → H r = none → H' r = some (.lst xs) → Rows H' xs (greatR many bs least) → Q (.ref r) H'
def spOut : Sp := fun vs H Q _ => ∃ many lot : Int, vs = [.int many, .int lot] ∧ 0 ≤ many ∧ many ≤ 12 ∧ 0 ≤ lot ∧ ∀ H', Same H H' → Q (.int (outF many lot)) H'
end OL

namespace OL
open PySem L2
theorem InB.small {many x : Int} (h : InB many x) (hm : many ≤ 12) : 0 ≤ x ∧ x < 1000000000000 := by
  have h1 := pow12 hm
  have h2 := powC many
  exact ⟨h.1, by have := h.2; omega⟩
end OL

namespace OL
open PySem L2
/-! ### the border and the greatest ones, led into one another -/
def smallL (many : Int) (bs : List Int) (least : Int) : List Int := (bordR bs least (2 ^ many.toNat)).map Prod.fst
def greatL (many : Int) (bs : List Int) (least : Int) : List Int := (greatR many bs least).map Prod.fst
section
variable {many : Int} {bs : List Int} {least : Int} (hb : ∀ x ∈ bs, InB many x)
include hb
omit hb in
omit hb in
def partB (many : Int) (gs ss : List Int) : Bool := (List.range (2 ^ many.toNat)).all fun (x : Nat) => !decide (V.bl (gs.any fun g => hasF g (x : Int)) = V.bl (ss.any fun t => hasF (x : Int) t))
end
def spPartAll (K : PySem.W.Frag) : Sp := fun vs H Q _ => ∃ (g s : Addr) (many : Int) (gs ss : List Int), vs = [.int many, .ref g, .ref s] ∧ 0 ≤ many ∧ many ≤ 12 ∧ SqL K H g (gs.map V.int) ∧ SqL K H s (ss.map V.int) ∧ ∀ H', Same H H' → Q (.bl (partB many gs ss)) H'
end OL

namespace OL
open PySem L2
/-! ### two books apart -/
def partsB (as bs : List Int) (lot : Int) : Bool := decide (0 < countF as lot) && decide (countF bs lot = 0)
def partL (many : Int) (as bs : List Int) : List Int := (rangeI (2 ^ many.toNat)).filter (partsB as bs)
def lessL (b : Int) (bs : List Int) : List Int := bs.map fun o => b - Builtin.bitAnd b o
/-- a list made basket by basket -/
def Made (many : Int) (bs : List Int) (M cs : List Int) : Prop := (∀ m ∈ M, ∃ b ∈ cs, ∃ T, LeastOf (crossL many (lessL b bs)) T ∧ m ∈ T) ∧ ∀ b ∈ cs, ∃ T, LeastOf (crossL many (lessL b bs)) T ∧ ∀ t ∈ T, t ∈ M
theorem Made.snoc {many : Int} {bs M cs : List Int} (h : Made many bs M cs) {b : Int} {T : List Int} (hT : LeastOf (crossL many (lessL b bs)) T) : Made many bs (M ++ T) (cs ++ [b]) := by
  refine ⟨fun m hm => ?_, fun c hc => ?_⟩
  · rcases List.mem_append.mp hm with z | z
    · obtain ⟨c, hc, q⟩ := h.1 m z
      exact ⟨c, List.mem_append_left _ hc, q⟩
    · exact ⟨b, List.mem_append_right _ (by simp), T, hT, z⟩
  · rcases List.mem_append.mp hc with z | z
    · obtain ⟨U, hU, q⟩ := h.2 c z
      exact ⟨U, hU, fun t ht => List.mem_append_left _ (q t ht)⟩
    · rw [List.mem_singleton.mp z]
      exact ⟨T, hT, fun t ht => List.mem_append_right _ ht⟩
def spPartsP (K : PySem.W.Frag) : Sp := fun vs H Q _ => ∃ (a b : Addr) (many : Int) (as bs : List Int) (lot : Int), vs = [.ref a, .ref b, .int lot] ∧ Bk K H a many as ∧ Bk K H b many bs ∧ as.length ≤ 500 ∧ bs.length ≤ 500 ∧ 0 ≤ many ∧ many ≤ 12 ∧ ∀ H', Same H H' → Q (.bl (partsB as bs lot)) H'
def spLeastP (K : PySem.W.Frag) : Sp := fun vs H Q _ => ∃ (a b : Addr) (many : Int) (as bs : List Int), vs = [.ref a, .ref b] ∧ Bk K H a many as ∧ Bk K H b many bs ∧ as.length ≤ 500 ∧ bs.length ≤ 500 ∧ 0 ≤ many ∧ many ≤ 12 ∧
  ∀ (r : Addr) (xs : List V) (T : List Int) (H' : Hp), Same H H' → H r = none → H' r = some (.lst xs) → Rows H' xs (rowsC as T) → LeastOf (partL many as bs) T → Q (.ref r) H'
end OL

namespace OL
open PySem L2
/-! ### from a part -/
def partS (bs ps : List Int) : List Int := ps.map fun p => bs.getD p.toNat 0
def missR (many : Int) (bs : List Int) (least : Int) (ps : List Int) (lower : Int) : List (Int × Int) := (rowsC bs (smallL many (partS bs ps) lower)).filter (ofP least)
def tellR (many : Int) (bs : List Int) (least : Int) (ps : List Int) (lower : Int) : List (Int × Int) := (rowsC bs ((oftenR (partS bs ps) lower (2 ^ many.toNat)).map Prod.fst)).filter (ofP least)
def fromW (rs : List (Int × Int)) : Str := if rs.isEmpty = true then "whole" else "missed"
def fromR (many : Int) (bs : List Int) (least : Int) (ps : List Int) (lower : Int) : List (Int × Int) := if (missR many bs least ps lower).isEmpty = true then tellR many bs least ps lower else missR many bs least ps lower
def fromD (many : Int) (bs : List Int) (least : Int) (ps : List Int) (lower : Int) : PyData := .tuple [.str (fromW (missR many bs least ps lower)), .list ((fromR many bs least ps lower).map dRow)]
def PlOk (bs ps : List Int) : Prop := ∀ p ∈ ps, 0 ≤ p ∧ p < bs.length
/-- the least ones of the rare lots -/
def rareL (many : Int) (bs : List Int) (least : Int) : List Int := (rangeI (2 ^ many.toNat)).filter fun x => !decide (least ≤ countF bs x)
def spPartOf (K : PySem.W.Frag) : Sp := fun vs H Q _ => ∃ (b p : Addr) (many : Int) (bs ps : List Int), vs = [.ref b, .ref p] ∧ Bk K H b many bs ∧ SqL K H p (ps.map V.int) ∧ ps.length ≤ 500 ∧ PlOk bs ps ∧
  ∀ (t l : Addr) (H' : Hp), Same H H' → H t = none → H l = none → H' t = some (.tup [.int many, .ref l]) → H' l = some (.lst ((partS bs ps).map V.int)) → Q (.ref t) H'
def spFrom (K : PySem.W.Frag) : Sp := fun vs H Q _ => ∃ (b p : Addr) (many : Int) (bs ps : List Int) (least lower : Int), vs = [.ref b, .int least, .ref p, .int lower] ∧ Bk K H b many bs ∧ SqL K H p (ps.map V.int) ∧ bs.length ≤ 500 ∧ ps.length ≤ 500 ∧ PlOk bs ps ∧ 0 ≤ many ∧ many ≤ 12 ∧ (∀ x ∈ bs, InB many x) ∧
  ∀ (t l : Addr) (xs : List V) (H' : Hp), Same H H' → H t = none → H l = none → H' t = some (.tup [.str (fromW (missR many bs least ps lower)), .ref l]) → H' l = some (.lst xs) → Rows H' xs (fromR many bs least ps lower) → Q (.ref t) H'
def spPlaces84 : Sp := fun vs H Q _ => ∃ (r : Addr) (ds : List Int) (many : Int), vs = [.ref r, .int many] ∧ H r = some (.lst (ds.map V.int)) ∧ D31 ds ∧ 0 ≤ many ∧ many ≤ 200 ∧
  ∀ (p : Addr) (ps ds' : List Int) (H' : Hp), SameB r H H' → H p = none → H' p = some (.lst (ps.map V.int)) → H' r = some (.lst (ds'.map V.int)) → D31 ds' → (ps.length : Int) ≤ many → (∀ x ∈ ps, 0 ≤ x ∧ x < many) → Q (.ref p) H'
end OL

namespace L2
open PySem PySem.Spec PyProof.Rows
/-- rows with any second value, as a table -/
def RowV (H : Hp) (x : V) (r : Int × V) : Prop := ∃ p, x = .ref p ∧ H p = some (.tup [.int r.1, r.2])
def tabV (rs : List (Int × V)) : List (Key × V) := rs.map fun r => (.inl r.1, r.2)
section
variable {X : Cx}
end
end L2
namespace OL
open PySem L2
section
variable {K : PySem.W.Frag} {m : Nat} {js : List Nat} {g : TG} {c : TT} {te : TE} {σ : St} {H1 : Hp} {Q : VK} {α : Type}
end
end OL

namespace L2
open PySem PySem.Spec PyProof.Rows
section
variable {X : Cx} (K : PySem.W.Frag) (hK : X.K = K)
variable {o e : Expr} {es : List Expr} {to : TE} {t : TA} {name : Str} {apos cpos : Pos} {T id : String} {r : V → List V → Hp → VK → Prop}
include hK
end
end L2

namespace L2
open PySem PySem.Spec PyProof.Rows
section
variable {X : Cx}
end
end L2

namespace L2
open PySem PySem.Spec PyProof.Rows
/-! for .. in d.keys() -/
section
variable {X : Cx}
end
/-! max(list of lists, key=len, default=[]): the first of the longest -/
section
variable {prog : Program} {w : World} {A : Around} {R : Result → Shared → Prop} {it : Addr} {fp wr : List Addr} {n : Nat} {PP : Nat → Value → Prop} {St : Nat → Heap → Prop} {h0 : Heap} {kf : Nat → Int} {d : Value}
end
section
variable {X : Cx}
def tMaxLenF (K : PySem.W.Frag) (ta : TA) : TE := fun σ H Q => ta σ H fun vs H1 => ∃ (a : Addr) (xs : List Addr) (ys : Nat → List V), vs = [.ref a] ∧ SqL K H1 a (xs.map V.ref) ∧ (∀ i x, xs[i]? = some x → SqL K H1 x (ys i)) ∧
  ∀ d, H1 d = none → (xs = [] → Q (.ref d) (upd H1 d (.lst []))) ∧ (∀ i x, xs[i]? = some x → (∀ j, j < xs.length → (ys j).length ≤ (ys i).length) → (∀ j, j < i → (ys j).length < (ys i).length) → Q (.ref x) (upd H1 d (.lst [])))
end
end L2

namespace L2
open PySem PySem.Spec PyProof.Rows
section
variable {X : Cx}
/-- what stood free ahead of an expression is free again behind it -/
theorem Inv.thaw {pins pins' : List (Addr × Obj)} {σ σ' : St} {H H' : Hp} {s s' : Shared} {d : Addr} {o : Obj} {u : HO} (I : Inv X pins σ H s) (J : Inv X pins' σ' H' s') (mu : Mut (H d)) (hd : H' d = some (.frz o u)) : Inv X pins' σ' (upd H' d u) s' := by
  have ne : ∀ b v, H' b = v → v ≠ some (.frz o u) → b ≠ d := fun b v e n z => by subst z; rw [hd] at e; exact n e.symm
  have nn : ∀ b, H' b = none → upd H' d u b = none := fun b e => by rw [upd_ne (ne b _ e (by intro z; cases z))]; exact e
  refine ⟨J.ok, J.os, J.bare, ⟨J.base.keep, J.base.slot, fun b ob e n hx => nn b (J.base.free b ob e n hx), J.base.there, fun b xs e => ?_, fun b ob v e => ?_, fun b ps e => ?_⟩, J.loc, J.cell, nn _ J.free, fun x c e => nn _ (J.freeC x c e), fun p hp => ?_, fun b v e => ?_, J.len⟩
  · have := J.base.tups b xs e
    rw [upd_ne (ne b _ this (by intro z; cases z))]; exact this
  · have h1 := I.base.frzs b ob v e
    have h2 := J.base.frzs b ob v e
    have : b ≠ d := fun z => by subst z; rw [h1] at mu; exact mu
    rw [upd_ne this]; exact h2
  · obtain ⟨m, e1⟩ := J.base.tbls b ps e
    exact ⟨m, by rw [upd_ne (ne b _ e1 (by intro z; cases z))]; exact e1⟩
  · obtain ⟨h1, h2, h3⟩ := J.pin p hp
    exact ⟨h1, nn _ h2, h3⟩
  · by_cases hb : b = d
    · subst hb
      rw [upd_same] at e
      cases e
      obtain ⟨_, q⟩ := (show ObjOk X.prog X.w H' s'.heap b (.frz o u) from J.hok b _ hd)
      exact q.stay (fun _ _ _ z => z) (fun c z => by rw [upd_ne (ne c _ z (by intro z; cases z))]; exact z) fun c xs z => by rw [upd_ne (ne c _ z (by intro z; cases z))]; exact z
    · rw [upd_ne hb] at e
      exact (J.hok b v e).stay (fun _ _ _ z => z) (fun c z => by rw [upd_ne (ne c _ z (by intro z; cases z))]; exact z) fun c xs z => by rw [upd_ne (ne c _ z (by intro z; cases z))]; exact z
def tThaw (te : TE) : TE := fun σ H Q => ∃ d, Mut (H d) ∧ te σ H fun v H' => ∃ o u, H' d = some (.frz o u) ∧ Q v (upd H' d u)
theorem pe_thaw {e : Expr} {te : TE} (he : PE X e te) : PE X e (tThaw te) := by
  intro pins s σ H Q I h
  obtain ⟨d, mu, h⟩ := h
  refine thn (he pins s σ H _ I h) fun v s1 ⟨x, H1, I1, r1, o, u, hd, q⟩ => ?_
  exact ⟨x, _, I.thaw I1 mu hd, r1, q⟩
end
end L2

namespace OL
open PySem L2 Dl
open Builtin.Int (intBits)
/-! ### all dealings gone through: k78 -/
def pc (n x : Nat) : Nat := ((List.range n).filter fun k => x.testBit k).length
theorem pc_succ (n x : Nat) : pc (n + 1) x = pc n x + (if x.testBit n = true then 1 else 0) := by
  unfold pc
  rw [List.range_succ, List.filter_append, List.length_append]
  congr 1
  by_cases h : x.testBit n = true
  · rw [if_pos h, List.filter_cons, if_pos h]; rfl
  · rw [if_neg h, List.filter_cons, if_neg h]; rfl
theorem pc_le (n x : Nat) : pc n x ≤ n := by
  unfold pc
  exact Nat.le_trans (List.length_filter_le _ _) (by rw [List.length_range]; exact Nat.le_refl _)
theorem pc_congr {n x y : Nat} (h : ∀ k, k < n → x.testBit k = y.testBit k) : pc n x = pc n y := by
  unfold pc
  rw [List.filter_congr fun k hk => h k (List.mem_range.mp hk)]
theorem pc_full (n : Nat) : pc n (2 ^ n - 1) = n := by
  unfold pc
  rw [List.filter_eq_self.mpr fun k hk => by rw [Nat.testBit_two_pow_sub_one]; exact decide_eq_true (List.mem_range.mp hk), List.length_range]
theorem pc_and_le (n x y : Nat) : pc n (x &&& y) ≤ pc n y := by
  induction n with
  | zero => exact Nat.le_refl _
  | succ n ih =>
    rw [pc_succ, pc_succ, Nat.testBit_and]
    by_cases h : y.testBit n = true
    · rw [if_pos h]; split <;> omega
    · rw [if_neg h, if_neg (by rw [Bool.and_eq_true]; exact fun z => h z.2)]; omega
theorem pc_and_le' (n x y : Nat) : pc n (x &&& y) ≤ pc n x := by rw [Nat.and_comm]; exact pc_and_le n y x
theorem sm_split (a b : Nat) (f : Nat → Int) : sm (a + b) f = sm a f + sm b fun i => f (a + i) := by
  induction b with
  | zero => show sm a f = sm a f + 0; omega
  | succ b ih =>
    show sm (a + b) f + f (a + b) = sm a f + (sm b (fun i => f (a + i)) + f (a + b))
    rw [ih]; omega
def Ct (n h c t : Nat) : Int := sm (2 ^ n) fun x => if pc n x = c ∧ pc n (h &&& x) = t then 1 else 0
theorem chm_up (m c t : Nat) : chm (m + 1) (c + 1) t = chm m (c + 1) t + chm m c t := by
  unfold chm
  by_cases h : t ≤ c
  · rw [if_pos (by omega), if_pos (by omega), if_pos h, show c + 1 - t = (c - t) + 1 by omega, ch_ss]; omega
  · by_cases h2 : t = c + 1
    · subst h2; rw [if_pos (Nat.le_refl _), if_pos (Nat.le_refl _), if_neg h, Nat.sub_self, ch_zero, ch_zero]; rfl
    · rw [if_neg (by omega), if_neg (by omega), if_neg h]; rfl
theorem chm_up0 (m t : Nat) : chm (m + 1) 0 t = chm m 0 t := by
  unfold chm
  by_cases h : t ≤ 0
  · rw [if_pos h, if_pos h, show 0 - t = 0 by omega, ch_zero, ch_zero]
  · rw [if_neg h, if_neg h]
theorem ct_eq : ∀ (n h c t : Nat), Ct n h c t = ch (pc n h) t * chm (n - pc n h) c t
  | 0, h, c, t => by
    show 0 + (if 0 = c ∧ 0 = t then (1 : Int) else 0) = ch 0 t * chm 0 c t
    rw [Int.zero_add]
    cases t with
    | zero =>
      unfold chm
      rw [ch_zero, Int.one_mul, if_pos (Nat.zero_le _), Nat.sub_zero]
      cases c with
      | zero => rfl
      | succ c => rw [ch_zs, if_neg (by omega)]
    | succ t => rw [ch_zs, Int.zero_mul, if_neg (by omega)]
  | n + 1, h, c, t => by
    have lo : ∀ x k, k < n → (2 ^ n + x).testBit k = x.testBit k := fun x k hk => by rw [Nat.testBit_two_pow_add_gt hk]
    have e1 : (sm (2 ^ n) fun x => if pc (n + 1) x = c ∧ pc (n + 1) (h &&& x) = t then (1 : Int) else 0) = Ct n h c t := sm_congr fun x hx => by
      have b : x.testBit n = false := Nat.testBit_lt_two_pow hx
      have p1 : pc (n + 1) x = pc n x := by rw [pc_succ, b]; rfl
      have p2 : pc (n + 1) (h &&& x) = pc n (h &&& x) := by rw [pc_succ, Nat.testBit_and, b, Bool.and_false]; rfl
      rw [p1, p2]
    have e2 : (sm (2 ^ n) fun x => if pc (n + 1) (2 ^ n + x) = c ∧ pc (n + 1) (h &&& (2 ^ n + x)) = t then (1 : Int) else 0) = sm (2 ^ n) fun x => if pc n x + 1 = c ∧ pc n (h &&& x) + (if h.testBit n = true then 1 else 0) = t then (1 : Int) else 0 := sm_congr fun x hx => by
      have b : (2 ^ n + x).testBit n = true := by rw [Nat.testBit_two_pow_add_eq, Nat.testBit_lt_two_pow hx]; rfl
      rw [pc_succ, pc_succ, Nat.testBit_and, b, Bool.and_true, if_pos rfl, pc_congr (lo x), pc_congr (x := h &&& (2 ^ n + x)) (y := h &&& x) fun k hk => by rw [Nat.testBit_and, Nat.testBit_and, lo x k hk]]
    have e3 : Ct (n + 1) h c t = Ct n h c t + sm (2 ^ n) fun x => if pc n x + 1 = c ∧ pc n (h &&& x) + (if h.testBit n = true then 1 else 0) = t then (1 : Int) else 0 := by
      unfold Ct
      rw [show 2 ^ (n + 1) = 2 ^ n + 2 ^ n by rw [Nat.pow_succ]; omega, sm_split, e2]
      congr 1
    have hs := pc_le n h
    rw [e3, ct_eq n h c t, pc_succ]
    by_cases b : h.testBit n = true
    · rw [if_pos b, show n + 1 - (pc n h + 1) = n - pc n h by omega]
      cases t with
      | zero =>
        rw [sm_zero fun x _ => if_neg (by omega), ch_zero, ch_zero, Int.add_zero]
      | succ t =>
        cases c with
        | zero =>
          rw [sm_zero fun x _ => if_neg (by omega), show chm (n - pc n h) 0 (t + 1) = 0 from if_neg (by omega)]; omega
        | succ c =>
          have e4 : (sm (2 ^ n) fun x => if pc n x + 1 = c + 1 ∧ pc n (h &&& x) + 1 = t + 1 then (1 : Int) else 0) = Ct n h c t := sm_congr fun x _ => by
            by_cases z : pc n x = c ∧ pc n (h &&& x) = t
            · rw [if_pos z, if_pos ⟨by omega, by omega⟩]
            · rw [if_neg z, if_neg fun y => z ⟨by omega, by omega⟩]
          rw [e4, ct_eq n h c t, ch_ss, chm_ss, Int.add_mul]; omega
    · rw [if_neg b, Nat.add_zero, show n + 1 - pc n h = (n - pc n h) + 1 by omega]
      cases c with
      | zero => rw [sm_zero fun x _ => if_neg (by omega), chm_up0, Int.add_zero]
      | succ c =>
        have e4 : (sm (2 ^ n) fun x => if pc n x + 1 = c + 1 ∧ pc n (h &&& x) + 0 = t then (1 : Int) else 0) = Ct n h c t := sm_congr fun x _ => by
          by_cases z : pc n x = c ∧ pc n (h &&& x) = t
          · rw [if_pos z, if_pos ⟨by omega, by omega⟩]
          · rw [if_neg z, if_neg fun y => z ⟨by omega, by omega⟩]
        rw [e4, ct_eq n h c t, chm_up, Int.mul_add]
/-! a dict that is added to -/
def plusR (rs : List (Int × Int)) (x v : Int) : List (Int × Int) := if inR rs x = true then rs.map (fun r => if r.1 = x then (r.1, r.2 + v) else r) else rs ++ [(x, v)]
def Wt (f : Int → Int) (rs : List (Int × Int)) : Int := (rs.map fun r => r.2 * f r.1).sum
theorem nodup_one {rs : List (Int × Int)} (nd : (rs.map Prod.fst).Nodup) {p q : Int × Int} (hp : p ∈ rs) (hq : q ∈ rs) (e : p.1 = q.1) : p = q := by
  induction rs with
  | nil => cases hp
  | cons r rs ih =>
    rw [List.map_cons, List.nodup_cons] at nd
    rcases List.mem_cons.mp hp with rfl | hp
    · rcases List.mem_cons.mp hq with rfl | hq
      · rfl
      · exact absurd (List.mem_map.mpr ⟨q, hq, e.symm⟩) nd.1
    · rcases List.mem_cons.mp hq with z | hq
      · exact absurd (List.mem_map.mpr ⟨p, hp, by rw [e, z]⟩) nd.1
      · exact ih nd.2 hp hq
theorem put_plus {rs : List (Int × Int)} (nd : (rs.map Prod.fst).Nodup) (x v : Int) : putK (tabR rs) (.inl x) (.int (numR rs x + v)) = tabR (plusR rs x v) := by
  unfold putK plusR
  have ea : ((tabR rs).any fun kv => decide (kv.1 = Sum.inl x)) = inR rs x := by
    unfold tabR inR
    rw [List.any_map]
    refine congrArg _ (funext fun r => ?_)
    show decide ((Sum.inl r.1 : Key) = Sum.inl x) = decide (r.1 = x)
    rw [Bool.eq_iff_iff, decide_eq_true_iff, decide_eq_true_iff]
    exact ⟨fun e => Sum.inl.inj e, fun e => by rw [e]⟩
  rw [ea]
  by_cases c : inR rs x = true
  · rw [if_pos c, if_pos c]
    unfold tabR
    rw [List.map_map, List.map_map]
    refine List.map_congr_left fun r hr => ?_
    show (if (Sum.inl r.1 : Key) = Sum.inl x then (Sum.inl r.1, V.int (numR rs x + v)) else (Sum.inl r.1, .int r.2)) = (Sum.inl (if r.1 = x then (r.1, r.2 + v) else r).1, V.int (if r.1 = x then (r.1, r.2 + v) else r).2)
    by_cases e : r.1 = x
    · rw [if_pos (by rw [e]), if_pos e]
      have hn : numR rs x = r.2 := by
        unfold numR
        cases ef : rs.find? fun r => decide (r.1 = x) with
        | none => exact absurd (decide_eq_true e) (List.find?_eq_none.mp ef r hr)
        | some q =>
          have q1 : q.1 = x := by have := List.find?_some ef; simpa using this
          have qm := List.mem_of_find?_eq_some ef
          rw [nodup_one nd hr qm (by rw [q1, e])]; rfl
      rw [hn]
    · rw [if_neg (fun z => e (Sum.inl.inj z)), if_neg e]
  · rw [if_neg c, if_neg c]
    have hn : numR rs x = 0 := by
      unfold numR
      cases ef : rs.find? fun r => decide (r.1 = x) with
      | none => rfl
      | some q => exact absurd (inR_iff.mpr ⟨q, List.mem_of_find?_eq_some ef, by have := List.find?_some ef; simpa using this⟩) c
    rw [hn, Int.zero_add]
    unfold tabR
    rw [List.map_append]; rfl
theorem plus_keys {rs : List (Int × Int)} {x v : Int} {r : Int × Int} (h : r ∈ plusR rs x v) : r.1 = x ∨ ∃ q ∈ rs, q.1 = r.1 := by
  unfold plusR at h
  split at h
  · obtain ⟨q, hq, rfl⟩ := List.mem_map.mp h
    right
    exact ⟨q, hq, by split <;> rfl⟩
  · rcases List.mem_append.mp h with h | h
    · exact .inr ⟨r, h, rfl⟩
    · rw [List.mem_singleton.mp h]; exact .inl rfl
theorem plus_nodup {rs : List (Int × Int)} (nd : (rs.map Prod.fst).Nodup) (x v : Int) : ((plusR rs x v).map Prod.fst).Nodup := by
  unfold plusR
  by_cases c : inR rs x = true
  · rw [if_pos c, List.map_map]
    have : rs.map (Prod.fst ∘ fun r => if r.1 = x then (r.1, r.2 + v) else r) = rs.map Prod.fst := List.map_congr_left fun r _ => by
      show (if r.1 = x then (r.1, r.2 + v) else r).1 = r.1
      split <;> rfl
    rw [this]; exact nd
  · rw [if_neg c, List.map_append]
    refine List.nodup_append.mpr ⟨nd, by simp, fun a ha b hb => ?_⟩
    rw [List.map_cons, List.map_nil, List.mem_singleton] at hb
    subst hb
    intro e
    obtain ⟨q, hq, e2⟩ := List.mem_map.mp ha
    exact c (inR_iff.mpr ⟨q, hq, by rw [e2, e]⟩)
theorem wt_conss (f : Int → Int) (r : Int × Int) (rs : List (Int × Int)) : Wt f (r :: rs) = r.2 * f r.1 + Wt f rs := by unfold Wt; rw [List.map_cons, List.sum_cons]
theorem wt_snocc (f : Int → Int) (r : Int × Int) (rs : List (Int × Int)) : Wt f (rs ++ [r]) = Wt f rs + r.2 * f r.1 := by
  unfold Wt; rw [List.map_append, List.sum_append]
  show _ + (_ + 0) = _
  rw [Int.add_zero]
theorem wt_outt (f : Int → Int) (x v : Int) : ∀ {rs : List (Int × Int)}, (∀ r ∈ rs, r.1 ≠ x) → Wt f (rs.map fun r => if r.1 = x then (r.1, r.2 + v) else r) = Wt f rs
  | [], _ => rfl
  | r :: rs, h => by rw [List.map_cons, if_neg (h r (.head _)), wt_conss, wt_conss, wt_outt f x v fun q hq => h q (.tail _ hq)]
theorem wt_inn (f : Int → Int) (x v : Int) : ∀ {rs : List (Int × Int)}, (rs.map Prod.fst).Nodup → (∃ r ∈ rs, r.1 = x) → Wt f (rs.map fun r => if r.1 = x then (r.1, r.2 + v) else r) = Wt f rs + v * f x
  | [], _, h => by obtain ⟨_, h, _⟩ := h; cases h
  | r :: rs, nd, h => by
    rw [List.map_cons, List.nodup_cons] at nd
    by_cases e : r.1 = x
    · rw [List.map_cons, if_pos e, wt_conss, wt_conss, wt_outt f x v fun q hq z => nd.1 (List.mem_map.mpr ⟨q, hq, by rw [z, e]⟩)]
      show (r.2 + v) * f r.1 + _ = _
      rw [Int.add_mul, e]; omega
    · obtain ⟨q, hq, eq⟩ := h
      rcases List.mem_cons.mp hq with rfl | hq
      · exact absurd eq e
      · rw [List.map_cons, if_neg e, wt_conss, wt_conss, wt_inn f x v nd.2 ⟨q, hq, eq⟩]; omega
theorem wt_pluss {rs : List (Int × Int)} (nd : (rs.map Prod.fst).Nodup) (f : Int → Int) (x v : Int) : Wt f (plusR rs x v) = Wt f rs + v * f x := by
  unfold plusR
  by_cases c : inR rs x = true
  · rw [if_pos c]
    obtain ⟨q, hq, e⟩ := inR_iff.mp c
    exact wt_inn f x v nd ⟨q, hq, e⟩
  · rw [if_neg c, wt_snocc]
/-! the tally -/
def eqT (n t : Nat) (x : Int) : Int := if pc n x.toNat = t then 1 else 0
structure Tal (n : Nat) (q : List Nat) (rs : List (Int × Int)) : Prop where
  nd : (rs.map Prod.fst).Nodup
  key : ∀ r ∈ rs, ∃ x : Nat, r.1 = (x : Int) ∧ x < 2 ^ n ∧ ∀ c ∈ q, pc n x ≤ c
  cnt : ∀ t, Wt (eqT n t) rs = wj n q t
theorem tal_init (n : Nat) : Tal n [] [((2 : Int) ^ n - 1, 1)] := by
  have e : (2 : Int) ^ n - 1 = ((2 ^ n - 1 : Nat) : Int) := by
    have : (1 : Nat) ≤ 2 ^ n := Nat.one_le_two_pow
    rw [Int.natCast_sub this, Int.natCast_pow]; rfl
  refine ⟨by simp, fun r hr => ?_, fun t => ?_⟩
  · rw [List.mem_singleton.mp hr]
    exact ⟨2 ^ n - 1, e, by have : (1 : Nat) ≤ 2 ^ n := Nat.one_le_two_pow; omega, fun c hc => nomatch hc⟩
  · rw [wt_conss]
    show 1 * eqT n t _ + 0 = if t = n then 1 else 0
    rw [e, Int.one_mul, Int.add_zero]
    unfold eqT
    rw [Int.toNat_natCast, pc_full]
    by_cases h : t = n
    · rw [if_pos h, if_pos h.symm]
    · rw [if_neg h, if_neg fun z => h z.symm]
theorem wt_by {n : Nat} (g : Nat → Int) : ∀ {rs : List (Int × Int)}, (rs.map fun r => r.2 * g (pc n r.1.toNat)).sum = sm (n + 1) fun s => Wt (eqT n s) rs * g s
  | [] => by
    rw [sm_zero fun s _ => by show (0 : Int) * _ = 0; rw [Int.zero_mul]]; rfl
  | r :: rs => by
    rw [List.map_cons, List.sum_cons, wt_by g (rs := rs)]
    have e : (fun s => Wt (eqT n s) (r :: rs) * g s) = fun s => r.2 * eqT n s r.1 * g s + Wt (eqT n s) rs * g s := by
      funext s; rw [wt_conss, Int.add_mul]
    have e2 : (sm (n + 1) fun s => r.2 * eqT n s r.1 * g s) = r.2 * g (pc n r.1.toNat) := by
      rw [sm_one (j := pc n r.1.toNat) (by have := pc_le n r.1.toNat; omega) fun i _ hne => by unfold eqT; rw [if_neg hne.symm, Int.mul_zero, Int.zero_mul]]
      unfold eqT
      rw [if_pos rfl, Int.mul_one]
    rw [e, sm_add, e2]
def lotsW (n c : Nat) : List Nat := (List.range (2 ^ n)).filter fun x => decide (pc n x = c)
theorem filt_sum (p : Nat → Bool) (g : Nat → Int) : ∀ m : Nat, (((List.range m).filter p).map g).sum = sm m fun x => if p x = true then g x else 0
  | 0 => rfl
  | m + 1 => by
    rw [List.range_succ, List.filter_append, List.map_append, List.sum_append, filt_sum p g m]
    show _ = sm m _ + (if p m = true then g m else 0)
    congr 1
    by_cases h : p m = true
    · rw [List.filter_cons, if_pos h, if_pos h]; show g m + 0 = _; rw [Int.add_zero]
    · rw [List.filter_cons, if_neg h, if_neg h]; rfl
theorem lots_ct (n h c t : Nat) : ((lotsW n c).map fun x => eqT n t ((h &&& x : Nat) : Int)).sum = Ct n h c t := by
  unfold lotsW Ct
  rw [filt_sum]
  refine sm_congr fun x _ => ?_
  unfold eqT
  rw [Int.toNat_natCast]
  by_cases h1 : pc n x = c
  · rw [if_pos (decide_eq_true h1)]
    by_cases h2 : pc n (h &&& x) = t
    · rw [if_pos h2, if_pos ⟨h1, h2⟩]
    · rw [if_neg h2, if_neg fun z => h2 z.2]
  · rw [if_neg (by rw [decide_eq_true_iff]; exact h1), if_neg fun z => h1 z.1]
/-- the tally with one more count -/
theorem tal_step {n c : Nat} {q : List Nat} {rs ws : List (Int × Int)} (h : Tal n q rs) (nd : (ws.map Prod.fst).Nodup) (key : ∀ r ∈ ws, ∃ x : Nat, r.1 = (x : Int) ∧ x < 2 ^ n ∧ ∀ d ∈ c :: q, pc n x ≤ d) (cnt : ∀ t, Wt (eqT n t) ws = (rs.map fun r => r.2 * Ct n r.1.toNat c t).sum) : Tal n (c :: q) ws := by
  refine ⟨nd, key, fun t => ?_⟩
  rw [cnt t]
  have e : (rs.map fun r => r.2 * Ct n r.1.toNat c t) = rs.map fun r => r.2 * (fun s => ch s t * chm (n - s) c t) (pc n r.1.toNat) := List.map_congr_left fun r _ => by rw [ct_eq]
  rw [e, wt_by (n := n) (fun s => ch s t * chm (n - s) c t) (rs := rs)]
  show _ = sm (n + 1) _
  exact sm_congr fun s _ => by rw [h.cnt]
theorem tal_whole {n : Nat} {q : List Nat} {rs : List (Int × Int)} (h : Tal n q rs) : (rs.map Prod.snd).sum = al n q := by
  have e : rs.map Prod.snd = rs.map fun r => r.2 * (fun _ => (1 : Int)) (pc n r.1.toNat) := List.map_congr_left fun r _ => by rw [Int.mul_one]
  rw [e, wt_by (n := n) (fun _ => (1 : Int)) (rs := rs), ← mm_zero, ← moments]
  exact sm_congr fun s _ => by rw [h.cnt, ch_zero, Int.mul_one, Int.one_mul]
theorem wj_rev {n m : Nat} {cs : List Nat} (h : Cnt n m cs) (t : Nat) : wj n cs.reverse t = wj n cs t := by
  rw [← invert h.zero h.mn, ← invert h.rev.zero h.rev.mn]
  exact sm_congr fun s _ => by unfold mm; rw [pr_rev]
/-! the mean, once more -/
theorem low_uniq {a b c d : Int} (hb : 0 < b) (hd : 0 < d) (ha : 0 ≤ a) (hc : 0 ≤ c) (g1 : gcdF a b = 1) (g2 : gcdF c d = 1) (e : a * d = c * b) : a = c ∧ b = d := by
  obtain ⟨a, rfl⟩ : ∃ x : Nat, a = x := ⟨a.toNat, by omega⟩
  obtain ⟨b, rfl⟩ : ∃ x : Nat, b = x := ⟨b.toNat, by omega⟩
  obtain ⟨c, rfl⟩ : ∃ x : Nat, c = x := ⟨c.toNat, by omega⟩
  obtain ⟨d, rfl⟩ : ∃ x : Nat, d = x := ⟨d.toNat, by omega⟩
  unfold gcdF at g1 g2
  simp only [Int.toNat_natCast] at g1 g2
  have g1 : Nat.gcd a b = 1 := by omega
  have g2 : Nat.gcd c d = 1 := by omega
  have e : a * d = c * b := by have := e; rw [← Int.natCast_mul, ← Int.natCast_mul] at this; omega
  have d1 : b ∣ d := by
    have : b ∣ a * d := ⟨c, by rw [e, Nat.mul_comm]⟩
    exact Nat.Coprime.dvd_of_dvd_mul_left (k := b) (by rw [Nat.coprime_iff_gcd_eq_one, Nat.gcd_comm]; exact g1) this
  have d2 : d ∣ b := by
    have : d ∣ c * b := ⟨a, by rw [← e, Nat.mul_comm]⟩
    exact Nat.Coprime.dvd_of_dvd_mul_left (k := d) (by rw [Nat.coprime_iff_gcd_eq_one, Nat.gcd_comm]; exact g2) this
  have ebd : b = d := Nat.dvd_antisymm d1 d2
  subst ebd
  have : a = c := Nat.eq_of_mul_eq_mul_right (by omega) e
  exact ⟨by rw [this], rfl⟩
theorem low_eq {t b t' b' : Int} (ht : 0 ≤ t) (hb : 0 < b) (ht' : 0 ≤ t') (hb' : 0 < b') (e : t * b' = t' * b) : lowF t b = lowF t' b' := by
  have l := low_ok ht hb
  have l' := low_ok ht' hb'
  have x : (lowF t b).1 * (lowF t' b').2 = (lowF t' b').1 * (lowF t b).2 := by
    refine Int.eq_of_mul_eq_mul_right (a := b * b') (Int.ne_of_gt (Int.mul_pos hb hb')) ?_
    calc (lowF t b).1 * (lowF t' b').2 * (b * b') = ((lowF t b).1 * b) * ((lowF t' b').2 * b') := by ac_rfl
      _ = (t * (lowF t b).2) * ((lowF t' b').2 * b') := by rw [l.eq]
      _ = (t * b') * ((lowF t b).2 * (lowF t' b').2) := by ac_rfl
      _ = (t' * b) * ((lowF t b).2 * (lowF t' b').2) := by rw [e]
      _ = (t' * (lowF t' b').2) * ((lowF t b).2 * b) := by ac_rfl
      _ = ((lowF t' b').1 * b') * ((lowF t b).2 * b) := by rw [l'.eq]
      _ = (lowF t' b').1 * (lowF t b).2 * (b * b') := by ac_rfl
  obtain ⟨a1, a2⟩ := low_uniq l.pos l'.pos l.nn l'.nn (low_gcd ht hb) (low_gcd ht' hb') x
  exact Prod.ext a1 a2
theorem mean_low' {n m : Nat} {c : Nat} {cs : List Nat} (h : Cnt n m (c :: cs)) : meanF n (c :: cs) = lowF (mm n 1 (c :: cs)) (al n (c :: cs)) := by
  have M := Dl.mom (j := 1) h.le
  have m0 : 0 ≤ mm n 1 (c :: cs) := by rw [← h.mom 1]; exact sm_nn fun t _ => Int.mul_nonneg (ch_nn t 1) (wj_nn n _ t)
  unfold meanF
  by_cases hn : n = 0
  · rw [if_pos hn]
    subst hn
    have z : mm 0 1 (c :: cs) = 0 := by unfold mm; rw [ch_zs, Int.zero_mul]
    rw [z]
    have := low_eq (t := 0) (b := 1) (t' := 0) (b' := al 0 (c :: cs)) (by decide) (by decide) (by decide) h.pos (by rw [Int.zero_mul, Int.zero_mul])
    rw [← this]; rfl
  · rw [if_neg hn]
    have hp : (0 : Int) < (n : Int) ^ cs.length := Int.pow_pos (by omega)
    rw [ch_one] at M
    refine low_eq (up_nn 1 _) hp m0 h.pos ?_
    show up 1 (c :: cs) * al n (c :: cs) = mm n 1 (c :: cs) * (n : Int) ^ cs.length
    rw [Int.mul_comm (up 1 _), M, Int.mul_comm]
/-! what the defs of the law give back -/
def spWays78 : Sp := fun vs H Q _ => ∃ (n c : Nat), vs = [.int (n : Int), .int (c : Int)] ∧ n ≤ 5 ∧ ∀ (r : Addr) (H' : Hp), Same H H' → H r = none → H' r = some (.lst ((nI (lotsW n c)).map V.int)) → Q (.ref r) H'
def spDealt78 (K : PySem.W.Frag) : Sp := fun vs H Q _ => ∃ (c : Addr) (n : Nat) (cs : List Nat), vs = [.int (n : Int), .ref c] ∧ n ≤ 5 ∧ SqL K H c ((nI cs).map V.int) ∧ ∀ (d : Addr) (rs : List (Int × Int)) (H' : Hp), Same H H' → H d = none → H' d = some (.dK (tabR rs)) → Tal n cs.reverse rs → Q (.ref d) H'
theorem num_getD (rs : List (Int × Int)) (k : Int) : (valV (tabR rs) (.inl k)).getD (.int 0) = .int (numR rs k) := by
  rw [valV_num]
  unfold numR
  cases rs.find? fun r => decide (r.1 = k) <;> rfl
theorem tab_at {rs : List (Int × Int)} {i : Nat} {k : Key} {v : V} (h : (tabR rs)[i]? = some (k, v)) : ∃ r, rs[i]? = some r ∧ k = .inl r.1 ∧ v = .int r.2 := by
  unfold tabR at h
  rw [List.getElem?_map] at h
  cases e : rs[i]? with
  | none => rw [e] at h; cases h
  | some r => rw [e] at h; cases h; exact ⟨r, rfl, rfl, rfl⟩
theorem tab_val {rs : List (Int × Int)} (nd : (rs.map Prod.fst).Nodup) {r : Int × Int} (hr : r ∈ rs) : valV (tabR rs) (.inl r.1) = some (.int r.2) := by
  rw [valV_num]
  cases ef : rs.find? fun q => decide (q.1 = r.1) with
  | none => exact absurd (decide_eq_true rfl) (List.find?_eq_none.mp ef r hr)
  | some q =>
    have q1 : q.1 = r.1 := by have := List.find?_some ef; simpa using this
    rw [nodup_one nd (List.mem_of_find?_eq_some ef) hr q1]; rfl
theorem keys_len {n : Nat} {rs : List (Int × Int)} (nd : (rs.map Prod.fst).Nodup) (h : ∀ r ∈ rs, ∃ x : Nat, r.1 = (x : Int) ∧ x < 2 ^ n) : rs.length ≤ 2 ^ n := by
  have : (rs.map Prod.fst).length ≤ ((List.range (2 ^ n)).map fun x : Nat => (x : Int)).length := nd.length_le_of_subset fun k hk => by
    obtain ⟨r, hr, rfl⟩ := List.mem_map.mp hk
    obtain ⟨x, e, hx⟩ := h r hr
    exact List.mem_map.mpr ⟨x, List.mem_range.mpr hx, e.symm⟩
  rwa [List.length_map, List.length_map, List.length_range] at this
theorem pow5 {n : Nat} (h : n ≤ 5) : 2 ^ n ≤ 32 := Nat.pow_le_pow_right (n := 2) (i := n) (j := 5) (by decide) h
theorem bitB (x k : Nat) : (Builtin.bitAnd ((x : Int) / 2 ^ k) 1 == 1) = x.testBit k := by
  rw [Bool.eq_iff_iff]
  exact bit_iff (lot := (x : Int)) (Int.natCast_nonneg _) k
theorem lots_len (n c : Nat) : (lotsW n c).length ≤ 2 ^ n := by
  unfold lotsW
  exact Nat.le_trans (List.length_filter_le _ _) (by rw [List.length_range]; exact Nat.le_refl _)
theorem lots_mem {n c x : Nat} (h : x ∈ lotsW n c) : x < 2 ^ n ∧ pc n x = c := by
  unfold lotsW at h
  rw [List.mem_filter, decide_eq_true_iff, List.mem_range] at h
  exact h
theorem sum_snoc' (l : List Int) (x : Int) : (l ++ [x]).sum = l.sum + x := by
  rw [List.sum_append]
  show _ + (x + 0) = _
  rw [Int.add_zero]
/-- what is due, row by row -/
def dueL (n m : Nat) (rs : List (Int × Int)) : List Int := (List.range (m + 1)).map fun t => Wt (eqT n t) rs
theorem due_len (n m : Nat) (rs : List (Int × Int)) : (dueL n m rs).length = m + 1 := by unfold dueL; rw [List.length_map, List.length_range]
theorem due_get {n m : Nat} {rs : List (Int × Int)} {t : Nat} (h : t ≤ m) : (dueL n m rs)[t]? = some (Wt (eqT n t) rs) := by
  unfold dueL
  rw [List.getElem?_map, List.getElem?_range (by omega)]; rfl
theorem due_set {n m : Nat} {rs : List (Int × Int)} {r : Int × Int} {x : Nat} (hx : r.1 = (x : Int)) (h : pc n x ≤ m) : ((dueL n m rs).map V.int).set (pc n x) (.int (Wt (eqT n (pc n x)) rs + r.2)) = (dueL n m (rs ++ [r])).map V.int := by
  refine List.ext_getElem? fun t => ?_
  rw [List.getElem?_set, List.length_map, due_len]
  by_cases e : pc n x = t
  · rw [if_pos e, if_pos (by omega), List.getElem?_map, due_get (by omega), wt_snocc]
    unfold eqT
    rw [hx, Int.toNat_natCast, if_pos e, Int.mul_one, e]; rfl
  · rw [if_neg e]
    by_cases ht : t ≤ m
    · rw [List.getElem?_map, List.getElem?_map, due_get ht, due_get ht, wt_snocc]
      have : eqT n t r.1 = 0 := by unfold eqT; rw [hx, Int.toNat_natCast, if_neg e]
      rw [this, Int.mul_zero, Int.add_zero]
    · rw [List.getElem?_eq_none (by rw [List.length_map, due_len]; omega), List.getElem?_eq_none (by rw [List.length_map, due_len]; omega)]
theorem due_all {n m : Nat} {cs : List Nat} {rs : List (Int × Int)} (h : Cnt n m cs) (T : Tal n cs.reverse rs) : dueL n m rs = wjL n m cs := by
  unfold dueL wjL
  exact List.map_congr_left fun t _ => by rw [T.cnt, wj_rev h]
theorem mid_sum {n m : Nat} {cs : List Nat} (h : Cnt n m cs) : (((List.range (m + 1)).map fun t : Nat => (t : Int) * wj n cs t)).sum = mm n 1 cs := by
  rw [sum_range, ← h.mom 1]
  exact sm_congr fun t _ => by rw [ch_one]
theorem three_any (x1 x2 x3 d : Int) : ∃ e, atI [V.int x1, .int x2, .int x3] (d % 3) = some (.int e) ∧ (e = x1 ∨ e = x2 ∨ e = x3) := by
  have h0 := Int.emod_nonneg d (show (3 : Int) ≠ 0 by decide)
  have h1 := Int.emod_lt_of_pos d (show (0 : Int) < 3 by decide)
  have h : d % 3 = ((0 : Nat) : Int) ∨ d % 3 = ((1 : Nat) : Int) ∨ d % 3 = ((2 : Nat) : Int) := by omega
  rcases h with h | h | h <;> rw [h]
  · exact ⟨x1, atI_nat rfl, .inl rfl⟩
  · exact ⟨x2, atI_nat rfl, .inr (.inl rfl)⟩
  · exact ⟨x3, atI_nat rfl, .inr (.inr rfl)⟩
theorem shB_pair {p : Int × Int} (h1 : intBits p.1 ≤ 700) (h2 : intBits p.2 ≤ 700) : ShB (dRow p) 2 1 := (ShB.tuple (ShBAll.cons (ShB.int (by omega)) (ShBAll.cons (ShB.int (by omega)) .nil))).mono (by decide) (by decide)
end OL

namespace OL.Q78
open PySem L2 OL
def top (i : Nat) : Stmt := PySem.Challenge.pw_oftenlots_k78_dealings_gone_through.main.body.getD i (.Pass ⟨0, 0, 0, 0⟩)
abbrev s_lowest_terms : Stmt := top 1
abbrev s_together : Stmt := top 3
abbrev s_just_ways : Stmt := top 4
abbrev s_choice_rows : Stmt := top 5
abbrev s_ways_to_choose : Stmt := top 6
abbrev s_ways_of_just : Stmt := top 7
abbrev s_mean : Stmt := top 8
abbrev s_L_mix : Stmt := top 10
abbrev s_L_draws : Stmt := top 11
abbrev s_L_pop : Stmt := top 12
abbrev s_L_lowest : Stmt := top 13
abbrev s_L_ways : Stmt := top 14
abbrev s_L_dealt : Stmt := top 15
abbrev s_law : Stmt := top 16
section
variable {P : Program} {w : World} {K : PySem.W.Frag} {mg : Str → Option Value} {base : Heap} {f : Addr} {fd : FuncData} {k : Nat}
abbrev n_lowest_terms : List Str := ["top", "bottom", "factor", "rest", "former"]
theorem sc_lowest_terms : FnScope n_lowest_terms ["top", "bottom"] (defScope s_lowest_terms) := ⟨rfl, rfl, rfl, by decide +kernel, rfl, by decide +kernel, by decide +kernel⟩
theorem ok_lowest_terms (F : Fun K "lowest_terms" "lowest_terms" s_lowest_terms f fd) (b : Binds K fd ["top", "bottom"] []) (m : mg "lowest_terms" = some (.ref f))   : Dfn P w K mg base (k + 1) "lowest_terms" ["top", "bottom"] spLowW := by
  refine .of F b m sc_lowest_terms (fun vs H Q E h => ?_) (fun cdv A outer s H vs Q E hr h => ?_)
  · obtain ⟨t, b, rfl, t0, b0, b1, q⟩ := h; rfl
  obtain ⟨t, b, rfl, t0, b0, b1, q⟩ := h
  have nd := sc_lowest_terms.nd
  refine ⟨_, pss_cons (ps_set (i := 2) nd rfl (Or.inl rfl) (pv 1))
    (pss_cons (ps_set (i := 3) nd rfl (Or.inl rfl) (pv 0))
    (pss_cons (ps_while PassesOwn.never (pt_cmpR op_gt (pv 3) pe_int (nomark _))
      (pss_cons (ps_set (i := 4) nd rfl (Or.inl rfl) (pv 3))
      (pss_cons (ps_set (i := 3) nd rfl (Or.inl rfl) (pe_op op_mod (pv 2) (pv 3)))
      (pss_one (ps_set (i := 2) nd rfl (Or.inl rfl) (pv 4))))))
    (pss_one (ps_ret (pe_tup (pa_cons (pe_op op_fdivW (pv 0) (pv 2)) (pa_cons (pe_op op_fdivW (pv 1) (pv 2)) pa_nil))))))), ?_⟩
  refine ⟨_, rfl, _, rfl, while_by (fun σ H' => ∃ (x y : Nat) (z : Option V), σ = [some (.int t), some (.int b), some (.int x), some (.int y), z] ∧ H' = H ∧ 0 < x ∧ Nat.gcd x y = Nat.gcd t.toNat b.toNat)
    (fun σ _ => match σ with | [_, _, _, some (V.int r), _] => r.toNat | _ => 0) ⟨b.toNat, t.toNat, none, ?_, rfl, by omega, Nat.gcd_comm _ _⟩ ?_ ?_⟩
  · have e1 : ((b.toNat : Nat) : Int) = b := by omega
    have e2 : ((t.toNat : Nat) : Int) = t := by omega
    rw [e1, e2]; rfl
  · rintro σ H' ⟨x, y, z, rfl, rfl, hx, hg⟩
    refine ⟨_, rfl, _, _, rfl, rfl, _, rfl, ?_⟩
    refine ite2 (fun c => ?_) (fun c => ?_)
    · have c' : (0 : Int) < (y : Int) := of_decide_eq_true c
      refine ⟨_, rfl, _, rfl, _, rfl, _, _, rfl, rfl, c', _, rfl, ⟨y, x % y, some (.int y), rfl, rfl, by omega, by rw [gcd_step]; exact hg⟩, ?_⟩
      have := Nat.mod_lt x (show 0 < y by omega)
      exact this
    · have c' : ¬ (0 : Int) < (y : Int) := of_decide_eq_false (Bool.eq_false_iff.mpr c)
      have hy : y = 0 := by omega
      subst hy
      rw [Nat.gcd_zero_right] at hg
      have hx1 : (x : Int) = gcdF t b := by unfold gcdF; omega
      have hle := gcd_le (t := t) b0
      have hb : Builtin.Int.intBits (x : Int) ≤ 9000 := intBits_le_of_natAbs (by omega) b1
      refine ⟨_, rfl, _, rfl, _, _, rfl, rfl, ⟨by omega, hb⟩, _, rfl, _, rfl, _, _, rfl, rfl, ⟨by omega, hb⟩, (by show 2 ≤ sizeLine; decide), fun p hp => ?_⟩
      rw [hx1]; exact q p hp
  · rintro σ H' Q Q' hm ⟨a, h1, b, c, h2, h3, d, h4, h5⟩
    exact ⟨a, h1, b, c, h2, h3, d, h4, hm _ _ h5⟩
abbrev n_choice_rows : List Str := ["n", "rows", "last"]
theorem sc_choice_rows : FnScope n_choice_rows ["n"] (defScope s_choice_rows) := ⟨rfl, rfl, rfl, by decide +kernel, rfl, by decide +kernel, by decide +kernel⟩
theorem nd_choice_rows_0 : (["one", "other"] : List Str).Nodup := by decide +kernel
open Dl
set_option maxHeartbeats 1000000 in
theorem ok_choice_rows (F : Fun K "choice_rows" "choice_rows" s_choice_rows f fd) (b : Binds K fd ["n"] []) (m : mg "choice_rows" = some (.ref f)) (M_len : mg "len" = none) (M_zip : mg "zip" = none)  : Dfn P w K mg base (k + 1) "choice_rows" ["n"] (spRows79 K) := by
  refine .of F b m sc_choice_rows (fun vs H Q E h => ?_) (fun cdv A outer s H vs Q E hr h => ?_)
  · obtain ⟨n, rfl, n100, q⟩ := h; rfl
  obtain ⟨n, rfl, n100, q⟩ := h
  have nd := sc_choice_rows.nd
  refine ⟨_, pss_cons (ps_set (i := 1) nd rfl (Or.inl rfl) (pe_lst (pa_cons (pe_lst (pa_cons pe_int pa_nil)) pa_nil)))
    (pss_cons (ps_while PassesOwn.never (pt_cmpR op_le (pe_callB call_len_seq (by rfl) M_len PySem.boot_len (pa_cons (pv 1) pa_nil)) (pv 0) (nomark _))
      (pss_cons (ps_set (i := 2) nd rfl (Or.inl rfl) (pe_ix ix_list (pv 1) (pe_un un_neg pe_int) (fun _ _ => rfl)))
      (pss_one (ps_expr (pe_bm PySem.F.plainAttrs_list PySem.F.slot_list_append PySem.F.type_list_append mt_append (pv 1) (pa_cons (pe_op op_cat (pe_op op_cat (pe_lst (pa_cons pe_int pa_nil)) (pe_compC ["one", "other"] [] (sc := defScope s_choice_rows) (N := n_choice_rows) (.inl rfl) rfl ⟨rfl, by decide +kernel, by decide +kernel, by decide +kernel, by decide +kernel⟩ rfl (pi_zip rfl M_zip (pa_cons (pv 2) (pa_cons (pe_slice sl_list (pv 2) (po_some pe_int) po_none) pa_nil))) (fun cl s H C fp => (pg_tupK (n := 2) K rfl rfl (pgs_cons (pg_name (i := 0) nd_choice_rows_0 rfl (Or.inl rfl)) (pgs_cons (pg_name (i := 1) nd_choice_rows_0 rfl (Or.inl rfl)) pgs_nil)))) (fun cl s H C fp => pifs_nil) (fun cl s H C fp => (pe_op op_add (pv 0) (pv 1))))) (pe_lst (pa_cons pe_int pa_nil))) pa_nil))))))
    (pss_one (ps_ret (pv 1)))), ?_⟩
  refine ⟨(by show 1 ≤ sizeLine; decide), fun p1 hp1 => ⟨(by show 1 ≤ sizeLine; decide), fun a ha1 => ?_⟩⟩
  have S1 := (same_new hp1 (.lst [.int 1])).trans (same_new ha1 (.lst [.ref p1]))
  have haH : H a = none := (same_new hp1 (.lst [.int 1])).free ha1
  have h1 := same_new ha1 (.lst [.ref p1]) _ _ (upd_same (H := H) (a := p1) (o := .lst [.int 1]))
  have h1a : p1 ≠ a := fun e => by rw [← e, upd_same] at ha1; cases ha1
  have h2 : upd (upd H p1 (.lst [.int 1])) a (.lst [.ref p1]) a = some (.lst [.ref p1]) := upd_same
  generalize upd (upd H p1 (.lst [.int 1])) a (.lst [.ref p1]) = H1 at S1 h1 h2 ⊢
  dsimp only
  refine while_by (fun σ H' => ∃ (i : Nat) (xs : List V) (z : Option V), σ = [some (.int (n : Int)), some (.ref a), z] ∧ Same H H' ∧ H' a = some (.lst xs) ∧ xs.length = i + 1 ∧ i ≤ n ∧ ∀ j, j ≤ i → ∃ p, xs[j]? = some (.ref p) ∧ p ≠ a ∧ H' p = some (.lst ((chRow j).map V.int)))
    (fun σ H => match H a with | some (.lst xs) => n + 1 - xs.length | _ => 0) ⟨0, [.ref p1], none, rfl, S1, h2, rfl, Nat.zero_le _, fun j hj => ⟨p1, by rw [show j = 0 by omega]; rfl, h1a, by rw [show j = 0 by omega]; exact h1⟩⟩ ?_ ?_
  · rintro σ H' ⟨i, xs, z, rfl, S, hx, hl, hi, hr⟩
    refine ⟨_, rfl, a, xs, rfl, .inl (SqL.of hx), _, rfl, _, _, rfl, rfl, _, rfl, ?_⟩
    refine ite2 (fun c => ?_) (fun c => ?_)
    · have c' : ((xs.length : Nat) : Int) ≤ (n : Int) := of_decide_eq_true c
      obtain ⟨p, ep, hpa, hp⟩ := hr i (Nat.le_refl _)
      have exs : xs = xs.take i ++ [.ref p] := by rw [← take_snoc ep, ← hl, List.take_length]
      refine ⟨_, rfl, _, rfl, a, _, _, _, rfl, rfl, SqL.of hx, (by rw [exs]; exact L2.atI_last _ _), ?_⟩
      refine ⟨_, rfl, .inl ⟨rfl, _, SqL.of hx⟩, (by show 1 ≤ sizeLine; decide), fun l1 hl1 => ?_⟩
      have Sa := same_new hl1 (.lst [.int 1])
      have hl1' : upd H' l1 (.lst [.int 1]) l1 = some (.lst [.int 1]) := upd_same
      generalize upd H' l1 (.lst [.int 1]) = H2 at Sa hl1' ⊢
      refine ⟨_, rfl, _, rfl, _, rfl, p, _, rfl, SqL.of (Sa _ _ hp), fun sl hsl => ?_⟩
      rw [cut_tail]
      have Sb := same_new hsl (.lst (((chRow i).map V.int).drop 1))
      have hsl' : upd H2 sl (.lst (((chRow i).map V.int).drop 1)) sl = some (.lst (((chRow i).map V.int).drop 1)) := upd_same
      generalize upd H2 sl (.lst (((chRow i).map V.int).drop 1)) = H3 at Sb hsl' ⊢
      have hdl : (((chRow i).map V.int).drop 1).length = i := by rw [List.length_drop, List.length_map, chRow_len]; rfl
      refine ⟨p, sl, rfl, ⟨_, SqL.of ((Sa.trans Sb) _ _ hp)⟩, ⟨_, SqL.of hsl'⟩, comp_zip (SqL.of ((Sa.trans Sb) _ _ hp)) (SqL.of hsl') (by rw [hdl, List.length_map, chRow_len]; omega) (fun j => ((List.range j).map fun k => ch i k + ch i (k + 1)).map V.int) rfl (fun acc j x y u H4 hacc hj hx' hy' Sc h0 hu => ?_) (fun acc H4 hacc Sc h0 => ?_)⟩
      · rw [hdl] at hj
        have ex : x = .int (ch i j) := by rw [List.getElem?_map, chRow_get (by omega)] at hx'; cases hx'; rfl
        have ey : y = .int (ch i (j + 1)) := by rw [List.getElem?_drop, Nat.add_comm, List.getElem?_map, chRow_get (by omega)] at hy'; cases hy'; rfl
        subst ex ey
        refine ⟨u, _, rfl, SqT.of upd_same, rfl, _, _, rfl, _, _, rfl, rfl, Wk.set (i := 1) ((Wk.refl _).set (i := 0) (by decide)) (by decide), yes_of ?_⟩
        refine ⟨_, rfl, _, rfl, _, _, rfl, rfl, cput (by rw [hdl]; exact hj) hacc Sc h0 (same_new hu _) (by rw [List.range_succ, List.map_append, List.map_append]; rfl) ?_⟩
        rw [List.length_map, List.length_map, List.length_range]; exact small1000 (by omega)
      · rw [hdl] at h0
        refine ⟨l1, acc, _, _, rfl, rfl, (Sb.trans Sc) _ _ hl1', h0, (by rw [List.length_map, List.length_map, List.length_range]; exact Nat.le_of_lt (small1000 (by show 1 + _ ≤ _; omega))), fun l2 hl2 => ?_⟩
        have Sd := same_new hl2 (.lst ([.int 1] ++ ((List.range i).map fun k => ch i k + ch i (k + 1)).map V.int))
        have hl2' : upd H4 l2 (.lst ([.int 1] ++ ((List.range i).map fun k => ch i k + ch i (k + 1)).map V.int)) l2 = some (.lst ([.int 1] ++ ((List.range i).map fun k => ch i k + ch i (k + 1)).map V.int)) := upd_same
        generalize upd H4 l2 (.lst ([.int 1] ++ ((List.range i).map fun k => ch i k + ch i (k + 1)).map V.int)) = H5 at Sd hl2' ⊢
        refine ⟨(by show 1 ≤ sizeLine; decide), fun l3 hl3 => ?_⟩
        have Se := same_new hl3 (.lst [.int 1])
        have hl3' : upd H5 l3 (.lst [.int 1]) l3 = some (.lst [.int 1]) := upd_same
        generalize upd H5 l3 (.lst [.int 1]) = H6 at Se hl3' ⊢
        refine ⟨l2, l3, _, _, rfl, rfl, Se _ _ hl2', hl3', (by rw [List.length_append, List.length_map, List.length_map, List.length_range]; exact Nat.le_of_lt (small1000 (by show 1 + _ + 1 ≤ _; omega))), fun l4 hl4 => ?_⟩
        have er : [V.int 1] ++ ((List.range i).map fun k => ch i k + ch i (k + 1)).map V.int ++ [V.int 1] = (chRow (i + 1)).map V.int := by
          rw [chRow_next, List.map_append, List.map_append]; rfl
        rw [er]
        have Sf := same_new hl4 (.lst ((chRow (i + 1)).map V.int))
        have hl4' : upd H6 l4 (.lst ((chRow (i + 1)).map V.int)) l4 = some (.lst ((chRow (i + 1)).map V.int)) := upd_same
        have SS := Sa.trans (Sb.trans (Sc.trans (Sd.trans Se)))
        have l4a : l4 ≠ a := fun e => by rw [e, SS _ _ hx] at hl4; cases hl4
        generalize upd H6 l4 (.lst ((chRow (i + 1)).map V.int)) = H7 at Sf hl4' ⊢
        have SS := SS.trans Sf
        refine ⟨a, _, _, rfl, rfl, SS _ _ hx, small1000 (by omega), ⟨i + 1, _, _, rfl, fun b o hb => ?_, upd_same, by rw [List.length_append, hl]; rfl, by omega, fun j hj => ?_⟩, ?_⟩
        · rw [upd_ne (ne_of_none hb haH)]; exact (S.trans SS) b o hb
        · by_cases ej : j = i + 1
          · subst ej
            exact ⟨l4, by rw [List.getElem?_append_right (by omega), hl, Nat.sub_self]; rfl, l4a, by rw [upd_ne l4a]; exact hl4'⟩
          · obtain ⟨p', e', ne', hp'⟩ := hr j (by omega)
            exact ⟨p', by rw [List.getElem?_append_left (by omega)]; exact e', ne', by rw [upd_ne ne']; exact SS _ _ hp'⟩
        · rw [upd_same, hx]
          show n + 1 - (xs ++ [V.ref l4]).length < n + 1 - xs.length
          rw [List.length_append]
          show n + 1 - (xs.length + 1) < _
          omega
    · have c' : ¬ ((xs.length : Nat) : Int) ≤ (n : Int) := of_decide_eq_false (Bool.eq_false_iff.mpr c)
      have ei : i = n := by omega
      subst ei
      exact ⟨_, rfl, q a H' S haH ⟨xs, SqL.of hx, hl, fun j hj => by obtain ⟨p', e', _, hp'⟩ := hr j hj; exact ⟨p', e', SqL.of hp'⟩⟩⟩
  · rintro σ H' Q Q' hm ⟨a1, h1, a2, a3, h2, h3, a4, h4, a5, a6, h5, h6, a7, h7, h8⟩
    exact ⟨a1, h1, a2, a3, h2, h3, a4, h4, a5, a6, h5, h6, a7, h7, hm _ _ h8⟩
abbrev n_ways_to_choose : List Str := ["choices", "n", "counts", "size", "ways", "its"]
theorem sc_ways_to_choose : FnScope n_ways_to_choose ["choices", "n", "counts", "size"] (defScope s_ways_to_choose) := ⟨rfl, rfl, rfl, by decide +kernel, rfl, by decide +kernel, by decide +kernel⟩
theorem ok_ways_to_choose (F : Fun K "ways_to_choose" "ways_to_choose" s_ways_to_choose f fd) (b : Binds K fd ["choices", "n", "counts", "size"] []) (m : mg "ways_to_choose" = some (.ref f))   : Dfn P w K mg base (k + 1) "ways_to_choose" ["choices", "n", "counts", "size"] (spWays79 K) := by
  refine .of F b m sc_ways_to_choose (fun vs H Q E h => ?_) (fun cdv A outer s H vs Q E hr h => ?_)
  · obtain ⟨a, c, n, s0, m', cs, rfl, hP, hC, hN, hs, q⟩ := h; rfl
  obtain ⟨a, c, n, s0, m', cs, rfl, hP, hC, hN, hs, q⟩ := h
  have nd := sc_ways_to_choose.nd
  refine ⟨_, pss_cons (ps_set (i := 4) nd rfl (Or.inl rfl) (pe_ix ix_list (pe_ix ix_list (pv 0) (pv 1) (fun _ _ => rfl)) (pv 3) (fun _ _ => rfl)))
    (pss_cons (ps_for PassesOwn.never rfl (pi_list (pv 2)) (pg_name (i := 5) nd rfl (Or.inl rfl))
      (pss_one (ps_set (i := 4) nd rfl (Or.inl rfl) (pe_op op_mulW (pv 4) (pe_ix ix_list (pe_ix ix_list (pv 0) (pe_op op_sub (pv 1) (pv 3)) (fun _ _ => rfl)) (pe_op op_sub (pv 5) (pv 3)) (fun _ _ => rfl))))))
    (pss_one (ps_ret (pv 4)))), ?_⟩
  have hmn := hN.mn
  have n100 := hN.n100
  have c6 := hN.len
  obtain ⟨x1, p1, ha1, e1, hp1⟩ := hP.get (k := (n : Int)) rfl (Nat.le_refl _)
  obtain ⟨x2, p2, ha2, e2, hp2⟩ := hP.get (k := (n : Int) - (s0 : Int)) (i := n - s0) (by omega) (by omega)
  refine ⟨_, rfl, _, rfl, a, _, _, _, rfl, rfl, ha1, e1, _, rfl, p1, _, _, _, rfl, rfl, hp1, chRow_at' rfl (by omega), ?_⟩
  refine ⟨_, rfl, c, rfl, ⟨_, hC⟩, for_list (xs := (nI cs).map V.int) (fun i σ H' => ∃ (z : Option V), σ = [some (.ref a), some (.int (n : Int)), some (.ref c), some (.int (s0 : Int)), some (.int (ch n s0 * pr n s0 (cs.take i))), z] ∧ H' = H) ⟨_, by rw [List.take_zero]; show _ = [_, _, _, _, some (V.int (ch n s0 * 1)), _]; rw [Int.mul_one]; rfl, rfl⟩ (fun i σ H' _ h => by obtain ⟨_, _, rfl⟩ := h; exact hC) ?_ ?_⟩
  · rintro i v σ H' hv ⟨z, rfl, rfl⟩
    obtain ⟨d, hd, rfl⟩ := nI_get hv
    have hdm := List.mem_of_getElem? hd
    have hmd := hN.min.2 d hdm
    have hdn := hN.le d hdm
    have hi : i < cs.length := (List.getElem?_eq_some_iff.mp hd).1
    dsimp only [gName]
    refine ⟨_, rfl, _, rfl, _, rfl, _, rfl, _, _, rfl, rfl, a, _, _, _, rfl, rfl, ha2, e2, _, rfl, _, rfl, _, _, rfl, rfl, p2, _, _, _, rfl, rfl, hp2, chRow_at' (j := d - s0) (by omega) (by omega), _, _, rfl, rfl, ⟨101 + (101 * (cs.take i).length + 1), 101, intBits_mul_le (ch_bits n100 _) (pr_bits n100 _), ch_bits (by omega) _, by rw [List.length_take]; omega⟩, some (.int (d : Int)), ?_, rfl⟩
    rw [take_snoc hd, pr_snoc]
    have e3 : chm (n - s0) d s0 = ch (n - s0) (d - s0) := if_pos (by omega)
    rw [e3, ← Int.mul_assoc]; rfl
  · rintro σ H' ⟨z, rfl, rfl⟩
    rw [List.length_map, nI_len, List.take_length]
    exact ⟨_, rfl, q⟩
abbrev n_ways_of_just : List Str := ["choices", "chosen", "t", "ways", "size", "its"]
theorem sc_ways_of_just : FnScope n_ways_of_just ["choices", "chosen", "t"] (defScope s_ways_of_just) := ⟨rfl, rfl, rfl, by decide +kernel, rfl, by decide +kernel, by decide +kernel⟩
theorem ok_ways_of_just (F : Fun K "ways_of_just" "ways_of_just" s_ways_of_just f fd) (b : Binds K fd ["choices", "chosen", "t"] []) (m : mg "ways_of_just" = some (.ref f)) (M_range : mg "range" = none) (M_len : mg "len" = none)  : Dfn P w K mg base (k + 1) "ways_of_just" ["choices", "chosen", "t"] (spJust79 K) := by
  refine .of F b m sc_ways_of_just (fun vs H Q E h => ?_) (fun cdv A outer s H vs Q E hr h => ?_)
  · obtain ⟨a, c, n, m', t, cs, rfl, hP, hC, hN, ht, q⟩ := h; rfl
  obtain ⟨a, c, n, m', t, cs, rfl, hP, hC, hN, ht, q⟩ := h
  have nd := sc_ways_of_just.nd
  refine ⟨_, pss_cons (ps_set (i := 3) nd rfl (Or.inl rfl) pe_int)
    (pss_cons (ps_for PassesOwn.never rfl (pi_range2 rfl M_range (pa_cons (pv 2) (pa_cons (pe_callB call_len_seq (by rfl) M_len PySem.boot_len (pa_cons (pv 1) pa_nil)) pa_nil))) (pg_name (i := 4) nd rfl (Or.inl rfl))
      (pss_cons (ps_set (i := 5) nd rfl (Or.inl rfl) (pe_op op_mulW (pe_ix ix_list (pv 1) (pv 4) (fun _ _ => rfl)) (pe_ix ix_list (pe_ix ix_list (pv 0) (pv 4) (fun _ _ => rfl)) (pv 2) (fun _ _ => rfl))))
      (pss_one (ps_set (i := 3) nd rfl (Or.inl rfl) (pe_ifExp (pt_cmpR op_eq (pe_op op_mod (pe_op op_sub (pv 4) (pv 2)) pe_int) pe_int (nomark _)) (pe_op op_add (pv 3) (pv 5)) (pe_op op_sub (pv 3) (pv 5)))))))
    (pss_one (ps_ret (pv 3)))), ?_⟩
  have hmn := hN.mn
  have n100 := hN.n100
  have c6 := hN.len
  have hlen : ((mmL n m' cs).map V.int).length = m' + 1 := by unfold mmL; rw [List.length_map, List.length_map, List.length_range]
  have hcnt : (((((mmL n m' cs).map V.int).length : Nat) : Int) - (t : Int)).toNat = m' + 1 - t := by rw [hlen]; omega
  refine ⟨_, rfl, _, rfl, c, _, rfl, .inl hC, _, _, rfl, (by rw [hlen]; omega), ?_⟩
  rw [hcnt]
  refine for_range (fun i σ H' => ∃ (z4 z5 : Option V), σ = [some (.ref a), some (.ref c), some (.int (t : Int)), some (.int (sm (t + i) fun s => sg (s + t) * (mm n s cs * ch s t))), z4, z5] ∧ H' = H) ⟨_, _, by rw [sm_zero fun s hs => by rw [ch_gt (by omega), Int.mul_zero, Int.mul_zero]]; rfl, rfl⟩ ?_ ?_
  · rintro i σ H' hi ⟨z4, z5, rfl, rfl⟩
    obtain ⟨x1, p1, ha1, e1, hp1⟩ := hP.get (k := (t : Int) + (i : Int)) (i := t + i) (by omega) (by omega)
    have e2 : atI ((mmL n m' cs).map V.int) ((t : Int) + (i : Int)) = some (.int (mm n (t + i) cs)) := by
      have := mmL_at (n := n) (cs := cs) (show t + i ≤ m' by omega)
      rwa [Int.natCast_add] at this
    dsimp only [gName]
    refine ⟨_, rfl, _, rfl, c, _, _, _, rfl, rfl, hC, e2, _, rfl, _, rfl, a, _, _, _, rfl, rfl, ha1, e1, _, rfl, p1, _, _, _, rfl, rfl, hp1, chRow_at' (j := t) rfl (by omega), _, _, rfl, rfl, ⟨_, 101, mm_bits n100 cs, ch_bits (by omega) _, by omega⟩, ?_⟩
    refine ⟨_, rfl, _, rfl, _, _, rfl, rfl, _, _, rfl, rfl, (by show (0 : Int) < 2; decide), rfl, _, rfl, ?_⟩
    rw [int_eq]
    have es : ((t : Int) + (i : Int) - (t : Int)) % 2 = ((i % 2 : Nat) : Int) := by omega
    rw [es]
    refine ite2 (fun cc => ?_) (fun cc => ?_)
    · have cc : ((i % 2 : Nat) : Int) = 0 := of_decide_eq_true cc
      refine ⟨_, rfl, _, rfl, _, _, rfl, rfl, some (.int ((t : Int) + (i : Int))), some (.int (mm n (t + i) cs * ch (t + i) t)), ?_, rfl⟩
      have : sg (t + i + t) = 1 := if_pos (by omega)
      show _ = [_, _, _, some (V.int (sm (t + i) _ + sg (t + i + t) * (mm n (t + i) cs * ch (t + i) t))), _, _]
      rw [this, Int.one_mul]; rfl
    · have cc : ¬ ((i % 2 : Nat) : Int) = 0 := of_decide_eq_false (Bool.eq_false_iff.mpr cc)
      refine ⟨_, rfl, _, rfl, _, _, rfl, rfl, some (.int ((t : Int) + (i : Int))), some (.int (mm n (t + i) cs * ch (t + i) t)), ?_, rfl⟩
      have : sg (t + i + t) = -1 := if_neg (by omega)
      show _ = [_, _, _, some (V.int (sm (t + i) _ + sg (t + i + t) * (mm n (t + i) cs * ch (t + i) t))), _, _]
      rw [this, Int.neg_mul, Int.one_mul, ← Int.sub_eq_add_neg]; rfl
  · rintro σ H' ⟨z4, z5, rfl, rfl⟩
    rw [show t + (m' + 1 - t) = m' + 1 by omega, invert hN.zero hmn]
    exact ⟨_, rfl, q⟩
end
end OL.Q78

namespace OL.Q78
open PySem L2 OL
section
variable {P : Program} {w : World} {K : PySem.W.Frag} {mg : Str → Option Value} {base : Heap} {f : Addr} {fd : FuncData} {k : Nat}
abbrev n_just_ways : List Str := ["n", "counts", "choices", "chosen"]
theorem sc_just_ways : FnScope n_just_ways ["n", "counts"] (defScope s_just_ways) := ⟨rfl, rfl, rfl, by decide +kernel, rfl, by decide +kernel, by decide +kernel⟩
theorem nd_just_ways_0 : (["size", "choices", "n", "counts"] : List Str).Nodup := by decide +kernel
theorem nd_just_ways_1 : (["t", "choices", "chosen"] : List Str).Nodup := by decide +kernel
open Dl
theorem ok_just_ways (F : Fun K "just_ways" "just_ways" s_just_ways f fd) (b : Binds K fd ["n", "counts"] []) (m : mg "just_ways" = some (.ref f)) (M_range : mg "range" = none) (M_min : mg "min" = none) (M_len : mg "len" = none) (G_choice_rows : Dfn P w K mg base k "choice_rows" ["n"] (spRows79 K)) (G_ways_to_choose : Dfn P w K mg base k "ways_to_choose" ["choices", "n", "counts", "size"] (spWays79 K)) (G_ways_of_just : Dfn P w K mg base k "ways_of_just" ["choices", "chosen", "t"] (spJust79 K)) : Dfn P w K mg base (k + 1) "just_ways" ["n", "counts"] (spJusts79 K) := by
  refine .of F b m sc_just_ways (fun vs H Q E h => ?_) (fun cdv A outer s H vs Q E hr h => ?_)
  · obtain ⟨c, n, m', cs, rfl, hC, hN, q⟩ := h; rfl
  obtain ⟨c, n, m', cs, rfl, hC, hN, q⟩ := h
  have nd := sc_just_ways.nd
  have le := Nat.le_refl k
  refine ⟨_, pss_cons (ps_set (i := 2) nd rfl (Or.inr rfl) (pe_def G_choice_rows hr le rfl (pa_cons (pv 0) pa_nil)))
    (pss_cons (ps_set (i := 3) nd rfl (Or.inr rfl) (pe_compC ["size"] [2, 0, 1] (sc := defScope s_just_ways) (N := n_just_ways) (.inl rfl) rfl ⟨rfl, by decide +kernel, by decide +kernel, by decide +kernel, by decide +kernel⟩ rfl (pi_range1 rfl M_range (pa_cons (pe_op op_add (pe_callB (call_minL rfl) (by rfl) M_min PyProof.Rows.boot_min (pa_cons (pv 1) pa_nil)) pe_int) pa_nil)) (fun cl s H C fp => (pg_name (i := 0) nd_just_ways_0 rfl (Or.inl rfl))) (fun cl s H C fp => pifs_nil) (fun cl s H C fp => (pe_def G_ways_to_choose hr le rfl (pa_cons (pv 1) (pa_cons (pv 2) (pa_cons (pv 3) (pa_cons (pv 0) pa_nil))))))))
    (pss_one (ps_ret (pe_compC ["t"] [2, 3] (sc := defScope s_just_ways) (N := n_just_ways) (.inl rfl) rfl ⟨rfl, by decide +kernel, by decide +kernel, by decide +kernel, by decide +kernel⟩ rfl (pi_range1 rfl M_range (pa_cons (pe_callB call_len_seq (by rfl) M_len PySem.boot_len (pa_cons (pv 3) pa_nil)) pa_nil)) (fun cl s H C fp => (pg_name (i := 0) nd_just_ways_1 rfl (Or.inl rfl))) (fun cl s H C fp => pifs_nil) (fun cl s H C fp => (pe_def G_ways_of_just hr le rfl (pa_cons (pv 1) (pa_cons (pv 2) (pa_cons (pv 0) pa_nil))))))))), ?_⟩
  have hmn := hN.mn
  have n100 := hN.n100
  have c0 : 0 < (nI cs).length := by rw [nI_len]; exact List.length_pos_of_mem hN.min.1
  refine ⟨_, rfl, n, rfl, n100, fun a H1 S1 ha0 hP => ?_⟩
  dsimp only
  refine ⟨_, rfl, c, nI cs, rfl, S1.seq hC, c0, fun k hk hk2 => ?_⟩
  have ek : k = (m' : Int) := by
    obtain ⟨d, hd, rfl⟩ := List.mem_map.mp hk
    have h1 := hN.min.2 d hd
    have h2 := hk2 (m' : Int) (List.mem_map.mpr ⟨m', hN.min.1, rfl⟩)
    omega
  subst ek
  refine ⟨_, _, rfl, rfl, _, rfl, by omega, by omega, ?_⟩
  rw [show ((m' : Int) + 1).toNat = m' + 1 by omega]
  refine compV_range (n := m' + 1) (fun _ => true) (fun s => .int (mm n s cs)) (by omega) (fun x H2 hx S => turn_pick (y := .int (mm n x cs)) look_yes (fun _ H3 S3 => .pure fun Q h => ⟨_, rfl, _, rfl, _, rfl, _, rfl, a, c, n, x, m', cs, rfl, hP.same (S.trans S3), (S1.trans (S.trans S3)).seq hC, hN, by omega, h⟩) fun _ _ _ => rfl) (fun r H2 hr0 S2 hr2 => ?_)
  rw [filter_true] at hr2
  have hr3 : H2 r = some (.lst ((mmL n m' cs).map V.int)) := by rw [hr2]; unfold mmL; rw [List.map_map]; rfl
  have hl : ((mmL n m' cs).map V.int).length = m' + 1 := by unfold mmL; rw [List.length_map, List.length_map, List.length_range]
  dsimp only
  refine ⟨_, rfl, r, _, rfl, .inl (SqL.of hr3), _, rfl, by omega, by rw [hl]; omega, ?_⟩
  rw [hl, show (((m' + 1 : Nat) : Int)).toNat = m' + 1 by omega]
  refine compV_range (n := m' + 1) (fun _ => true) (fun t => .int (wj n cs t)) (by omega) (fun x H3 hx S => turn_pick (y := .int (wj n cs x)) look_yes (fun _ H4 S4 => .pure fun Q h => ⟨_, rfl, _, rfl, _, rfl, a, r, n, m', x, cs, rfl, hP.same (S2.trans (S.trans S4)), SqL.of ((S.trans S4) _ _ hr3), hN, by omega, h⟩) fun _ _ _ => rfl) (fun w H3 hw0 S3 hw => ?_)
  rw [filter_true] at hw
  exact q w H3 (S1.trans (S2.trans S3)) ((S1.trans S2).free hw0) (by rw [hw]; unfold wjL; rw [List.map_map]; rfl)
abbrev n_together : List Str := ["n", "counts", "ways"]
theorem sc_together : FnScope n_together ["n", "counts"] (defScope s_together) := ⟨rfl, rfl, rfl, by decide +kernel, rfl, by decide +kernel, by decide +kernel⟩
theorem nd_together_0 : (["its", "ways"] : List Str).Nodup := by decide +kernel
theorem ok_together (F : Fun K "together" "together" s_together f fd) (b : Binds K fd ["n", "counts"] []) (m : mg "together" = some (.ref f)) (M_sum : mg "sum" = none) (G_just_ways : Dfn P w K mg base k "just_ways" ["n", "counts"] (spJusts79 K)) (G_lowest_terms : Dfn P w K mg base k "lowest_terms" ["top", "bottom"] spLowW) : Dfn P w K mg base (k + 1) "together" ["n", "counts"] (spTog79 K) := by
  refine .of F b m sc_together (fun vs H Q E h => ?_) (fun cdv A outer s H vs Q E hr h => ?_)
  · obtain ⟨c, n, m', cs, rfl, hC, hN, q⟩ := h; rfl
  obtain ⟨c, n, m', cs, rfl, hC, hN, q⟩ := h
  have nd := sc_together.nd
  have le := Nat.le_refl k
  refine ⟨_, pss_cons (ps_set (i := 2) nd rfl (Or.inr rfl) (pe_def G_just_ways hr le rfl (pa_cons (pv 0) (pa_cons (pv 1) pa_nil))))
    (pss_one (ps_ret (pe_compC ["its"] [2] (sc := defScope s_together) (N := n_together) (.inl rfl) rfl ⟨rfl, by decide +kernel, by decide +kernel, by decide +kernel, by decide +kernel⟩ rfl (pi_list (pv 2)) (fun cl s H C fp => (pg_name (i := 0) nd_together_0 rfl (Or.inl rfl))) (fun cl s H C fp => pifs_nil) (fun cl s H C fp => (pe_def G_lowest_terms hr le rfl (pa_cons (pv 0) (pa_cons (pe_callB (sumIK K rfl rfl) (by rfl) M_sum PyProof.Rows.boot_sum (pa_cons (pv 1) pa_nil)) pa_nil))))))), ?_⟩
  have hmn := hN.mn
  have n100 := hN.n100
  refine ⟨_, rfl, _, rfl, c, n, m', cs, rfl, hC, hN, fun w H1 S1 hw0 hw => ?_⟩
  have wl : (wjL n m' cs).length = m' + 1 := by unfold wjL; rw [List.length_map, List.length_range]
  dsimp only
  refine ⟨_, rfl, w, rfl, ⟨_, SqL.of hw⟩, compR_list (ns := wjL n m' cs) (SqL.of hw) (fun _ => true) (fun x => lowF x (wjL n m' cs).sum) (by omega) (fun x H2 hx S PUT SKIP h1 h2 => ⟨(Wk.refl _).set (by decide), yes_of ?_⟩) (fun r ys H2 hr0 S2 hr hR => ?_)⟩
  · have x0 : 0 ≤ x := by obtain ⟨t, _, rfl⟩ := List.mem_map.mp hx; exact wj_nn n cs t
    exact ⟨_, rfl, _, rfl, w, _, rfl, SqL.of (S _ _ hw), x, (wjL n m' cs).sum, rfl, x0, by rw [wjL_sum hN]; exact hN.pos, by rw [wjL_sum hN]; exact Nat.le_trans hN.abits (by decide), fun p hp => h1 rfl _ _ (same_new hp _) ⟨p, rfl, upd_same⟩⟩
  · rw [filter_true, wjL_sum hN] at hR
    refine q r ys H2 (S1.trans S2) (S1.free hr0) hr ?_
    have e : (wjL n m' cs).map (fun x => lowF x (al n cs)) = togF n m' cs := by unfold wjL togF; rw [List.map_map]; rfl
    rw [← e]; exact hR
abbrev n_mean : List Str := ["n", "counts", "top", "bottom", "place", "its"]
theorem sc_mean : FnScope n_mean ["n", "counts"] (defScope s_mean) := ⟨rfl, rfl, rfl, by decide +kernel, rfl, by decide +kernel, by decide +kernel⟩
theorem ok_mean (F : Fun K "mean" "mean" s_mean f fd) (b : Binds K fd ["n", "counts"] []) (m : mg "mean" = some (.ref f)) (M_enumerate : mg "enumerate" = none) (G_lowest_terms : Dfn P w K mg base k "lowest_terms" ["top", "bottom"] spLowW) : Dfn P w K mg base (k + 1) "mean" ["n", "counts"] (spMean79 K) := by
  refine .of F b m sc_mean (fun vs H Q E h => ?_) (fun cdv A outer s H vs Q E hr h => ?_)
  · obtain ⟨c, n, m', cs, rfl, hC, hN, q⟩ := h; rfl
  obtain ⟨c, n, m', cs, rfl, hC, hN, q⟩ := h
  have nd := sc_mean.nd
  have le := Nat.le_refl k
  refine ⟨_, pss_cons (ps_if (pt_cmpR op_eq (pv 0) pe_int (nomark _)) (pss_one (ps_ret (pe_tup (pa_cons pe_int (pa_cons pe_int pa_nil))))) pss_nil)
    (pss_cons (ps_set (i := 2) nd rfl (Or.inl rfl) pe_int)
    (pss_cons (ps_set (i := 3) nd rfl (Or.inl rfl) pe_int)
    (pss_cons (ps_for PassesOwn.never rfl (pi_enum rfl M_enumerate (pa_cons (pv 1) pa_nil)) (pg_tupK (n := 2) K rfl rfl (pgs_cons (pg_name (i := 4) nd rfl (Or.inl rfl)) (pgs_cons (pg_name (i := 5) nd rfl (Or.inl rfl)) pgs_nil)))
      (pss_cons (ps_set (i := 2) nd rfl (Or.inl rfl) (pe_op op_mul (pv 2) (pv 5)))
      (pss_one (ps_set (i := 3) nd rfl (Or.inl rfl) (pe_ifExp (pt_cmpR op_gt (pv 4) pe_int (nomark _)) (pe_op op_mul (pv 3) (pv 0)) (pv 3))))))
    (pss_one (ps_ret (pe_def G_lowest_terms hr le rfl (pa_cons (pv 2) (pa_cons (pv 3) pa_nil)))))))), ?_⟩
  have n100 := hN.n100
  have c6 := hN.len
  refine ⟨_, rfl, rfl, _, rfl, ?_⟩
  rw [int_eq]
  refine ite2 (fun cc => ?_) (fun cc => ?_)
  · have cc : (n : Int) = 0 := of_decide_eq_true cc
    have e : meanF n cs = (0, 1) := if_pos (by omega)
    rw [e] at q
    exact ⟨(by show 2 ≤ sizeLine; decide), fun p hp => q p _ (same_new hp _) hp upd_same⟩
  · have cc : ¬ (n : Int) = 0 := of_decide_eq_false (Bool.eq_false_iff.mpr cc)
    have e : meanF n cs = lowF (up 1 cs) ((n : Int) ^ (cs.length - 1)) := if_neg (by omega)
    rw [e] at q
    try dsimp only [tNext]
    refine ⟨_, rfl, c, rfl, ⟨_, hC⟩, for_enum (xs := (nI cs).map V.int) (fun i σ H' => ∃ (z4 z5 : Option V), σ = [some (.int (n : Int)), some (.ref c), some (.int (up 1 (cs.take i))), some (.int ((n : Int) ^ (i - 1))), z4, z5] ∧ Same H H') ⟨_, _, rfl, Same.refl _⟩ (fun i σ H' _ h => by obtain ⟨_, _, _, S⟩ := h; exact S.seq hC) ?_ ?_⟩
    · rintro i x p σ H' hx ⟨z4, z5, rfl, S⟩ hp
      obtain ⟨d, hd, rfl⟩ := nI_get hx
      have hdn := hN.le d (List.mem_of_getElem? hd)
      have Sp := same_new hp (.tup [.int (i : Nat), .int (d : Int)])
      have et : up 1 (cs.take i) * (d : Int) = up 1 (cs.take (i + 1)) := by rw [take_snoc hd, up_snoc, ch_one]
      refine ⟨p, _, rfl, SqT.of upd_same, rfl, _, _, rfl, _, _, rfl, rfl, ?_⟩
      dsimp only
      refine ⟨_, rfl, _, rfl, _, _, rfl, rfl, .inr ⟨by omega, by omega⟩, _, rfl, _, _, rfl, rfl, _, rfl, ite2 (fun c2 => ?_) (fun c2 => ?_)⟩
      · have c2 : (0 : Int) < (i : Int) := of_decide_eq_true c2
        refine ⟨_, rfl, _, rfl, _, _, rfl, rfl, .inr ⟨by omega, by omega⟩, some (.int (i : Nat)), some (.int (d : Int)), ?_, S.trans Sp⟩
        rw [← et, show (n : Int) ^ (i + 1 - 1) = (n : Int) ^ (i - 1) * (n : Int) by rw [← Int.pow_succ]; congr 1; omega]; rfl
      · have c2 : ¬ (0 : Int) < (i : Int) := of_decide_eq_false (Bool.eq_false_iff.mpr c2)
        refine ⟨_, rfl, some (.int (i : Nat)), some (.int (d : Int)), ?_, S.trans Sp⟩
        rw [← et, show (n : Int) ^ (i + 1 - 1) = (n : Int) ^ (i - 1) by congr 1; omega]; rfl
    · rintro σ H' ⟨z4, z5, rfl, S⟩
      rw [List.length_map, nI_len, List.take_length]
      have hb : Builtin.Int.intBits ((n : Int) ^ (cs.length - 1)) ≤ 9000 := by
        have h7 : Builtin.Int.intBits (n : Int) ≤ 7 := intBits_le_iff.mpr (by show n < 2 ^ 7; omega)
        exact Nat.le_trans (intBits_pow_le h7 _) (by omega)
      exact ⟨_, rfl, _, rfl, _, _, rfl, up_nn 1 cs, Int.pow_pos (by omega), hb, fun p hp => q p _ (S.trans (same_new hp _)) (S.free hp) upd_same⟩

end
end OL.Q78

namespace OL.Q78
open PySem L2 OL
section
variable {P : Program} {w : World} {K : PySem.W.Frag} {mg : Str → Option Value} {base : Heap} {f : Addr} {fd : FuncData} {k : Nat}
theorem ix_ok' {n : Nat} {k : Int} (h0 : 0 ≤ k) (h1 : k < n) : ixN n k = some k.toNat := by
  unfold ixN
  rw [if_pos h0, if_pos h1]
theorem cutI_le' (ds : List Int) (lo hi : Option Int) : (cutI ds lo hi).length ≤ ds.length := by
  unfold cutI
  rw [List.length_take, List.length_drop]; omega

abbrev n_L_mix : List Str := ["_law_cell", "_law_turn", "_law_number"]
theorem sc_L_mix : FnScope n_L_mix ["_law_cell", "_law_turn"] (defScope s_L_mix) := ⟨rfl, rfl, rfl, by decide +kernel, rfl, by decide +kernel, by decide +kernel⟩
theorem ok_L_mix (F : Fun K "_law_mix" "_law_mix" s_L_mix f fd) (b : Binds K fd ["_law_cell", "_law_turn"] []) (m : mg "_law_mix" = some (.ref f))   : Dfn P w K mg base (k + 1) "_law_mix" ["_law_cell", "_law_turn"] spMix := by
  refine .of F b m sc_L_mix (fun vs H Q E h => ?_) (fun cdv A outer s H vs Q E hr h => ?_)
  · obtain ⟨c, t, rfl, t0, t1, q⟩ := h; rfl
  obtain ⟨c, t, rfl, t0, t1, q⟩ := h
  have nd := sc_L_mix.nd
  refine ⟨_, pss_cons (ps_set (i := 2) nd rfl (Or.inl rfl) (pe_op op_mod (pe_op op_mul (pe_op op_add (pe_op op_add (pe_op op_mod (pv 0) pe_int) (pe_op op_mul (pe_op op_mul (pv 1) (pv 1)) pe_int)) pe_int) pe_int) pe_int))
    (pss_one (ps_ret (pe_op op_mod (pe_op op_add (pe_op op_mul (pv 2) (pv 2)) (pe_op op_mul pe_int (pv 1))) pe_int))), ?_⟩
  refine ⟨_, rfl, _, _, rfl, rfl, (by show (0 : Int) < 2147483647; decide), _, rfl, _, rfl, _, _, rfl, rfl, .inl ⟨by omega, by omega⟩, _, _, rfl, rfl, .inr ⟨by decide, by decide⟩, _, _, rfl, rfl, _, _, rfl, rfl, _, _, rfl, rfl, .inr ⟨by decide, by decide⟩, _, _, rfl, rfl, (by show (0 : Int) < 2147483647; decide), ?_⟩
  refine ⟨_, rfl, _, rfl, _, _, rfl, rfl, .inl (mod_ok _ (by decide) (by decide)), _, rfl, _, _, rfl, rfl, .inl ⟨by decide, by decide⟩, _, _, rfl, rfl, _, _, rfl, rfl, (by show (0 : Int) < 2147483629; decide), ?_⟩
  exact q _ (mod31 _ (by decide) (by decide)).1 (mod31 _ (by decide) (by decide)).2
abbrev n_L_draws : List Str := ["_law_script", "_law_turn", "_law_many", "_law_cells", "_law_lefts", "_law_found", "_law_k", "_law_at", "_law_number"]
theorem sc_L_draws : FnScope n_L_draws ["_law_script", "_law_turn", "_law_many"] (defScope s_L_draws) := ⟨rfl, rfl, rfl, by decide +kernel, rfl, by decide +kernel, by decide +kernel⟩
theorem nd_L_draws_0 : (["_law_cell"] : List Str).Nodup := by decide +kernel
set_option maxHeartbeats 1000000 in
theorem ok_L_draws (F : Fun K "_law_draws" "_law_draws" s_L_draws f fd) (b : Binds K fd ["_law_script", "_law_turn", "_law_many"] []) (m : mg "_law_draws" = some (.ref f)) (M_range : mg "range" = none) (M_len : mg "len" = none) (G_L_mix : Dfn P w K mg base k "_law_mix" ["_law_cell", "_law_turn"] spMix) : Dfn P w K mg base (k + 1) "_law_draws" ["_law_script", "_law_turn", "_law_many"] (spDr K) := by
  refine .of F b m sc_L_draws (fun vs H Q E h => ?_) (fun cdv A outer s H vs Q E hr h => ?_)
  · obtain ⟨a, ns, tn, mn, rfl, hS, h63, t0, t1, m0, m1, q⟩ := h; rfl
  obtain ⟨a, ns, tn, mn, rfl, hS, h63, t0, t1, m0, m1, q⟩ := h
  have nd := sc_L_draws.nd
  have le := Nat.le_refl k
  refine ⟨_, pss_cons (ps_set (i := 3) nd rfl (Or.inl rfl) (pe_op op_cat (pe_slice sl_list (pv 0) po_none (po_some pe_int)) (pe_lst (pa_cons (pv 1) pa_nil))))
    (pss_cons (ps_setCompC (i := 4) nd rfl rfl ["_law_cell"] [] (sc := defScope s_L_draws) (N := n_L_draws) (.inl rfl) rfl ⟨rfl, by decide +kernel, by decide +kernel, by decide +kernel, by decide +kernel⟩ rfl (pi_list (pv 3)) (fun cl s H C fp => (pg_name (i := 0) nd_L_draws_0 rfl (Or.inl rfl))) (fun cl s H C fp => pifs_nil) (fun cl s H C fp => (pe_op op_fdiv (pv 0) pe_int)) rfl)
    (pss_cons (ps_set (i := 5) nd rfl (Or.inl rfl) (pe_lst pa_nil))
    (pss_cons (ps_for PassesOwn.never rfl (pi_range1 rfl M_range (pa_cons (pe_op op_add (pv 1) (pv 2)) pa_nil)) (pg_name (i := 6) nd rfl (Or.inl rfl))
      (pss_cons (ps_set (i := 7) nd rfl (Or.inl rfl) (pe_op op_mod (pv 6) (pe_callB call_len_seq (by rfl) M_len PySem.boot_len (pa_cons (pv 3) pa_nil))))
      (pss_cons (ps_set (i := 8) nd rfl (Or.inl rfl) (pe_def G_L_mix hr le rfl (pa_cons (pe_ix ix_list (pv 3) (pv 7) (fun _ _ => rfl)) (pa_cons (pv 6) pa_nil))))
      (pss_cons (ps_set (i := 8) nd rfl (Or.inl rfl) (pe_op op_mod (pe_op op_add (pe_op op_mul (pv 8) (pv 8)) (pe_op op_mul pe_int (pv 6))) pe_int))
      (pss_mid (ps_if (PW.pt (pw_and (pt_cmpR op_ge (pe_ix ix_list (pv 3) (pv 7) (fun _ _ => rfl)) (pe_op op_pow pe_int pe_int) (nomark _)) (pw_and1 (pt_cmpR op_gt (pe_ix ix_list (pv 4) (pv 7) (fun _ _ => rfl)) pe_int (nomark _))))) (pss_cons (ps_set (i := 8) nd rfl (Or.inl rfl) (pe_op op_mod (pe_ix ix_list (pv 4) (pv 7) (fun _ _ => rfl)) pe_int))
        (pss_one (ps_asg (pe_op op_fdivB (pe_ix ix_list (pv 4) (pv 7) (fun _ _ => rfl)) pe_int) (pg_sub (pv 4) (pv 7) set_list)))) pss_nil)
      (pss_one (ps_expr (pe_bm PySem.F.plainAttrs_list PySem.F.slot_list_append PySem.F.type_list_append mt_append (pv 5) (pa_cons (pv 8) pa_nil)))))))))
    (pss_one (ps_ret (pe_slice sl_list (pv 5) (po_some (pv 1)) po_none)))))), ?_⟩
  refine ⟨_, rfl, _, rfl, a, _, rfl, hS, fun sl hsl => ⟨_, rfl, (by show 1 ≤ sizeLine; decide), fun tl htl => ?_⟩⟩
  rw [cut_ints] at htl ⊢
  have Sa := same_new hsl (.lst ((cutI ns none (some 63)).map V.int))
  have Sb := same_new htl (.lst [.int tn])
  have hcl := cutI_le' ns none (some 63)
  obtain ⟨cs, hcs⟩ : ∃ cs : List Int, cs = cutI ns none (some 63) ++ [tn] := ⟨_, rfl⟩
  have emap : (cutI ns none (some 63)).map V.int ++ [V.int tn] = cs.map V.int := by rw [hcs, List.map_append]; rfl
  have c1 : 1 ≤ cs.length := by rw [hcs, List.length_append]; show 1 ≤ _ + 1; omega
  have c2 : cs.length ≤ 64 := by rw [hcs, List.length_append]; show _ + 1 ≤ 64; omega
  refine ⟨sl, tl, _, _, rfl, rfl, Sb _ _ upd_same, upd_same, (by rw [List.length_map]; show _ + 1 ≤ sizeLine; exact Nat.le_of_lt (small1000 (by omega))), fun cl hcl0 => ?_⟩
  rw [emap]
  have Sc := same_new hcl0 (.lst (cs.map V.int))
  have S1 := Sa.trans (Sb.trans Sc)
  have hc1 : upd (upd (upd H sl (.lst ((cutI ns none (some 63)).map V.int))) tl (.lst [.int tn])) cl (.lst (cs.map V.int)) cl = some (.lst (cs.map V.int)) := upd_same
  generalize upd (upd (upd H sl (.lst ((cutI ns none (some 63)).map V.int))) tl (.lst [.int tn])) cl (.lst (cs.map V.int)) = H1 at S1 hc1 ⊢
  dsimp only
  refine ⟨_, rfl, cl, rfl, ⟨_, SqL.of hc1⟩, compV_list (ns := cs) (SqL.of hc1) (fun _ => true) (fun x => .int (x / 100000)) (by omega) (fun x H2 hm S => turn_pick (y := .int (x / 100000)) look_yes (fun _ H3 S3 => .pure fun Q h => ⟨_, rfl, _, _, rfl, rfl, ⟨by decide, by decide⟩, h⟩) fun _ _ _ => rfl) (fun lf H3 hlf S3 hl3 => ?_)⟩
  rw [filter_true] at hl3
  have hl3' : H3 lf = some (.lst ((cs.map fun x => x / 100000).map V.int)) := by rw [hl3, List.map_map]; rfl
  have hc3 := S3 _ _ hc1
  have S13 := S1.trans S3
  have hlfH : H lf = none := S1.free hlf
  have cllf : cl ≠ lf := fun e => by rw [← e, hc1] at hlf; cases hlf
  dsimp only
  refine ⟨nil_len, fun fo hfo => ?_⟩
  have hfH : H fo = none := S13.free hfo
  have S4 := S13.trans (same_new hfo (.lst []))
  have hc4 := same_new hfo (.lst []) _ _ hc3
  have hl4 := same_new hfo (.lst []) _ _ hl3'
  have hf4 : upd H3 fo (.lst []) fo = some (.lst []) := upd_same
  have cfo : cl ≠ fo := fun e => by rw [e] at hc3; rw [hc3] at hfo; cases hfo
  have lfo : lf ≠ fo := fun e => by rw [e] at hl3'; rw [hl3'] at hfo; cases hfo
  generalize upd H3 fo (.lst []) = H4 at S4 hc4 hl4 hf4 ⊢
  dsimp only
  refine ⟨_, rfl, _, rfl, _, _, rfl, rfl, _, rfl, by omega, by omega, for_range (fun i σ H' => ∃ (ls ds : List Int) (z6 z7 z8 : Option V), σ = [some (.ref a), some (.int tn), some (.int mn), some (.ref cl), some (.ref lf), some (.ref fo), z6, z7, z8] ∧ Same H H' ∧ H' cl = some (.lst (cs.map V.int)) ∧ H' lf = some (.lst (ls.map V.int)) ∧ ls.length = cs.length ∧ H' fo = some (.lst (ds.map V.int)) ∧ ds.length = i ∧ D31 ds) ⟨_, [], _, _, _, rfl, S4, hc4, hl4, by rw [List.length_map], hf4, rfl, D31.nil⟩ ?_ ?_⟩
  · rintro i σ H' hi ⟨ls, ds, z6, z7, z8, rfl, S, hc', hl', hll, hf', hdl, hd31⟩
    have hL : (0 : Int) < ((cs.map V.int).length : Nat) := by rw [List.length_map]; omega
    have a0 := Int.emod_nonneg (0 + (i : Int)) (show (((cs.map V.int).length : Nat) : Int) ≠ 0 by omega)
    have a1 := Int.emod_lt_of_pos (0 + (i : Int)) hL
    rw [List.length_map] at a0 a1
    have a2 : (0 + (i : Int)) % (cs.length : Int) < (ls.length : Int) := by omega
    refine ⟨_, rfl, _, rfl, cl, _, rfl, .inl (SqL.of hc'), _, _, rfl, rfl, hL, ?_⟩
    rw [List.length_map]
    dsimp only
    refine ⟨_, rfl, _, rfl, cl, _, _, _, rfl, rfl, SqL.of hc', atI_int a0 a1, _, rfl, _, _, rfl, by omega, by omega, fun y y0 y1 => ?_⟩
    dsimp only
    refine ⟨_, rfl, _, rfl, _, _, rfl, rfl, .inl ⟨by omega, by omega⟩, _, rfl, _, _, rfl, rfl, .inl ⟨by decide, by decide⟩, _, _, rfl, rfl, _, _, rfl, rfl, (by show (0 : Int) < 2147483587; decide), ?_⟩
    have hn := mod31 (y * y + 7 * (0 + (i : Int))) (m := 2147483587) (by decide) (by decide)
    dsimp only
    generalize (y * y + 7 * (0 + (i : Int))) % 2147483587 = nb at hn ⊢
    generalize hat : (0 + (i : Int)) % (cs.length : Int) = at' at a0 a1 a2 ⊢
    refine ⟨fun σ H4 => ∃ (ls' : List Int) (nb' : Int), σ = [some (.ref a), some (.int tn), some (.int mn), some (.ref cl), some (.ref lf), some (.ref fo), some (.int (0 + (i : Int))), some (.int at'), some (.int nb')] ∧ Same H H4 ∧ H4 cl = some (.lst (cs.map V.int)) ∧ H4 lf = some (.lst (ls'.map V.int)) ∧ ls'.length = cs.length ∧ H4 fo = some (.lst (ds.map V.int)) ∧ 0 ≤ nb' ∧ nb' < 2147483648, ?_, ?_⟩
    · refine one_if (b := decide (10 ^ 18 ≤ cs.getD at'.toNat 0) && decide (0 < ls.getD at'.toNat 0)) (lookAnd (c := decide (10 ^ 18 ≤ cs.getD at'.toNat 0)) (d := decide (0 < ls.getD at'.toNat 0)) (.pure fun Q h => ⟨_, rfl, _, rfl, cl, _, _, _, rfl, rfl, SqL.of hc', atI_int a0 a1, _, _, rfl, rfl, ⟨by decide, by decide, by decide⟩, _, _, rfl, rfl, _, rfl, h⟩)
        (fun _ H5 S5 => .pure fun Q h => ⟨_, rfl, _, rfl, lf, _, _, _, rfl, rfl, SqL.of (S5 _ _ hl'), atI_int a0 a2, _, _, rfl, rfl, _, rfl, h⟩)) fun H5 S5 => ?_
      refine ite2 (fun _ => ?_) (fun _ => ⟨ls, nb, rfl, S.trans S5, S5 _ _ hc', S5 _ _ hl', hll, S5 _ _ hf', hn.1, hn.2⟩)
      have hl5 := S5 _ _ hl'
      refine ⟨_, rfl, _, rfl, lf, _, _, _, rfl, rfl, SqL.of hl5, atI_int a0 a2, _, _, rfl, rfl, (by show (0 : Int) < 2147483587; decide), ?_⟩
      have hn' := mod31 (ls.getD at'.toNat 0) (m := 2147483587) (by decide) (by decide)
      dsimp only
      refine ⟨_, rfl, _, rfl, lf, _, _, _, rfl, rfl, SqL.of hl5, atI_int a0 a2, _, _, rfl, rfl, ⟨by decide, by decide⟩, _, rfl, _, rfl, lf, _, _, _, rfl, rfl, hl5, ix_ok' a0 (by rw [List.length_map]; exact a2), ?_⟩
      refine ⟨ls.set at'.toNat (ls.getD at'.toNat 0 / 2147483587), _, rfl, fun b o e => ?_, by rw [upd_ne cllf]; exact S5 _ _ hc', by rw [upd_same, List.map_set], by rw [List.length_set]; exact hll, by rw [upd_ne (Ne.symm lfo)]; exact S5 _ _ hf', hn'.1, hn'.2⟩
      rw [upd_ne (ne_of_none e hlfH)]; exact S5 _ _ (S b o e)
    rintro σ H5 ⟨ls', nb', rfl, S5, hc5, hl5, hll5, hf5, n0, n1⟩
    refine ⟨_, rfl, .inl ⟨rfl, _, SqL.of hf5⟩, _, rfl, fo, _, _, rfl, rfl, hf5, (by rw [List.length_map]; exact small4096 (by omega)), ?_⟩
    refine ⟨ls', ds ++ [nb'], _, _, _, rfl, fun b o e => ?_, by rw [upd_ne cfo]; exact hc5, by rw [upd_ne lfo]; exact hl5, hll5, by rw [upd_same, List.map_append]; rfl, by rw [List.length_append, hdl]; rfl, hd31.snoc n0 n1⟩
    rw [upd_ne (ne_of_none e hfH)]; exact S5 b o e
  · rintro σ H' ⟨ls, ds, z6, z7, z8, rfl, S, hc', hl', hll, hf', hdl, hd31⟩
    refine ⟨_, rfl, _, rfl, _, rfl, fo, _, rfl, SqL.of hf', fun r hr0 => ?_⟩
    rw [cut_ints]
    exact q r _ _ (S.trans (same_new hr0 _)) (S.free hr0) upd_same hd31.cut
abbrev n_L_pop : List Str := ["_law_draws_here"]
theorem sc_L_pop : FnScope n_L_pop ["_law_draws_here"] (defScope s_L_pop) := ⟨rfl, rfl, rfl, by decide +kernel, rfl, by decide +kernel, by decide +kernel⟩
theorem ok_L_pop (F : Fun K "_law_pop" "_law_pop" s_L_pop f fd) (b : Binds K fd ["_law_draws_here"] []) (m : mg "_law_pop" = some (.ref f))   : Dfn P w K mg base (k + 1) "_law_pop" ["_law_draws_here"] spPop := by
  refine .of F b m sc_L_pop (fun vs H Q E h => ?_) (fun cdv A outer s H vs Q E hr h => ?_)
  · obtain ⟨l, ds, rfl, hl, hd, q⟩ := h; rfl
  obtain ⟨l, ds, rfl, hl, hd, q⟩ := h
  have nd := sc_L_pop.nd
  refine ⟨_, pss_cons (ps_if (pt_cmpR (op_eqD hr) (pv 0) (pe_lst pa_nil) (nomark _)) (pss_one (ps_ret pe_int)) pss_nil)
    (pss_one (ps_ret (pe_bm PySem.F.plainAttrs_list PySem.F.slot_list_pop PySem.F.type_list_pop mt_popAt (pv 0) (pa_cons pe_int pa_nil)))), ?_⟩
  refine ⟨_, rfl, nil_len, fun p hp => ⟨_, _, .lst (SqL.of (same_new hp _ _ _ hl)) (DRs.ints ds), .lst (SqL.of upd_same) .nil, shaped_ints ds, rfl, _, rfl, ?_⟩⟩
  have S1 := same_new hp (.lst [])
  have hl1 := S1 _ _ hl
  refine ite2 (fun c => ?_) (fun c => ?_)
  · exact q 0 ds _ (by decide) (by decide) S1.b hl1 hd
  · cases ds with
    | nil => exact absurd rfl c
    | cons d ds =>
      refine ⟨_, rfl, .inl ⟨rfl, _, SqL.of hl1⟩, l, _, 0, 0, .int d, rfl, rfl, hl1, by decide, by decide, by simp [seqIndex?], rfl, ?_⟩
      exact q d ds _ (hd d List.mem_cons_self).1 (hd d List.mem_cons_self).2 (S1.b.trans sameB_upd) upd_same hd.tail

abbrev n_L_lowest : List Str := ["_law_top", "_law_bottom", "_law_one", "_law_other"]
theorem sc_L_lowest : FnScope n_L_lowest ["_law_top", "_law_bottom"] (defScope s_L_lowest) := ⟨rfl, rfl, rfl, by decide +kernel, rfl, by decide +kernel, by decide +kernel⟩
open Dl
theorem ok_L_lowest (F : Fun K "_law_lowest" "_law_lowest" s_L_lowest f fd) (b : Binds K fd ["_law_top", "_law_bottom"] []) (m : mg "_law_lowest" = some (.ref f)) (M_max : mg "max" = none)  : Dfn P w K mg base (k + 1) "_law_lowest" ["_law_top", "_law_bottom"] spLowW := by
  refine .of F b m sc_L_lowest (fun vs H Q E h => ?_) (fun cdv A outer s H vs Q E hr h => ?_)
  · obtain ⟨t, b, rfl, t0, b0, b1, q⟩ := h; rfl
  obtain ⟨t, b, rfl, t0, b0, b1, q⟩ := h
  have nd := sc_L_lowest.nd
  refine ⟨_, pss_cons (ps_par (i := 2) (j := 3) rfl nd rfl rfl (by decide) rfl rfl (pa_cons (pv 0) (pa_cons (pv 1) pa_nil)) rfl)
    (pss_cons (ps_while PassesOwn.never (pt_cmpR op_gt (pv 3) pe_int (nomark _))
      (pss_one (ps_par (i := 2) (j := 3) rfl nd rfl rfl (by decide) rfl rfl (pa_cons (pv 3) (pa_cons (pe_op op_mod (pv 2) (pv 3)) pa_nil)) rfl)))
    (pss_one (ps_ret (pe_tup (pa_cons (pe_op op_fdivW (pv 0) (pe_callB (call_max2 rfl) (by rfl) M_max PyProof.Rows.boot_max (pa_cons pe_int (pa_cons (pv 2) pa_nil)))) (pa_cons (pe_op op_fdivW (pv 1) (pe_callB (call_max2 rfl) (by rfl) M_max PyProof.Rows.boot_max (pa_cons pe_int (pa_cons (pv 2) pa_nil)))) pa_nil)))))), ?_⟩
  refine ⟨_, rfl, _, rfl, _, _, rfl, while_by (fun σ H' => ∃ (u v : Nat), σ = [some (.int t), some (.int b), some (.int (u : Int)), some (.int (v : Int))] ∧ H' = H ∧ Nat.gcd u v = Nat.gcd t.toNat b.toNat)
    (fun σ _ => match σ with | [_, _, _, some (V.int r)] => r.toNat | _ => 0) ⟨t.toNat, b.toNat, ?_, rfl, rfl⟩ ?_ ?_⟩
  · have e1 : ((t.toNat : Nat) : Int) = t := by omega
    have e2 : ((b.toNat : Nat) : Int) = b := by omega
    rw [e1, e2]; rfl
  · rintro σ H' ⟨u, v, rfl, rfl, hg⟩
    refine ⟨_, rfl, _, _, rfl, rfl, _, rfl, ?_⟩
    refine ite2 (fun c => ?_) (fun c => ?_)
    · have c' : (0 : Int) < (v : Int) := of_decide_eq_true c
      refine ⟨_, rfl, _, rfl, _, rfl, _, _, rfl, rfl, c', _, _, rfl, ⟨v, u % v, rfl, rfl, by rw [gcd_step]; exact hg⟩, ?_⟩
      have := Nat.mod_lt u (show 0 < v by omega)
      exact this
    · have c' : ¬ (0 : Int) < (v : Int) := of_decide_eq_false (Bool.eq_false_iff.mpr c)
      have hy : v = 0 := by omega
      subst hy
      rw [Nat.gcd_zero_right] at hg
      have hx1 : (u : Int) = gcdF t b := by unfold gcdF; omega
      have hle := gcd_le (t := t) b0
      have hpos := gcd_pos (t := t) b0
      have hmax : (if (u : Int) > 1 then (u : Int) else 1) = gcdF t b := by split <;> omega
      have hb : Builtin.Int.intBits (gcdF t b) ≤ 9000 := intBits_le_of_natAbs (by omega) b1
      refine ⟨_, rfl, _, rfl, _, _, rfl, _, _, rfl, rfl, ⟨by rw [hmax]; exact hpos, by rw [hmax]; exact hb⟩, _, rfl, _, rfl, _, _, rfl, _, _, rfl, rfl, ⟨by rw [hmax]; exact hpos, by rw [hmax]; exact hb⟩, (by show 2 ≤ sizeLine; decide), fun p hp => ?_⟩
      rw [hmax]; exact q p hp
  · rintro σ H' Q Q' hm ⟨a, h1, b, c, h2, h3, d, h4, h5⟩
    exact ⟨a, h1, b, c, h2, h3, d, h4, hm _ _ h5⟩
abbrev n_L_ways : List Str := ["_law_n", "_law_some"]
theorem sc_L_ways : FnScope n_L_ways ["_law_n", "_law_some"] (defScope s_L_ways) := ⟨rfl, rfl, rfl, by decide +kernel, rfl, by decide +kernel, by decide +kernel⟩
theorem nd_L_ways_0 : (["_law_k", "_law_lot"] : List Str).Nodup := by decide +kernel
theorem nd_L_ways_1 : (["_law_lot", "_law_n", "_law_some"] : List Str).Nodup := by decide +kernel
theorem ok_L_ways (F : Fun K "_law_ways" "_law_ways" s_L_ways f fd) (b : Binds K fd ["_law_n", "_law_some"] []) (m : mg "_law_ways" = some (.ref f)) (M_range : mg "range" = none) (M_len : mg "len" = none)  : Dfn P w K mg base (k + 1) "_law_ways" ["_law_n", "_law_some"] spWays78 := by
  refine .of F b m sc_L_ways (fun vs H Q E h => ?_) (fun cdv A outer s H vs Q E hr h => ?_)
  · obtain ⟨n, c, rfl, n5, q⟩ := h; rfl
  obtain ⟨n, c, rfl, n5, q⟩ := h
  have nd := sc_L_ways.nd
  refine ⟨_, pss_one (ps_ret (pe_compC ["_law_lot"] [0, 1] (sc := defScope s_L_ways) (N := n_L_ways) (.inl rfl) rfl ⟨rfl, by decide +kernel, by decide +kernel, by decide +kernel, by decide +kernel⟩ rfl (pi_range1 rfl M_range (pa_cons (pe_op op_shl pe_int (pv 0)) pa_nil)) (fun cl s H C fp => (pg_name (i := 0) nd_L_ways_1 rfl (Or.inr rfl))) (fun cl s H C fp => pifs_one (pt_cmpR op_eq (pe_callB (len_seqK K rfl) (by rfl) M_len PySem.boot_len (pa_cons (pe_compC ["_law_k"] [0] (N := ["_law_lot", "_law_n", "_law_some"]) (.inr ⟨_, rfl⟩) rfl ⟨rfl, by decide +kernel, by decide +kernel, by decide +kernel, by decide +kernel⟩ rfl (pi_range1 rfl M_range (pa_cons (pv 1) pa_nil)) (fun cl s H C fp => (pg_name (i := 0) nd_L_ways_0 rfl (Or.inl rfl))) (fun cl s H C fp => pifs_one (pt_cmpR op_eq (pe_op op_and (pe_op op_shr (pv 1) (pv 0)) pe_int) pe_int (nomark _))) (fun cl s H C fp => (pv 0))) pa_nil)) (pv 2) (nomark _))) (fun cl s H C fp => (pv 0)))), ?_⟩
  have p5 := pow5 n5
  refine ⟨_, rfl, _, _, rfl, rfl, ⟨by omega, by omega, by decide⟩, _, rfl, ?_, ?_, ?_⟩
  · have := two_pow_nn ((n : Int).toNat); omega
  · rw [Int.toNat_natCast, Int.one_mul, pow_cast]; omega
  rw [Int.toNat_natCast, Int.one_mul, pow_cast, Int.toNat_natCast]
  refine compV_range (n := 2 ^ n) (fun x => decide (pc n x = c)) (fun x => .int (x : Int)) (by omega) (fun x H2 hx S => turn_pick (y := .int (x : Int)) (fun Q h => ⟨_, rfl, _, rfl, by omega, by omega, ?_⟩) (fun _ H3 S3 => .pure fun Q h => ⟨_, rfl, h⟩) fun _ _ _ => rfl) (fun r H2 hr0 S2 hr2 => ?_)
  · rw [Int.toNat_natCast]
    refine compV_range (n := n) (fun k => x.testBit k) (fun k => .int (k : Int)) (by omega) (fun k H3 hk S3 => turn_pick (y := .int (k : Int)) (.pure fun Q h => ⟨_, rfl, _, rfl, _, _, rfl, rfl, (by show (0 : Int) ≤ (k : Int); omega), _, _, rfl, rfl, rfl, _, rfl, (by rw [int_eq, Int.toNat_natCast, bitB]; exact h)⟩) (fun _ H4 S4 => .pure fun Q h => ⟨_, rfl, h⟩) fun _ _ _ => rfl) (fun acc H3 hacc S3 h0 => ⟨acc, _, rfl, .inl (SqL.of h0), _, rfl, rfl, _, rfl, ?_⟩)
    rw [int_eq, List.length_map]
    have e : (((((List.range n).filter fun k => x.testBit k).length : Nat) : Int) == (c : Int)) = decide (pc n x = c) := by
      rw [Bool.eq_iff_iff, beq_iff_eq, decide_eq_true_iff]
      unfold pc
      omega
    rw [e]
    exact h _ S3
  · refine q r H2 S2 hr0 ?_
    rw [hr2]
    unfold nI lotsW
    rw [List.map_map]; rfl
abbrev n_L_dealt : List Str := ["_law_n", "_law_counts", "_law_tally", "_law_some", "_law_wider", "_law_held", "_law_lot"]
theorem sc_L_dealt : FnScope n_L_dealt ["_law_n", "_law_counts"] (defScope s_L_dealt) := ⟨rfl, rfl, rfl, by decide +kernel, rfl, by decide +kernel, by decide +kernel⟩
set_option maxHeartbeats 2000000 in
theorem ok_L_dealt (F : Fun K "_law_dealt" "_law_dealt" s_L_dealt f fd) (b : Binds K fd ["_law_n", "_law_counts"] []) (m : mg "_law_dealt" = some (.ref f))  (G_L_ways : Dfn P w K mg base k "_law_ways" ["_law_n", "_law_some"] spWays78) : Dfn P w K mg base (k + 1) "_law_dealt" ["_law_n", "_law_counts"] (spDealt78 K) := by
  refine .of F b m sc_L_dealt (fun vs H Q E h => ?_) (fun cdv A outer s H vs Q E hr h => ?_)
  · obtain ⟨c, n, cs, rfl, n5, hC, q⟩ := h; rfl
  obtain ⟨c, n, cs, rfl, n5, hC, q⟩ := h
  have nd := sc_L_dealt.nd
  have le := Nat.le_refl k
  refine ⟨_, pss_cons (ps_set (i := 2) nd rfl (Or.inl rfl) (pe_disp (pps_cons (pe_op op_sub (pe_op op_shl pe_int (pv 0)) pe_int) pe_int pps_nil) rfl rfl (by simp) (by decide)))
    (pss_cons (ps_for PassesOwn.never rfl (pi_list (pv 1)) (pg_name (i := 3) nd rfl (Or.inl rfl))
      (pss_cons (ps_set (i := 4) nd rfl (Or.inl rfl) pe_dnewK)
      (pss_cons (ps_for PassesOwn.never rfl (pi_dict (pv 2)) (pg_name (i := 5) nd rfl (Or.inl rfl))
        (pss_one (ps_for PassesOwn.never rfl (pi_list (pe_def G_L_ways hr le rfl (pa_cons (pv 0) (pa_cons (pv 3) pa_nil)))) (pg_name (i := 6) nd rfl (Or.inl rfl))
          (pss_one (ps_dput (hu_of hr) (pv 4) (pe_op op_and (pv 5) (pv 6)) (pe_op op_add (pe_dget2 (hu_of hr) (pv 4) (pe_op op_and (pv 5) (pv 6)) pe_int ⟨rfl, rfl, rfl, rfl⟩) (pe_dget (hu_of hr) (pv 2) (pv 5) (fun _ _ => rfl))) rfl)))))
      (pss_one (ps_set (i := 2) nd rfl (Or.inl rfl) (pv 4))))))
    (pss_one (ps_ret (pv 2)))), ?_⟩
  have p5 := pow5 n5
  refine fun d hd0 => ⟨_, rfl, _, _, rfl, rfl, ⟨by omega, by omega, by decide⟩, _, _, rfl, rfl, upd_same, [(.inl ((2 : Int) ^ n - 1), .int 1)], (by rw [Int.toNat_natCast, Int.one_mul]; rfl), (by show 1 ≤ 15; decide), ?_⟩
  have hd1 : upd (upd H d (.dK [])) d (.dK (mergeK [] [(.inl ((2 : Int) ^ n - 1), .int 1)])) d = some (.dK (tabR [((2 : Int) ^ n - 1, 1)])) := upd_same
  have S1 : Same H (upd (upd H d (.dK [])) d (.dK (mergeK [] [(.inl ((2 : Int) ^ n - 1), .int 1)]))) := fun b o hb => by
    have ne := ne_of_none hb hd0
    rw [upd_ne ne, upd_ne ne]; exact hb
  generalize upd (upd H d (.dK [])) d (.dK (mergeK [] [(.inl ((2 : Int) ^ n - 1), .int 1)])) = H1 at hd1 S1 ⊢
  dsimp only
  refine ⟨_, rfl, c, rfl, ⟨_, S1.seq hC⟩, for_list (xs := (nI cs).map V.int) (fun i σ H' => ∃ (d : Addr) (rs : List (Int × Int)) (z3 z4 z5 z6 : Option V), σ = [some (.int (n : Int)), some (.ref c), some (.ref d), z3, z4, z5, z6] ∧ Same H H' ∧ H d = none ∧ H' d = some (.dK (tabR rs)) ∧ Tal n (cs.take i).reverse rs) ⟨d, _, _, _, _, _, rfl, S1, hd0, hd1, tal_init n⟩ (fun i σ H' _ h => by obtain ⟨_, _, _, _, _, _, _, S, _⟩ := h; exact S.seq hC) ?_ ?_⟩
  rotate_left
  · rintro σ H' ⟨d, rs, z3, z4, z5, z6, rfl, S, hd0, hd, T⟩
    rw [List.length_map, nI_len, List.take_length] at T
    exact ⟨_, rfl, q d rs H' S hd0 hd T⟩
  rintro i v σ H2 hv ⟨d, rs, z3, z4, z5, z6, rfl, S2, hd0, hd2, T⟩
  obtain ⟨c', hc', rfl⟩ := nI_get hv
  dsimp only [gName]
  intro w hw0
  have hwH : H w = none := S2.free hw0
  have wd : w ≠ d := fun e => by rw [e, hd2] at hw0; cases hw0
  have S3 := same_new hw0 (.dK [])
  have hd3 := S3 _ _ hd2
  have hw3 : upd H2 w (.dK []) w = some (.dK (tabR [])) := upd_same
  have S3 := S2.trans S3
  generalize upd H2 w (.dK []) = H3 at hd3 hw3 S3 ⊢
  dsimp only
  refine ⟨_, rfl, d, tabR rs, rfl, hd3, fun o => ?_⟩
  have hd4 : upd H3 d (.frz o (.dK (tabR rs))) d = some (.frz o (.dK (tabR rs))) := upd_same
  have hw4 : upd H3 d (.frz o (.dK (tabR rs))) w = some (.dK (tabR [])) := by rw [upd_ne wd]; exact hw3
  have S4 : Same H (upd H3 d (.frz o (.dK (tabR rs)))) := fun b x hb => by rw [upd_ne (ne_of_none hb hd0)]; exact S3 b x hb
  generalize upd H3 d (.frz o (.dK (tabR rs))) = H4 at hd4 hw4 S4 ⊢
  have tl : (tabR rs).length = rs.length := by unfold tabR; rw [List.length_map]
  refine for_dict (kvs := tabR rs) (fun j σ H' => ∃ (ws : List (Int × Int)) (z5 z6 : Option V), σ = [some (.int (n : Int)), some (.ref c), some (.ref d), some (.int (c' : Int)), some (.ref w), z5, z6] ∧ Same H H' ∧ H' d = some (.frz o (.dK (tabR rs))) ∧ H' w = some (.dK (tabR ws)) ∧ (ws.map Prod.fst).Nodup ∧ (∀ r ∈ ws, ∃ x : Nat, r.1 = (x : Int) ∧ x < 2 ^ n ∧ ∀ e ∈ c' :: (cs.take i).reverse, pc n x ≤ e) ∧ ∀ t, Wt (eqT n t) ws = ((rs.take j).map fun r => r.2 * Ct n r.1.toNat c' t).sum) ⟨[], _, _, rfl, S4, hd4, hw4, by simp, (fun r hr => nomatch hr), fun t => rfl⟩ (fun j σ H' _ h => by obtain ⟨_, _, _, _, _, h, _⟩ := h; exact h) ?_ ?_
  · rintro j k v σ H5 hkv ⟨ws, z5, z6, rfl, S5, hd5, hw5, nd5, key5, cnt5⟩
    obtain ⟨r, hr, rfl, rfl⟩ := tab_at hkv
    have hrm := List.mem_of_getElem? hr
    obtain ⟨x, ex, hx, hxc⟩ := T.key r hrm
    dsimp only [gName]
    refine ⟨_, rfl, _, rfl, n, c', rfl, n5, fun l H6 S6 hl0 hl6 => ⟨l, rfl, ⟨_, SqL.of hl6⟩, ?_⟩⟩
    have wl : l ≠ w := fun e => by rw [e, hw5] at hl0; cases hl0
    have ll := lots_len n c'
    refine for_list (xs := (nI (lotsW n c')).map V.int) (fun jj σ H' => ∃ (ws : List (Int × Int)) (z6 : Option V), σ = [some (.int (n : Int)), some (.ref c), some (.ref d), some (.int (c' : Int)), some (.ref w), some (.int r.1), z6] ∧ Same H H' ∧ H' d = some (.frz o (.dK (tabR rs))) ∧ H' l = some (.lst ((nI (lotsW n c')).map V.int)) ∧ H' w = some (.dK (tabR ws)) ∧ (ws.map Prod.fst).Nodup ∧ (∀ r ∈ ws, ∃ x : Nat, r.1 = (x : Int) ∧ x < 2 ^ n ∧ ∀ e ∈ c' :: (cs.take i).reverse, pc n x ≤ e) ∧ ∀ t, Wt (eqT n t) ws = ((rs.take j).map fun r => r.2 * Ct n r.1.toNat c' t).sum + r.2 * (((lotsW n c').take jj).map fun y => eqT n t ((x &&& y : Nat) : Int)).sum) ⟨ws, _, rfl, S5.trans S6, S6 _ _ hd5, hl6, S6 _ _ hw5, nd5, key5, fun t => by rw [cnt5 t, List.take_zero]; show _ = _ + r.2 * 0; rw [Int.mul_zero, Int.add_zero]⟩ (fun jj σ H' _ h => by obtain ⟨_, _, _, _, _, h, _⟩ := h; exact SqL.of h) ?_ ?_
    · rintro jj v σ H7 hv7 ⟨ws7, z6', rfl, S7, hd7, hl7, hw7, nd7, key7, cnt7⟩
      obtain ⟨y, hy, rfl⟩ := nI_get hv7
      obtain ⟨hy2, hyc⟩ := lots_mem (List.mem_of_getElem? hy)
      have w32 : ws7.length ≤ 2 ^ n := keys_len nd7 fun r hr => by obtain ⟨x, e, h, _⟩ := key7 r hr; exact ⟨x, e, h⟩
      have ea : Builtin.bitAnd r.1 (y : Int) = ((x &&& y : Nat) : Int) := by rw [ex, and_nat']
      dsimp only [gName]
      refine ⟨_, rfl, w, rfl, .inl ⟨_, .inl hw7⟩, _, rfl, _, rfl, _, _, rfl, rfl, _, .inl ⟨_, .inl _, .inl hw7, rfl, rfl⟩, _, rfl, _, rfl, d, _, rfl, .inl ⟨_, .inl r.1, .inr ⟨o, hd7⟩, rfl, (tab_val T.nd hrm).symm⟩, _, _, num_getD ws7 _, rfl, _, rfl, _, rfl, _, rfl, _, _, rfl, rfl, w, _, rfl, .inl ⟨_, .inl _, hw7, rfl, (by unfold tabR; rw [List.length_map]; exact small1000 (by omega)), rfl⟩, ?_⟩
      rw [put_plus nd7, ea]
      refine ⟨plusR ws7 ((x &&& y : Nat) : Int) r.2, some (.int (y : Int)), rfl, fun b o' hb => ?_, ?_, ?_, upd_same, plus_nodup nd7 _ _, fun r' hr' => ?_, fun t => ?_⟩
      · rw [upd_ne (ne_of_none hb hwH)]; exact S7 b o' hb
      · rw [upd_ne wd.symm]; exact hd7
      · rw [upd_ne wl]; exact hl7
      · rcases plus_keys hr' with e | ⟨q', hq', e⟩
        · refine ⟨x &&& y, e, Nat.and_lt_two_pow x hy2, fun e' he' => ?_⟩
          rcases List.mem_cons.mp he' with rfl | he'
          · rw [← hyc]; exact pc_and_le n x y
          · exact Nat.le_trans (pc_and_le' n x y) (hxc e' he')
        · rw [← e]; exact key7 q' hq'
      · rw [wt_pluss nd7, cnt7 t, take_snoc hy, List.map_append, List.map_cons, List.map_nil, sum_snoc', Int.mul_add, Int.add_assoc]
    · rintro σ H7 ⟨ws7, z6', rfl, S7, hd7, hl7, hw7, nd7, key7, cnt7⟩
      refine ⟨ws7, _, _, rfl, S7, hd7, hw7, nd7, key7, fun t => ?_⟩
      rw [cnt7 t, List.length_map, nI_len, List.take_length, lots_ct, take_snoc hr, List.map_append]
      show _ = (_ ++ [r.2 * Ct n r.1.toNat c' t]).sum
      rw [sum_snoc', ex, Int.toNat_natCast]
  · rintro σ H5 ⟨ws, z5', z6', rfl, S5, hd5, hw5, nd5, key5, cnt5⟩
    refine ⟨_, rfl, w, ws, _, _, _, _, rfl, S5, hwH, hw5, ?_⟩
    rw [take_snoc hc', List.reverse_append]
    exact tal_step T nd5 key5 fun t => by rw [cnt5 t, tl, List.take_length]
end
end OL.Q78

namespace OL.Q78
open PySem L2 OL
section
variable {P : Program} {w : World} {K : PySem.W.Frag} {mg : Str → Option Value} {base : Heap} {f : Addr} {fd : FuncData} {k : Nat}
abbrev n_law : List Str := ["_law_script", "_law_draws_here", "_law_turn", "_law_n", "_law_counts", "_law_kept", "_law_tally", "_law_whole", "_law_due", "_law_held", "_law_t", "_law_middle"]
theorem sc_law : FnScope n_law ["_law_script"] (defScope s_law) := ⟨rfl, rfl, rfl, by decide +kernel, rfl, by decide +kernel, by decide +kernel⟩
theorem nd_law_0 : (["_law_k", "_law_draws_here", "_law_n"] : List Str).Nodup := by decide +kernel
theorem nd_law_1 : (["_law_held", "_law_tally"] : List Str).Nodup := by decide +kernel
theorem nd_law_2 : (["_law_t"] : List Str).Nodup := by decide +kernel
theorem nd_law_3 : (["_law_k", "_law_held"] : List Str).Nodup := by decide +kernel
theorem nd_law_4 : (["_law_some", "_law_whole"] : List Str).Nodup := by decide +kernel
theorem nd_law_5 : (["_law_t", "_law_due"] : List Str).Nodup := by decide +kernel
open Dl
set_option maxHeartbeats 6000000 in
theorem ok_law (F : Fun K "law" "law" s_law f fd) (M_range : mg "range" = none) (M_list : mg "list" = none) (M_sum : mg "sum" = none) (M_min : mg "min" = none) (M_len : mg "len" = none) (M_str : mg "str" = none) (G_L_draws : Dfn P w K mg base k "_law_draws" ["_law_script", "_law_turn", "_law_many"] (spDr K)) (G_L_pop : Dfn P w K mg base k "_law_pop" ["_law_draws_here"] spPop) (G_L_dealt : Dfn P w K mg base k "_law_dealt" ["_law_n", "_law_counts"] (spDealt78 K)) (G_together : Dfn P w K mg base k "together" ["n", "counts"] (spTog79 K)) (G_L_lowest : Dfn P w K mg base k "_law_lowest" ["_law_top", "_law_bottom"] spLowW) (G_mean : Dfn P w K mg base k "mean" ["n", "counts"] (spMean79 K)) : FnOk P w K mg base CX0 (k + 1) f fd ["_law_script"] (spLaw K) := by
  refine F.ok sc_law (fun vs H Q E h => ?_) (fun cdv A outer s H vs Q E hr h => ?_)
  · obtain ⟨a, ns, rfl, hS, h63, q⟩ := h; rfl
  obtain ⟨a, ns, rfl, hS, h63, q⟩ := h
  have nd := sc_law.nd
  have le := Nat.le_refl k
  refine ⟨_, pss_cons (ps_set (i := 1) nd rfl (Or.inr rfl) (pe_def G_L_draws hr le rfl (pa_cons (pv 0) (pa_cons pe_int (pa_cons pe_int pa_nil)))))
    (pss_cons (ps_for PassesOwn.never rfl (pi_range1 rfl M_range (pa_cons pe_int pa_nil)) (pg_name (i := 2) nd rfl (Or.inl rfl))
      (pss_cons (ps_set (i := 3) nd rfl (Or.inr rfl) (pe_op op_mod (pe_def G_L_pop hr le rfl (pa_cons (pv 1) pa_nil)) pe_int))
      (pss_cons (ps_setCompC (i := 4) nd rfl rfl ["_law_k"] [1, 3] (sc := defScope s_law) (N := n_law) (.inl rfl) rfl ⟨rfl, by decide +kernel, by decide +kernel, by decide +kernel, by decide +kernel⟩ rfl (pi_range1 rfl M_range (pa_cons (pe_op op_add pe_int (pe_op op_mod (pe_def G_L_pop hr le rfl (pa_cons (pv 1) pa_nil)) (pe_ix ix_list (pe_lst (pa_cons pe_int (pa_cons pe_int (pa_cons pe_int pa_nil)))) (pe_op op_mod (pe_def G_L_pop hr le rfl (pa_cons (pv 1) pa_nil)) pe_int) (fun _ _ => rfl)))) pa_nil)) (fun cl s H C fp => (pg_name (i := 0) nd_law_0 rfl (Or.inl rfl))) (fun cl s H C fp => pifs_nil) (fun cl s H C fp => (pe_op op_mod (pe_def G_L_pop hr le rfl (pa_cons (pv 1) pa_nil)) (pe_op op_add (pv 2) pe_int))) rfl)
      (pss_cons (ps_set (i := 5) nd rfl (Or.inl rfl) (pe_callTy call_list_of (by rfl) M_list PyProof.Rows.boot_list (pa_cons (pv 4) pa_nil)))
      (pss_cons (ps_set (i := 6) nd rfl (Or.inr rfl) (pe_def G_L_dealt hr le rfl (pa_cons (pv 3) (pa_cons (pv 4) pa_nil))))
      (pss_cons (ps_set (i := 7) nd rfl (Or.inr rfl) (pe_callB (call_sumI rfl) (by rfl) M_sum PyProof.Rows.boot_sum (pa_cons (pe_thaw (pe_compC ["_law_held"] [6] (sc := defScope s_law) (N := n_law) (.inl rfl) rfl ⟨rfl, by decide +kernel, by decide +kernel, by decide +kernel, by decide +kernel⟩ rfl (pi_dict (pv 6)) (fun cl s H C fp => (pg_name (i := 0) nd_law_1 rfl (Or.inl rfl))) (fun cl s H C fp => pifs_nil) (fun cl s H C fp => (pe_dget (hu_of hr) (pv 1) (pv 0) (fun _ _ => rfl))))) pa_nil)))
      (pss_cons (ps_set (i := 8) nd rfl (Or.inr rfl) (pe_compC ["_law_t"] [] (sc := defScope s_law) (N := n_law) (.inl rfl) rfl ⟨rfl, by decide +kernel, by decide +kernel, by decide +kernel, by decide +kernel⟩ rfl (pi_range1 rfl M_range (pa_cons (pe_op op_add (pe_callB (call_minL rfl) (by rfl) M_min PyProof.Rows.boot_min (pa_cons (pv 4) pa_nil)) pe_int) pa_nil)) (fun cl s H C fp => (pg_name (i := 0) nd_law_2 rfl (Or.inl rfl))) (fun cl s H C fp => pifs_nil) (fun cl s H C fp => pe_int)))
      (pss_cons (ps_for PassesOwn.never rfl (pi_dict (pv 6)) (pg_name (i := 9) nd rfl (Or.inr rfl))
        (pss_cons (ps_set (i := 10) nd rfl (Or.inl rfl) (pe_callB call_len_seq (by rfl) M_len PySem.boot_len (pa_cons (pe_compC ["_law_k"] [9] (sc := defScope s_law) (N := n_law) (.inl rfl) rfl ⟨rfl, by decide +kernel, by decide +kernel, by decide +kernel, by decide +kernel⟩ rfl (pi_range1 rfl M_range (pa_cons (pv 3) pa_nil)) (fun cl s H C fp => (pg_name (i := 0) nd_law_3 rfl (Or.inl rfl))) (fun cl s H C fp => pifs_one (pt_cmpR op_eq (pe_op op_and (pe_op op_shr (pv 1) (pv 0)) pe_int) pe_int (nomark _))) (fun cl s H C fp => (pv 0))) pa_nil)))
        (pss_one (ps_asg (pe_op op_add (pe_ix ix_list (pv 8) (pv 10) (fun _ _ => rfl)) (pe_dget (hu_of hr) (pv 6) (pv 9) (fun _ _ => rfl))) (pg_sub (pv 8) (pv 10) set_list)))))
      (pss_cons (ps_if (PW.pt (pw_or (pt_cmpR op_ne (pe_callTy (call_strD hr) (by rfl) M_str PyProof.Rows.boot_str (pa_cons (pe_def G_together hr le rfl (pa_cons (pv 3) (pa_cons (pv 4) pa_nil))) pa_nil)) (pe_callTy (call_strD hr) (by rfl) M_str PyProof.Rows.boot_str (pa_cons (pe_compC ["_law_some"] [7] (sc := defScope s_law) (N := n_law) (.inl rfl) rfl ⟨rfl, by decide +kernel, by decide +kernel, by decide +kernel, by decide +kernel⟩ rfl (pi_list (pv 8)) (fun cl s H C fp => (pg_name (i := 0) nd_law_4 rfl (Or.inl rfl))) (fun cl s H C fp => pifs_nil) (fun cl s H C fp => (pe_def G_L_lowest hr le rfl (pa_cons (pv 0) (pa_cons (pv 1) pa_nil))))) pa_nil)) (nomark _)) (pw_or1 (pt_cmpR (op_neD hr) (pv 4) (pv 5) (nomark _))))) (pss_one (ps_ret pe_bl)) pss_nil)
      (pss_cons (ps_set (i := 11) nd rfl (Or.inl rfl) (pe_callB (call_sumI rfl) (by rfl) M_sum PyProof.Rows.boot_sum (pa_cons (pe_compC ["_law_t"] [8] (sc := defScope s_law) (N := n_law) (.inl rfl) rfl ⟨rfl, by decide +kernel, by decide +kernel, by decide +kernel, by decide +kernel⟩ rfl (pi_range1 rfl M_range (pa_cons (pe_callB call_len_seq (by rfl) M_len PySem.boot_len (pa_cons (pv 8) pa_nil)) pa_nil)) (fun cl s H C fp => (pg_name (i := 0) nd_law_5 rfl (Or.inl rfl))) (fun cl s H C fp => pifs_nil) (fun cl s H C fp => (pe_op op_mul (pv 0) (pe_ix (ix_listK K rfl) (pv 1) (pv 0) (fun _ _ => rfl))))) pa_nil)))
      (pss_one (ps_if (PW.pt (pw_or (pt_cmpR op_ne (pe_callTy (call_strD hr) (by rfl) M_str PyProof.Rows.boot_str (pa_cons (pe_def G_mean hr le rfl (pa_cons (pv 3) (pa_cons (pv 4) pa_nil))) pa_nil)) (pe_callTy (call_strD hr) (by rfl) M_str PyProof.Rows.boot_str (pa_cons (pe_def G_L_lowest hr le rfl (pa_cons (pv 11) (pa_cons (pv 7) pa_nil))) pa_nil)) (nomark _)) (pw_or1 (pt_cmpR (op_neD hr) (pv 4) (pv 5) (nomark _))))) (pss_one (ps_ret pe_bl)) pss_nil))))))))))))
    (pss_one (ps_ret pe_bl))), ?_⟩
  refine ⟨_, rfl, a, ns, 1, 30, rfl, hS, h63, by decide, by decide, by decide, by decide, fun dr ds H1 S1 hdr0 hdr hd31 => ?_⟩
  dsimp only
  refine ⟨3, rfl, by decide, by decide, for_range (n := 3) (fun i σ H' => ∃ (ds : List Int) (z2 z3 z4 z5 z6 z7 z8 z9 z10 z11 : Option V), σ = [some (.ref a), some (.ref dr), z2, z3, z4, z5, z6, z7, z8, z9, z10, z11] ∧ H' dr = some (.lst (ds.map V.int)) ∧ D31 ds) ⟨ds, _, _, _, _, _, _, _, _, _, _, rfl, hdr, hd31⟩ ?_ ?_⟩
  rotate_left
  · rintro σ H' ⟨ds, z2, z3, z4, z5, z6, z7, z8, z9, z10, z11, rfl, _, _⟩
    exact q H'
  clear hdr hd31 ds
  rintro i σ H1 hi ⟨ds, z2, z3, z4, z5, z6, z7, z8, z9, z10, z11, rfl, hdr, hd31⟩
  dsimp only [gName]
  refine ⟨_, rfl, dr, ds, rfl, hdr, hd31, fun d1 ds1 H2 d10 d11 SB2 hdr2 hd2 => ⟨_, _, rfl, rfl, (by show (0 : Int) < 6; decide), ?_⟩⟩
  obtain ⟨n, hn⟩ : ∃ n : Nat, d1 % 6 = (n : Int) := ⟨(d1 % 6).toNat, by omega⟩
  have n5 : n ≤ 5 := by omega
  have p5 := pow5 n5
  dsimp only [gName]
  rw [hn]
  refine ⟨_, rfl, dr, ds1, rfl, hdr2, hd2, fun d2 ds2 H3 d20 d21 SB3 hdr3 hd3 => ⟨(by show 3 ≤ sizeLine; decide), fun l3 hl3 => ⟨_, rfl, dr, ds2, rfl, same_new hl3 _ _ _ hdr3, hd3, fun d3 ds3 H4 d30 d31 SB4 hdr4 hd4 => ?_⟩⟩⟩
  have l3dr : l3 ≠ dr := fun e => by rw [e, hdr3] at hl3; cases hl3
  obtain ⟨f3, ef3, hf3⟩ := three_any 3 3 4 d3
  have f3b : 0 < f3 ∧ f3 ≤ 4 := by omega
  have fm0 := Int.emod_nonneg d2 (show f3 ≠ 0 by omega)
  have fm1 := Int.emod_lt_of_pos d2 f3b.1
  refine ⟨_, _, rfl, rfl, (by show (0 : Int) < 3; decide), l3, _, _, _, rfl, rfl, SqL.of (SB4 _ _ l3dr upd_same), ef3, _, _, rfl, rfl, f3b.1, _, _, rfl, rfl, _, rfl, by omega, by omega, ?_⟩
  obtain ⟨N, hN0⟩ : ∃ N : Nat, (1 + d2 % f3).toNat = N := ⟨_, rfl⟩
  have N1 : 1 ≤ N ∧ N ≤ 4 := by omega
  rw [hN0]
  refine comp_rangeG (n := N) (fun acc i ys H' => ∃ (cs : List Nat) (es : List Int), ys = (nI cs).map V.int ∧ cs.length = i ∧ (∀ x ∈ cs, x ≤ n) ∧ H' dr = some (.lst (es.map V.int)) ∧ D31 es) (fun acc hacc => ⟨[], ds3, rfl, rfl, (fun x hx => nomatch hx), same_new hacc _ _ _ hdr4, hd4⟩) (fun acc i ys H' hacc hi hys h => ?_) (fun c ys H5 hc0 hc5 h => ?_)
  · obtain ⟨cs, es, rfl, hgl, hin, hl', he⟩ := h
    have accl : acc ≠ dr := fun e => by rw [e, hdr4] at hacc; cases hacc
    refine ⟨(Wk.refl _).set (by decide), yes_of ⟨_, rfl, dr, es, rfl, hl', he, fun d es2 H2' d0 d1 SB2' hl2' he2 => ⟨_, rfl, _, _, rfl, rfl, _, _, rfl, rfl, (by show (0 : Int) < (n : Int) + 1; omega), ?_⟩⟩⟩
    have m0 := Int.emod_nonneg d (show (n : Int) + 1 ≠ 0 by omega)
    have m1 := Int.emod_lt_of_pos d (show (0 : Int) < (n : Int) + 1 by omega)
    obtain ⟨k, hk⟩ : ∃ k : Nat, d % ((n : Int) + 1) = (k : Int) := ⟨(d % ((n : Int) + 1)).toNat, by omega⟩
    dsimp only
    rw [hk]
    refine cputG hi (SB2' _ _ accl hys) (by rw [List.length_map, nI_len]; exact small1000 (by omega)) ⟨cs ++ [k], es2, by rw [nI_app, List.map_append]; rfl, by rw [List.length_append, hgl]; rfl, fun x hx => ?_, ?_, he2⟩
    · rcases List.mem_append.mp hx with z | z
      · exact hin x z
      · rw [List.mem_singleton.mp z]; omega
    · rw [upd_ne (Ne.symm accl)]; exact hl2'
  obtain ⟨cs, es, rfl, hlen, hle, hdr5, hd5⟩ := h
  have cdr : c ≠ dr := fun e => by rw [e, hdr4] at hc0; cases hc0
  obtain ⟨m', hmin⟩ := exists_min (cs := cs) (fun e => by rw [e] at hlen; have : (0 : Nat) = N := hlen; omega)
  have h5 : cs.length ≤ 5 := by omega
  have hN : Cnt n m' cs := ⟨by omega, hmin, hle, by omega⟩
  have hmn := hN.mn
  have c0 : 0 < (nI cs).length := by rw [nI_len]; omega
  dsimp only
  refine ⟨_, rfl, c, _, rfl, .inl (SqL.of hc5), fun kp hkp => ?_⟩
  have S6 := same_new hkp (.lst ((nI cs).map V.int))
  have hkp6 : upd H5 kp (.lst ((nI cs).map V.int)) kp = some (.lst ((nI cs).map V.int)) := upd_same
  generalize upd H5 kp (.lst ((nI cs).map V.int)) = H6 at S6 hkp6 ⊢
  have hc6 := S6 _ _ hc5
  have hdr6 := S6 _ _ hdr5
  dsimp only
  refine ⟨_, rfl, _, rfl, c, n, cs, rfl, n5, SqL.of hc6, fun d rs H7 S7 hd0 hd7 T => ?_⟩
  have hc7 := S7 _ _ hc6
  have hdr7 := S7 _ _ hdr6
  have hkp7 := S7 _ _ hkp6
  have cd : c ≠ d := fun e => by rw [← e, hc6] at hd0; cases hd0
  have drd : dr ≠ d := fun e => by rw [← e, hdr6] at hd0; cases hd0
  have kpd : kp ≠ d := fun e => by rw [← e, hkp6] at hd0; cases hd0
  have tl : (tabR rs).length = rs.length := by unfold tabR; rw [List.length_map]
  have r32 : rs.length ≤ 2 ^ n := keys_len T.nd fun r hr => by obtain ⟨x, e, h, _⟩ := T.key r hr; exact ⟨x, e, h⟩
  have ew : (rs.map Prod.snd).sum = al n cs := by rw [tal_whole T, al_rev]
  dsimp only
  refine ⟨d, by rw [hd7]; exact True.intro, _, rfl, d, tabR rs, rfl, hd7, fun o => ?_⟩
  have hd8 : upd H7 d (.frz o (.dK (tabR rs))) d = some (.frz o (.dK (tabR rs))) := upd_same
  have hc8 : upd H7 d (.frz o (.dK (tabR rs))) c = _ := (upd_ne cd).trans hc7
  have hdr8 : upd H7 d (.frz o (.dK (tabR rs))) dr = _ := (upd_ne drd).trans hdr7
  have hkp8 : upd H7 d (.frz o (.dK (tabR rs))) kp = _ := (upd_ne kpd).trans hkp7
  generalize upd H7 d (.frz o (.dK (tabR rs))) = H8 at hd8 hc8 hdr8 hkp8 ⊢
  refine comp_dictG hd8 (fun acc j ys H' => Same H8 H' ∧ ys = ((rs.take j).map Prod.snd).map V.int) (fun _ _ _ _ h => h.1) (fun acc hacc => ⟨same_new hacc _, rfl⟩) (fun acc j k v ys H' hacc hj hk hy h => ?_) (fun acc ys H9 hacc hy h => ?_)
  · obtain ⟨S, rfl⟩ := h
    obtain ⟨r, hr, rfl, rfl⟩ := tab_at hk
    refine ⟨(Wk.refl _).set (by decide), yes_of ⟨_, rfl, _, rfl, d, _, rfl, .inl ⟨_, .inl r.1, .inr ⟨o, S _ _ hd8⟩, rfl, (tab_val T.nd (List.mem_of_getElem? hr)).symm⟩, cputG hj hy (by rw [List.length_map, List.length_map, List.length_take]; exact small1000 (by omega)) ⟨fun b o' hb => ?_, ?_⟩⟩⟩
    · rw [upd_ne (ne_of_none hb hacc)]; exact S b o' hb
    · rw [take_snoc hr, List.map_append, List.map_append]; rfl
  obtain ⟨S9, rfl⟩ := h
  rw [tl, List.take_length] at hy
  have accd : acc ≠ d := fun e => by rw [e, hd8] at hacc; cases hacc
  refine ⟨o, .dK (tabR rs), S9 _ _ hd8, acc, rs.map Prod.snd, rfl, SqL.of (by rw [upd_ne accd]; exact hy), ?_⟩
  rw [ew]
  have hd10 : upd H9 d (.dK (tabR rs)) d = some (.dK (tabR rs)) := upd_same
  have hc10 : upd H9 d (.dK (tabR rs)) c = _ := (upd_ne cd).trans (S9 _ _ hc8)
  have hdr10 : upd H9 d (.dK (tabR rs)) dr = _ := (upd_ne drd).trans (S9 _ _ hdr8)
  have hkp10 : upd H9 d (.dK (tabR rs)) kp = _ := (upd_ne kpd).trans (S9 _ _ hkp8)
  generalize upd H9 d (.dK (tabR rs)) = H10 at hd10 hc10 hdr10 hkp10 ⊢
  dsimp only
  refine ⟨_, rfl, c, nI cs, rfl, SqL.of hc10, c0, fun k hk hk2 => ?_⟩
  have ek := min_is hmin hk hk2
  subst ek
  refine ⟨_, _, rfl, rfl, _, rfl, by omega, by omega, ?_⟩
  rw [show ((m' : Int) + 1).toNat = m' + 1 by omega]
  refine compV_range (n := m' + 1) (fun _ => true) (fun _ => .int 0) (by omega) (fun x H11 hx S => turn_pick (y := .int 0) look_yes (fun _ H12 S12 => .pure fun Q h => h) fun _ _ _ => rfl) (fun du H11 hdu0 S11 hdu => ?_)
  rw [filter_true] at hdu
  have hdu11 : H11 du = some (.lst ((dueL n m' (rs.take 0)).map V.int)) := by rw [hdu, List.take_zero]; unfold dueL; rw [List.map_map]; rfl
  have cdu : c ≠ du := fun e => by rw [← e, hc10] at hdu0; cases hdu0
  have drdu : dr ≠ du := fun e => by rw [← e, hdr10] at hdu0; cases hdu0
  have kpdu : kp ≠ du := fun e => by rw [← e, hkp10] at hdu0; cases hdu0
  have ddu : d ≠ du := fun e => by rw [← e, hd10] at hdu0; cases hdu0
  have hd11 := S11 _ _ hd10
  have hc11 := S11 _ _ hc10
  have hdr11 := S11 _ _ hdr10
  have hkp11 := S11 _ _ hkp10
  dsimp only
  refine ⟨_, rfl, d, tabR rs, rfl, hd11, fun o2 => ?_⟩
  have hd12 : upd H11 d (.frz o2 (.dK (tabR rs))) d = some (.frz o2 (.dK (tabR rs))) := upd_same
  have hc12 : upd H11 d (.frz o2 (.dK (tabR rs))) c = _ := (upd_ne cd).trans hc11
  have hdr12 : upd H11 d (.frz o2 (.dK (tabR rs))) dr = _ := (upd_ne drd).trans hdr11
  have hkp12 : upd H11 d (.frz o2 (.dK (tabR rs))) kp = _ := (upd_ne kpd).trans hkp11
  have hdu12 : upd H11 d (.frz o2 (.dK (tabR rs))) du = _ := (upd_ne ddu.symm).trans hdu11
  generalize upd H11 d (.frz o2 (.dK (tabR rs))) = H12 at hd12 hc12 hdr12 hkp12 hdu12 ⊢
  refine for_dict (kvs := tabR rs) (fun j σ H' => ∃ (z9 z10 : Option V), σ = [some (.ref a), some (.ref dr), some (.int (0 + (i : Int))), some (.int (n : Int)), some (.ref c), some (.ref kp), some (.ref d), some (.int (al n cs)), some (.ref du), z9, z10, z11] ∧ SameB du H12 H' ∧ H' du = some (.lst ((dueL n m' (rs.take j)).map V.int))) ⟨_, _, rfl, (Same.refl _).b, hdu12⟩ (fun j σ H' _ h => by obtain ⟨_, _, _, S, _⟩ := h; exact S _ _ ddu hd12) ?_ ?_
  · rintro j k v σ H13 hkv ⟨z9', z10', rfl, SB13, hdu13⟩
    obtain ⟨r, hr, rfl, rfl⟩ := tab_at hkv
    have hrm := List.mem_of_getElem? hr
    obtain ⟨x, ex, hx, hxc⟩ := T.key r hrm
    have hv := tab_val T.nd hrm
    rw [ex] at hv
    have hpm : pc n x ≤ m' := hxc m' (List.mem_reverse.mpr hmin.1)
    dsimp only [gName, kV]
    rw [ex]
    refine ⟨_, rfl, _, rfl, by omega, by omega, ?_⟩
    rw [Int.toNat_natCast]
    refine compV_range (n := n) (fun k => x.testBit k) (fun k => .int (k : Int)) (by omega) (fun k H14 hk S14 => turn_pick (y := .int (k : Int)) (.pure fun Q h => ⟨_, rfl, _, rfl, _, _, rfl, rfl, (by show (0 : Int) ≤ (k : Int); omega), _, _, rfl, rfl, rfl, _, rfl, (by rw [int_eq, Int.toNat_natCast, bitB]; exact h)⟩) (fun _ H15 S15 => .pure fun Q h => ⟨_, rfl, h⟩) fun _ _ _ => rfl) (fun acc H14 hacc S14 h0 => ⟨acc, _, rfl, .inl (SqL.of h0), ?_⟩)
    rw [List.length_map, show ((List.range n).filter fun k => x.testBit k).length = pc n x from rfl]
    have hdu14 := S14 _ _ hdu13
    have hd14 := S14 _ _ (SB13 _ _ ddu hd12)
    dsimp only
    refine ⟨_, rfl, _, rfl, du, _, _, _, rfl, rfl, SqL.of hdu14, (atI_nat (by rw [List.getElem?_map, due_get hpm]; rfl)), _, rfl, _, rfl, d, _, rfl, .inl ⟨_, .inl (x : Int), .inr ⟨o2, hd14⟩, rfl, hv.symm⟩, _, _, rfl, rfl, _, rfl, _, rfl, du, _, _, _, rfl, rfl, hdu14, ix_ok' (by omega) (by rw [List.length_map, due_len]; omega), ?_⟩
    refine ⟨some (.int (x : Int)), some (.int (pc n x : Int)), rfl, fun b o' hb ho => ?_, ?_⟩
    · rw [upd_ne hb]; exact S14 _ _ (SB13 _ _ hb ho)
    · rw [upd_same, Int.toNat_natCast, take_snoc hr, ← due_set ex hpm]
  rintro σ H13 ⟨z9', z10', rfl, SB13, hdu13⟩
  rw [tl, List.take_length, due_all hN T] at hdu13
  have hc13 := SB13 _ _ cdu hc12
  have hdr13 := SB13 _ _ drdu hdr12
  have hkp13 := SB13 _ _ kpdu hkp12
  have wl : (wjL n m' cs).length = m' + 1 := by unfold wjL; rw [List.length_map, List.length_range]
  have sh := shB_tog hN
  have eqc : PyData.eqv (.list ((nI cs).map PyData.int)) (.list ((nI cs).map PyData.int)) = true := (show PyData.eqv (.list ((nI cs).map PyData.int)) (.list ((nI cs).map PyData.int)) = decide (nI cs = nI cs) from eqv_ints _ _).trans (decide_eq_true rfl)
  dsimp only
  refine seq_if (b := false) (lookOr (c := false) (d := false) (fun Q h => ⟨_, rfl, _, rfl, c, n, m', cs, rfl, SqL.of hc13, hN, fun r2 x2 H14 S14 _ hr2 hR2 => ⟨r2, _, rfl, .lst (SqL.of hr2) hR2.dr, sh.show', sh.nodict, Nat.le_trans sh.depth (by decide), sh.fits (by decide), _, rfl, du, rfl, ⟨_, SqL.of (S14 _ _ hdu13)⟩, compR_list (ns := wjL n m' cs) (SqL.of (S14 _ _ hdu13)) (fun _ => true) (fun x => lowF x (al n cs)) (by omega) (fun x H15 hx S PUT SKIP h1 h2 => ⟨(Wk.refl _).set (by decide), yes_of ?_⟩) (fun r3 y3 H15 hr30 S15 hr3 hR3 => ?_)⟩⟩) fun _ H14 S14 => .pure fun Q h => ⟨_, rfl, _, rfl, ne_data (.lst (SqL.of (S14 _ _ hc13)) (DRs.ints _)) (.lst (SqL.of (S14 _ _ hkp13)) (DRs.ints _)) (shaped_ints _) eqc h⟩) fun H14 S14 => iteF ?_
  · have x0 : 0 ≤ x := by obtain ⟨t, _, rfl⟩ := List.mem_map.mp hx; exact wj_nn n cs t
    exact ⟨_, rfl, _, rfl, x, al n cs, rfl, x0, hN.pos, Nat.le_trans hN.abits (by decide), fun p hp => h1 rfl _ _ (same_new hp _) ⟨p, rfl, upd_same⟩⟩
  · rw [filter_true] at hR3
    have e : (wjL n m' cs).map (fun x => lowF x (al n cs)) = togF n m' cs := by unfold wjL togF; rw [List.map_map]; rfl
    rw [e] at hR3
    exact ⟨r3, _, rfl, .lst (SqL.of hr3) hR3.dr, sh.show', sh.nodict, Nat.le_trans sh.depth (by decide), sh.fits (by decide), ne_str (h _ (S14.trans S15))⟩
  dsimp only [tNext]
  have hc14 := S14 _ _ hc13
  have hdr14 := S14 _ _ hdr13
  have hkp14 := S14 _ _ hkp13
  have hdu14 := S14 _ _ hdu13
  have wl' : ((wjL n m' cs).map V.int).length = m' + 1 := by rw [List.length_map, wl]
  refine ⟨_, rfl, du, _, rfl, .inl (SqL.of hdu14), _, rfl, by omega, by omega, ?_⟩
  rw [wl', Int.toNat_natCast]
  refine compV_range (n := m' + 1) (fun _ => true) (fun t => .int ((t : Int) * wj n cs t)) (by omega) (fun x H15 hx S => turn_pick (y := .int ((x : Int) * wj n cs x)) look_yes (fun _ H16 S16 => .pure fun Q h => ⟨_, rfl, _, rfl, _, rfl, du, _, _, _, rfl, rfl, SqL.of ((S.trans S16) _ _ hdu14), (atI_nat (by unfold wjL; rw [List.getElem?_map, List.getElem?_map, List.getElem?_range (by omega)]; rfl)), _, _, rfl, rfl, .inl ⟨by omega, by omega⟩, h⟩) fun _ _ _ => rfl) (fun mi H15 hmi0 S15 hmi => ?_)
  rw [filter_true] at hmi
  refine ⟨mi, (List.range (m' + 1)).map fun t : Nat => (t : Int) * wj n cs t, rfl, SqL.of (by rw [hmi, List.map_map]; rfl), ?_⟩
  rw [mid_sum hN]
  have hc15 := S15 _ _ hc14
  have hdr15 := S15 _ _ hdr14
  have hkp15 := S15 _ _ hkp14
  obtain ⟨mb1, mb2⟩ := mean_bits hN
  have m0 : 0 ≤ mm n 1 cs := by rw [← hN.mom 1]; exact sm_nn fun t _ => Int.mul_nonneg (ch_nn t 1) (wj_nn n _ t)
  have eme : meanF n cs = lowF (mm n 1 cs) (al n cs) := by
    cases cs with
    | nil => exact absurd hmin.1 (List.not_mem_nil)
    | cons e0 es0 => exact mean_low' hN
  have shp := shB_pair mb1 mb2
  dsimp only
  refine one_if (b := false) (lookOr (c := false) (d := false) (fun Q h => ⟨_, rfl, _, rfl, c, n, m', cs, rfl, SqL.of hc15, hN, fun r2 H16 S16 _ hr2 => ⟨r2, dRow (meanF n cs), rfl, .tup (SqT.of hr2) (.cons (.int _) (.cons (.int _) .nil)), shp.show', shp.nodict, Nat.le_trans shp.depth (by decide), shp.fits (by decide), _, rfl, _, rfl, _, _, rfl, m0, hN.pos, Nat.le_trans hN.abits (by decide), fun p hp => ?_⟩⟩) fun _ H16 S16 => .pure fun Q h => ⟨_, rfl, _, rfl, ne_data (.lst (SqL.of (S16 _ _ hc15)) (DRs.ints _)) (.lst (SqL.of (S16 _ _ hkp15)) (DRs.ints _)) (shaped_ints _) eqc h⟩) fun H16 S16 => iteF ?_
  · rw [← eme]
    exact ⟨p, dRow (meanF n cs), rfl, .tup (SqT.of upd_same) (.cons (.int _) (.cons (.int _) .nil)), shp.show', shp.nodict, Nat.le_trans shp.depth (by decide), shp.fits (by decide), ne_str (h _ (S16.trans (same_new hp _)))⟩
  exact ⟨es, _, _, _, _, _, _, _, _, _, _, rfl, S16 _ _ hdr15, hd5⟩

end
end OL.Q78

namespace OL.Q78
open PySem L2 OL
theorem len1 {us : List Value} (h : us.length = 1) : ∃ x0, us = [x0] := by
  match us, h with
  | [x0], _ => exact ⟨x0, rfl⟩
theorem len2 {us : List Value} (h : us.length = 2) : ∃ x0 x1, us = [x0, x1] := by
  match us, h with
  | [x0, x1], _ => exact ⟨x0, x1, rfl⟩
theorem len3 {us : List Value} (h : us.length = 3) : ∃ x0 x1 x2, us = [x0, x1, x2] := by
  match us, h with
  | [x0, x1, x2], _ => exact ⟨x0, x1, x2, rfl⟩
theorem len4 {us : List Value} (h : us.length = 4) : ∃ x0 x1 x2 x3, us = [x0, x1, x2, x3] := by
  match us, h with
  | [x0, x1, x2, x3], _ => exact ⟨x0, x1, x2, x3, rfl⟩
set_option maxHeartbeats 4000000 in
theorem all_mk {l : PySem.W.OpenLaw} {w : World} {K : PySem.W.Frag} {h : Heap} {mg : Str → Option Value} {fa f0 f1 f2 f3 f4 f5 f6 f7 f8 f9 f10 f11 f12 f13 : Addr} (X : K.In h) (G : h.Ns mainGlobals mg) (hfa : mg "law" = some (.ref fa))
    {od0 an0 od1 an1 od2 an2 od3 an3 od4 an4 od5 an5 od6 an6 od7 an7 od8 an8 od9 an9 od10 an10 od11 an11 od12 an12 od13 an13 : Option Addr} {sl0 sl1 sl2 sl3 sl4 sl5 sl6 sl7 sl8 sl9 sl10 sl11 sl12 sl13 : Array (Option Value)} {oc0 kV0 dc0 pm0 cd0 ct0 oc1 kV1 dc1 pm1 cd1 ct1 oc2 kV2 dc2 pm2 cd2 ct2 oc3 kV3 dc3 pm3 cd3 ct3 oc4 kV4 dc4 pm4 cd4 ct4 oc5 kV5 dc5 pm5 cd5 ct5 oc6 kV6 dc6 pm6 cd6 ct6 oc7 kV7 dc7 pm7 cd7 ct7 oc8 kV8 dc8 pm8 cd8 ct8 oc9 kV9 dc9 pm9 cd9 ct9 oc10 kV10 dc10 pm10 cd10 ct10 oc11 kV11 dc11 pm11 cd11 ct11 oc12 kV12 dc12 pm12 cd12 ct12 oc13 kV13 dc13 pm13 cd13 ct13 : Value}
    (a0 : PySem.W.nsIn K mainGlobals "lowest_terms" = some (some (.ref f0))) (l0 : K.lookup f0 = some ⟨oc0, od0, .func (PySem.W.fnOf "lowest_terms" "lowest_terms" (defArgs s_lowest_terms) (defBody s_lowest_terms) (defScope s_lowest_terms) .none kV0 dc0 pm0 an0 cd0 ct0), sl0⟩) (c0 : PySem.W.codeIn K cd0 "lowest_terms" = true) (k0 : PySem.W.keepIn K (.ref f0) = true)
    (a1 : PySem.W.nsIn K mainGlobals "together" = some (some (.ref f1))) (l1 : K.lookup f1 = some ⟨oc1, od1, .func (PySem.W.fnOf "together" "together" (defArgs s_together) (defBody s_together) (defScope s_together) .none kV1 dc1 pm1 an1 cd1 ct1), sl1⟩) (c1 : PySem.W.codeIn K cd1 "together" = true) (k1 : PySem.W.keepIn K (.ref f1) = true)
    (a2 : PySem.W.nsIn K mainGlobals "just_ways" = some (some (.ref f2))) (l2 : K.lookup f2 = some ⟨oc2, od2, .func (PySem.W.fnOf "just_ways" "just_ways" (defArgs s_just_ways) (defBody s_just_ways) (defScope s_just_ways) .none kV2 dc2 pm2 an2 cd2 ct2), sl2⟩) (c2 : PySem.W.codeIn K cd2 "just_ways" = true) (k2 : PySem.W.keepIn K (.ref f2) = true)
    (a3 : PySem.W.nsIn K mainGlobals "choice_rows" = some (some (.ref f3))) (l3 : K.lookup f3 = some ⟨oc3, od3, .func (PySem.W.fnOf "choice_rows" "choice_rows" (defArgs s_choice_rows) (defBody s_choice_rows) (defScope s_choice_rows) .none kV3 dc3 pm3 an3 cd3 ct3), sl3⟩) (c3 : PySem.W.codeIn K cd3 "choice_rows" = true) (k3 : PySem.W.keepIn K (.ref f3) = true)
    (a4 : PySem.W.nsIn K mainGlobals "ways_to_choose" = some (some (.ref f4))) (l4 : K.lookup f4 = some ⟨oc4, od4, .func (PySem.W.fnOf "ways_to_choose" "ways_to_choose" (defArgs s_ways_to_choose) (defBody s_ways_to_choose) (defScope s_ways_to_choose) .none kV4 dc4 pm4 an4 cd4 ct4), sl4⟩) (c4 : PySem.W.codeIn K cd4 "ways_to_choose" = true) (k4 : PySem.W.keepIn K (.ref f4) = true)
    (a5 : PySem.W.nsIn K mainGlobals "ways_of_just" = some (some (.ref f5))) (l5 : K.lookup f5 = some ⟨oc5, od5, .func (PySem.W.fnOf "ways_of_just" "ways_of_just" (defArgs s_ways_of_just) (defBody s_ways_of_just) (defScope s_ways_of_just) .none kV5 dc5 pm5 an5 cd5 ct5), sl5⟩) (c5 : PySem.W.codeIn K cd5 "ways_of_just" = true) (k5 : PySem.W.keepIn K (.ref f5) = true)
    (a6 : PySem.W.nsIn K mainGlobals "mean" = some (some (.ref f6))) (l6 : K.lookup f6 = some ⟨oc6, od6, .func (PySem.W.fnOf "mean" "mean" (defArgs s_mean) (defBody s_mean) (defScope s_mean) .none kV6 dc6 pm6 an6 cd6 ct6), sl6⟩) (c6 : PySem.W.codeIn K cd6 "mean" = true) (k6 : PySem.W.keepIn K (.ref f6) = true)
    (a7 : PySem.W.nsIn K mainGlobals "_law_mix" = some (some (.ref f7))) (l7 : K.lookup f7 = some ⟨oc7, od7, .func (PySem.W.fnOf "_law_mix" "_law_mix" (defArgs s_L_mix) (defBody s_L_mix) (defScope s_L_mix) .none kV7 dc7 pm7 an7 cd7 ct7), sl7⟩) (c7 : PySem.W.codeIn K cd7 "_law_mix" = true) (k7 : PySem.W.keepIn K (.ref f7) = true)
    (a8 : PySem.W.nsIn K mainGlobals "_law_draws" = some (some (.ref f8))) (l8 : K.lookup f8 = some ⟨oc8, od8, .func (PySem.W.fnOf "_law_draws" "_law_draws" (defArgs s_L_draws) (defBody s_L_draws) (defScope s_L_draws) .none kV8 dc8 pm8 an8 cd8 ct8), sl8⟩) (c8 : PySem.W.codeIn K cd8 "_law_draws" = true) (k8 : PySem.W.keepIn K (.ref f8) = true)
    (a9 : PySem.W.nsIn K mainGlobals "_law_pop" = some (some (.ref f9))) (l9 : K.lookup f9 = some ⟨oc9, od9, .func (PySem.W.fnOf "_law_pop" "_law_pop" (defArgs s_L_pop) (defBody s_L_pop) (defScope s_L_pop) .none kV9 dc9 pm9 an9 cd9 ct9), sl9⟩) (c9 : PySem.W.codeIn K cd9 "_law_pop" = true) (k9 : PySem.W.keepIn K (.ref f9) = true)
    (a10 : PySem.W.nsIn K mainGlobals "_law_lowest" = some (some (.ref f10))) (l10 : K.lookup f10 = some ⟨oc10, od10, .func (PySem.W.fnOf "_law_lowest" "_law_lowest" (defArgs s_L_lowest) (defBody s_L_lowest) (defScope s_L_lowest) .none kV10 dc10 pm10 an10 cd10 ct10), sl10⟩) (c10 : PySem.W.codeIn K cd10 "_law_lowest" = true) (k10 : PySem.W.keepIn K (.ref f10) = true)
    (a11 : PySem.W.nsIn K mainGlobals "_law_ways" = some (some (.ref f11))) (l11 : K.lookup f11 = some ⟨oc11, od11, .func (PySem.W.fnOf "_law_ways" "_law_ways" (defArgs s_L_ways) (defBody s_L_ways) (defScope s_L_ways) .none kV11 dc11 pm11 an11 cd11 ct11), sl11⟩) (c11 : PySem.W.codeIn K cd11 "_law_ways" = true) (k11 : PySem.W.keepIn K (.ref f11) = true)
    (a12 : PySem.W.nsIn K mainGlobals "_law_dealt" = some (some (.ref f12))) (l12 : K.lookup f12 = some ⟨oc12, od12, .func (PySem.W.fnOf "_law_dealt" "_law_dealt" (defArgs s_L_dealt) (defBody s_L_dealt) (defScope s_L_dealt) .none kV12 dc12 pm12 an12 cd12 ct12), sl12⟩) (c12 : PySem.W.codeIn K cd12 "_law_dealt" = true) (k12 : PySem.W.keepIn K (.ref f12) = true)
    (a13 : PySem.W.nsIn K mainGlobals "law" = some (some (.ref f13))) (l13 : K.lookup f13 = some ⟨oc13, od13, .func (PySem.W.fnOf "law" "law" (defArgs s_law) (defBody s_law) (defScope s_law) .none kV13 dc13 pm13 an13 cd13 ct13), sl13⟩) (c13 : PySem.W.codeIn K cd13 "law" = true) (k13 : PySem.W.keepIn K (.ref f13) = true)
    (z_len : PySem.W.nsIn K mainGlobals "len" = some none) (z_zip : PySem.W.nsIn K mainGlobals "zip" = some none) (z_range : PySem.W.nsIn K mainGlobals "range" = some none) (z_max : PySem.W.nsIn K mainGlobals "max" = some none) (z_min : PySem.W.nsIn K mainGlobals "min" = some none) (z_enumerate : PySem.W.nsIn K mainGlobals "enumerate" = some none) (z_sum : PySem.W.nsIn K mainGlobals "sum" = some none) (z_list : PySem.W.nsIn K mainGlobals "list" = some none) (z_str : PySem.W.nsIn K mainGlobals "str" = some none) :
    ∃ fd : FuncData, (∀ (s : Shared) (v : Value), BindsTo s fd ⟨[v], []⟩ [("_law_script", v)]) ∧ ∀ base : Heap, K.In base → base.Ns mainGlobals mg → FnOk l.prog w K mg base CX0 4 fa fd ["_law_script"] (spLaw K) := by
  have e := hfa.symm.trans (PySem.W.mg_of X G a13)
  cases e
  have F0 := fun_mk (st := s_lowest_terms) l0 c0 k0
  have b0 := F0.binds (ps := ["top", "bottom"]) fun _ _ _ _ _ _ us hl => by obtain ⟨_, _, rfl⟩ := len2 hl; rfl
  have m0 := PySem.W.mg_of X G a0
  have F1 := fun_mk (st := s_together) l1 c1 k1
  have b1 := F1.binds (ps := ["n", "counts"]) fun _ _ _ _ _ _ us hl => by obtain ⟨_, _, rfl⟩ := len2 hl; rfl
  have m1 := PySem.W.mg_of X G a1
  have F2 := fun_mk (st := s_just_ways) l2 c2 k2
  have b2 := F2.binds (ps := ["n", "counts"]) fun _ _ _ _ _ _ us hl => by obtain ⟨_, _, rfl⟩ := len2 hl; rfl
  have m2 := PySem.W.mg_of X G a2
  have F3 := fun_mk (st := s_choice_rows) l3 c3 k3
  have b3 := F3.binds (ps := ["n"]) fun _ _ _ _ _ _ us hl => by obtain ⟨_, rfl⟩ := len1 hl; rfl
  have m3 := PySem.W.mg_of X G a3
  have F4 := fun_mk (st := s_ways_to_choose) l4 c4 k4
  have b4 := F4.binds (ps := ["choices", "n", "counts", "size"]) fun _ _ _ _ _ _ us hl => by obtain ⟨_, _, _, _, rfl⟩ := len4 hl; rfl
  have m4 := PySem.W.mg_of X G a4
  have F5 := fun_mk (st := s_ways_of_just) l5 c5 k5
  have b5 := F5.binds (ps := ["choices", "chosen", "t"]) fun _ _ _ _ _ _ us hl => by obtain ⟨_, _, _, rfl⟩ := len3 hl; rfl
  have m5 := PySem.W.mg_of X G a5
  have F6 := fun_mk (st := s_mean) l6 c6 k6
  have b6 := F6.binds (ps := ["n", "counts"]) fun _ _ _ _ _ _ us hl => by obtain ⟨_, _, rfl⟩ := len2 hl; rfl
  have m6 := PySem.W.mg_of X G a6
  have F7 := fun_mk (st := s_L_mix) l7 c7 k7
  have b7 := F7.binds (ps := ["_law_cell", "_law_turn"]) fun _ _ _ _ _ _ us hl => by obtain ⟨_, _, rfl⟩ := len2 hl; rfl
  have m7 := PySem.W.mg_of X G a7
  have F8 := fun_mk (st := s_L_draws) l8 c8 k8
  have b8 := F8.binds (ps := ["_law_script", "_law_turn", "_law_many"]) fun _ _ _ _ _ _ us hl => by obtain ⟨_, _, _, rfl⟩ := len3 hl; rfl
  have m8 := PySem.W.mg_of X G a8
  have F9 := fun_mk (st := s_L_pop) l9 c9 k9
  have b9 := F9.binds (ps := ["_law_draws_here"]) fun _ _ _ _ _ _ us hl => by obtain ⟨_, rfl⟩ := len1 hl; rfl
  have m9 := PySem.W.mg_of X G a9
  have F10 := fun_mk (st := s_L_lowest) l10 c10 k10
  have b10 := F10.binds (ps := ["_law_top", "_law_bottom"]) fun _ _ _ _ _ _ us hl => by obtain ⟨_, _, rfl⟩ := len2 hl; rfl
  have m10 := PySem.W.mg_of X G a10
  have F11 := fun_mk (st := s_L_ways) l11 c11 k11
  have b11 := F11.binds (ps := ["_law_n", "_law_some"]) fun _ _ _ _ _ _ us hl => by obtain ⟨_, _, rfl⟩ := len2 hl; rfl
  have m11 := PySem.W.mg_of X G a11
  have F12 := fun_mk (st := s_L_dealt) l12 c12 k12
  have b12 := F12.binds (ps := ["_law_n", "_law_counts"]) fun _ _ _ _ _ _ us hl => by obtain ⟨_, _, rfl⟩ := len2 hl; rfl
  have m12 := PySem.W.mg_of X G a12
  have F13 := fun_mk (st := s_law) l13 c13 k13
  have y_len := PySem.W.mg_none_of X G z_len
  have y_zip := PySem.W.mg_none_of X G z_zip
  have y_range := PySem.W.mg_none_of X G z_range
  have y_max := PySem.W.mg_none_of X G z_max
  have y_min := PySem.W.mg_none_of X G z_min
  have y_enumerate := PySem.W.mg_none_of X G z_enumerate
  have y_sum := PySem.W.mg_none_of X G z_sum
  have y_list := PySem.W.mg_none_of X G z_list
  have y_str := PySem.W.mg_none_of X G z_str
  refine ⟨PySem.W.fnOf "law" "law" (defArgs s_law) (defBody s_law) (defScope s_law) .none kV13 dc13 pm13 an13 cd13 ct13, fun s v => .of_eq rfl, fun base _ _ => ?_⟩
  have D0 : Dfn l.prog w K mg base 1 _ _ _ := ok_lowest_terms F0 b0 m0 
  have D3 : Dfn l.prog w K mg base 1 _ _ _ := ok_choice_rows F3 b3 m3 y_len y_zip
  have D4 : Dfn l.prog w K mg base 1 _ _ _ := ok_ways_to_choose F4 b4 m4 
  have D5 : Dfn l.prog w K mg base 1 _ _ _ := ok_ways_of_just F5 b5 m5 y_range y_len
  have D7 : Dfn l.prog w K mg base 1 _ _ _ := ok_L_mix F7 b7 m7 
  have D9 : Dfn l.prog w K mg base 1 _ _ _ := ok_L_pop F9 b9 m9 
  have D10 : Dfn l.prog w K mg base 1 _ _ _ := ok_L_lowest F10 b10 m10 y_max
  have D11 : Dfn l.prog w K mg base 1 _ _ _ := ok_L_ways F11 b11 m11 y_range y_len
  have D2 : Dfn l.prog w K mg base 2 _ _ _ := ok_just_ways F2 b2 m2 y_range y_min y_len D3 D4 D5
  have D6 : Dfn l.prog w K mg base 2 _ _ _ := ok_mean F6 b6 m6 y_enumerate D0
  have D8 : Dfn l.prog w K mg base 2 _ _ _ := ok_L_draws F8 b8 m8 y_range y_len D7
  have D12 : Dfn l.prog w K mg base 2 _ _ _ := ok_L_dealt F12 b12 m12 D11
  have D1 : Dfn l.prog w K mg base 3 _ _ _ := ok_together F1 b1 m1 y_sum D2 (D0.mono (by decide))
  exact ok_law F13 y_range y_list y_sum y_min y_len y_str (D8.mono (by decide)) (D9.mono (by decide)) (D12.mono (by decide)) D1 (D10.mono (by decide)) (D6.mono (by decide))
theorem walk {l : PySem.W.OpenLaw} {q : Program} {loose : List Str} {XP : (Str → Option Value) → Heap → Prop} {YP : World → Heap → Prop} {d : DefRec} {K : Params → PySem.W.Frag} (hn : l.most = some 63) (hdf : d.params.defaults = [])
    (hY : ∀ (w : World) (h : Heap), YP w h → (K w.params).In h)
    (F : ∀ (w : World) (mg : Str → Option Value) (fa : Addr) (h : Heap), (K w.params).In h → h.Ns mainGlobals mg → mg d.name = some (.ref fa) →
      ∃ fd : FuncData, (∀ (s : Shared) (u : Value), BindsTo s fd ⟨[u], []⟩ [("_law_script", u)]) ∧ ∀ base : Heap, (K w.params).In base → base.Ns mainGlobals mg → FnOk l.prog w (K w.params) mg base CX0 4 fa fd ["_law_script"] (spLaw (K w.params))) :
    PySem.W.WalkO q loose XP YP l.row.toRowW d [] (fun f vs => PySem.call f vs) :=
  L2.walk_of (n := 63) (k := 4) (x := "_law_script") (CX := fun _ => CX0) (sp := fun w => spLaw (K w.params)) hn (by decide) hdf ⟨rfl, by decide, by decide, rfl⟩ hY F (fun _ _ a ns hl _ hS => ⟨a, ns, rfl, hS, hl, fun _ => rfl⟩) fun _ _ _ _ _ z => z
end OL.Q78
open PySem PySem.W PyProof.Rows
set_option maxRecDepth 100000 in
set_option maxHeartbeats 0 in
theorem PySem.Challenge.cw_oftenlots_k78_dealings_gone_through_holds : PySem.Challenge.rw_oftenlots_k78_dealings_gone_through.Holds := by
  w_on; o_law; k_head; (case hw => w_witness2)
  k_fill
  refine OL.Q78.walk (l := PySem.Challenge.rw_oftenlots_k78_dealings_gone_through) rfl rfl (fun w h Y => PySem.W.kIn_of Y) ?F
  case F =>
    intro w mg fa h KX G hmg
    refine' OL.Q78.all_mk KX G hmg ?a0 ?l0 ?c0 ?k0 ?a1 ?l1 ?c1 ?k1 ?a2 ?l2 ?c2 ?k2 ?a3 ?l3 ?c3 ?k3 ?a4 ?l4 ?c4 ?k4 ?a5 ?l5 ?c5 ?k5 ?a6 ?l6 ?c6 ?k6 ?a7 ?l7 ?c7 ?k7 ?a8 ?l8 ?c8 ?k8 ?a9 ?l9 ?c9 ?k9 ?a10 ?l10 ?c10 ?k10 ?a11 ?l11 ?c11 ?k11 ?a12 ?l12 ?c12 ?k12 ?a13 ?l13 ?c13 ?k13 ?z_len ?z_zip ?z_range ?z_max ?z_min ?z_enumerate ?z_sum ?z_list ?z_str
    (case a0 => k_is)
    (case l0 => k_is)
    (case c0 => k_is)
    (case k0 => k_is)
    (case a1 => k_is)
    (case l1 => k_is)
    (case c1 => k_is)
    (case k1 => k_is)
    (case a2 => k_is)
    (case l2 => k_is)
    (case c2 => k_is)
    (case k2 => k_is)
    (case a3 => k_is)
    (case l3 => k_is)
    (case c3 => k_is)
    (case k3 => k_is)
    (case a4 => k_is)
    (case l4 => k_is)
    (case c4 => k_is)
    (case k4 => k_is)
    (case a5 => k_is)
    (case l5 => k_is)
    (case c5 => k_is)
    (case k5 => k_is)
    (case a6 => k_is)
    (case l6 => k_is)
    (case c6 => k_is)
    (case k6 => k_is)
    (case a7 => k_is)
    (case l7 => k_is)
    (case c7 => k_is)
    (case k7 => k_is)
    (case a8 => k_is)
    (case l8 => k_is)
    (case c8 => k_is)
    (case k8 => k_is)
    (case a9 => k_is)
    (case l9 => k_is)
    (case c9 => k_is)
    (case k9 => k_is)
    (case a10 => k_is)
    (case l10 => k_is)
    (case c10 => k_is)
    (case k10 => k_is)
    (case a11 => k_is)
    (case l11 => k_is)
    (case c11 => k_is)
    (case k11 => k_is)
    (case a12 => k_is)
    (case l12 => k_is)
    (case c12 => k_is)
    (case k12 => k_is)
    (case a13 => k_is)
    (case l13 => k_is)
    (case c13 => k_is)
    (case k13 => k_is)
    (case z_len => k_is)
    (case z_zip => k_is)
    (case z_range => k_is)
    (case z_max => k_is)
    (case z_min => k_is)
    (case z_enumerate => k_is)
    (case z_sum => k_is)
    (case z_list => k_is)
    (case z_str => k_is)
#print axioms PySem.Challenge.cw_oftenlots_k78_dealings_gone_through_holds
