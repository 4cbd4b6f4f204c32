import PyProof.Rows.All
import Wide.All
import OpenK.AllK
import Wide.FinOn
import Lean
import PyProof.EqAt
import PyProof.EqKinds
import PyProof.TupleCall
import PyProof.Rows.SortShellK
import KE.KSortTup
import PyProof.AttrMissHeap
import KE.KDictOf
import KE.KDictSum
import KE.KRevSl
import KE.KItemsList
import PyProof.ReprBulk
import PyProof.Rows.ZipGen
import PyProof.ListRange
import KE.KDictList
import PyProof.DictUpdate
import PyProof.Rows.SetFrom
import PyProof.SetRoads
import PyProof.Rows.SetListFold
import PySem.Challenge.RW_oftenlots_k26_whole_no_fewer_rules
set_option Elab.async false
set_option linter.all false
set_option maxRecDepth 100000

/-! THE HAND LAYER, for ints, bools, texts, own classes, LISTS and tuples (index, slices, in, append, pop ..), calls, loops. Paste it whole ahead of your own text; what your proof does not reach may be deleted. -/
namespace L2
open PySem PySem.Spec PyProof.Rows

/-- a key: an int or a str -/
abbrev Key := Sum Int Str
def keyIs : Key → Value → Bool
  | .inl k, v => Value.isInt k v
  | .inr x, v => Value.isStrOf x v
def keyH (w : World) : Key → Int
  | .inl k => hashInt k
  | .inr x => hashStr w x
theorem keyIs_shape : ∀ {k : Key} {v : Value}, keyIs k v = true → (∃ i t, k = Sum.inl i ∧ v = Value.int i t) ∨ (∃ x t, k = Sum.inr x ∧ v = Value.str x t)
  | .inl i, v, h => by
    obtain ⟨t, e⟩ := Value.isInt_shape (k := i) (v := v) h
    exact .inl ⟨i, t, rfl, e⟩
  | .inr x, v, h => by
    obtain ⟨t, e⟩ := Value.isStrOf_shape (x := x) (v := v) h
    exact .inr ⟨x, t, rfl, e⟩
theorem key_ll (a b : Int) : decide ((Sum.inl a : Key) = Sum.inl b) = (a == b) := by
  by_cases e : a = b
  · subst e; simp
  · have h : ¬ (Sum.inl a : Key) = Sum.inl b := fun q => e (Sum.inl.inj q)
    rw [decide_eq_false h]
    exact (beq_eq_false_iff_ne.mpr e).symm
theorem key_rr (a b : Str) : decide ((Sum.inr a : Key) = Sum.inr b) = decide (a = b) := by
  by_cases e : a = b
  · subst e; simp
  · have h : ¬ (Sum.inr a : Key) = Sum.inr b := fun q => e (Sum.inr.inj q)
    rw [decide_eq_false h, decide_eq_false e]
theorem key_lr (a : Int) (b : Str) : decide ((Sum.inl a : Key) = Sum.inr b) = false := decide_eq_false (fun q => nomatch q)
theorem key_rl (a : Str) (b : Int) : decide ((Sum.inr a : Key) = Sum.inl b) = false := decide_eq_false (fun q => nomatch q)

def mixKind (prog : Program) (w : World) : PySem.KeyKind prog w Key where
  is := keyIs
  hash := keyH w
  inj := fun v a b ha hb => by
    rcases keyIs_shape ha with ⟨i, t, rfl, rfl⟩ | ⟨x, t, rfl, rfl⟩
    · rcases keyIs_shape hb with ⟨j, u, rfl, e⟩ | ⟨y, u, rfl, e⟩
      · injection e with e1 _; rw [e1]
      · exact nomatch e
    · rcases keyIs_shape hb with ⟨j, u, rfl, e⟩ | ⟨y, u, rfl, e⟩
      · exact nomatch e
      · injection e with e1 _; rw [e1]
  byValue := fun k v h => by
    rcases keyIs_shape h with ⟨i, t, rfl, rfl⟩ | ⟨x, t, rfl, rfl⟩ <;> rfl
  pyHash := fun hv h => by
    rcases keyIs_shape hv with ⟨i, t, rfl, rfl⟩ | ⟨x, t, rfl, rfl⟩
    · exact wpAny_pyHash_int h
    · exact wpAny_pyHash_str h
  eqBool := fun hu hv h => by
    rcases keyIs_shape hu with ⟨i, t, rfl, rfl⟩ | ⟨x, t, rfl, rfl⟩
    · rcases keyIs_shape hv with ⟨j, u, rfl, rfl⟩ | ⟨y, u, rfl, rfl⟩
      · rw [key_ll] at h; exact wpAny_eqBool_int h
      · rw [key_lr] at h; exact SeqAt.EqAt.int_str i t y u _ _ _ _ h
    · rcases keyIs_shape hv with ⟨j, u, rfl, rfl⟩ | ⟨y, u, rfl, rfl⟩
      · rw [key_rl] at h; exact SeqAt.EqAt.str_int x t j u _ _ _ _ h
      · rw [key_rr] at h; exact wpAny_eqBool_str h
  «strs» := fun k x t v h => by
    rcases keyIs_shape h with ⟨i, u, rfl, e⟩ | ⟨y, u, rfl, e⟩
    · exact nomatch e
    · injection e with e1 _
      subst e1
      cases v <;> rfl

end L2

namespace L2
open PySem PySem.Spec PyProof.Rows

/-- a value, without the heap -/
inductive V where
  | non | bl (b : Bool) | int (i : Int) | str (x : Str) | byt (b : Array UInt8) | flt (b : UInt64) | ref (a : Addr) | ty (n : String)
  deriving DecidableEq

def RelV : V → Value → Prop
  | .non, u => u = Value.none
  | .bl b, u => u = Value.bool b
  | .int i, u => ∃ t, u = Value.int i t
  | .str x, u => ∃ t, u = Value.str x t
  | .byt b, u => ∃ t, u = Value.bytes b t
  | .flt b, u => ∃ t, u = Value.float b t
  | .ref a, u => u = Value.ref a
  | .ty n, u => u = Value.type n

abbrev Vals : List V → List Value → Prop := Paired RelV
theorem Vals.length {xs : List V} {us : List Value} (r : Vals xs us) : xs.length = us.length := Paired.length r
theorem Vals.get : ∀ {xs : List V} {us : List Value} {i : Nat} {x : V}, Vals xs us → xs[i]? = some x → ∃ u, us[i]? = some u ∧ RelV x u
  | _, _, _, _, .nil, e => by simp at e
  | _, _, 0, _, .cons r _, e => by simp at e; subst e; exact ⟨_, rfl, r⟩
  | _, _, i + 1, x, .cons _ t, e => by
    obtain ⟨u, h1, h2⟩ := Vals.get (i := i) (x := x) t (by simpa using e)
    exact ⟨u, by simpa using h1, h2⟩
theorem Vals.append : ∀ {xs ys : List V} {us ws : List Value}, Vals xs us → Vals ys ws → Vals (xs ++ ys) (us ++ ws)
  | _, _, _, _, .nil, s => s
  | _, _, _, _, .cons r t, s => .cons r (Vals.append t s)
theorem Vals.take : ∀ {xs : List V} {us : List Value} (n : Nat), Vals xs us → Vals (xs.take n) (us.take n)
  | _, _, 0, _ => .nil
  | _, _, _ + 1, .nil => .nil
  | _, _, n + 1, .cons r t => .cons r (Vals.take n t)
theorem Vals.drop : ∀ {xs : List V} {us : List Value} (n : Nat), Vals xs us → Vals (xs.drop n) (us.drop n)
  | _, _, 0, r => r
  | _, _, _ + 1, .nil => .nil
  | _, _, n + 1, .cons _ t => Vals.drop n t
def RelO : Option V → Option Value → Prop
  | some v, some u => RelV v u
  | none, none => True
  | _, _ => False
def KV {κ : Type} : List (κ × V) → List (κ × Value) → Prop := Paired fun (p : κ × V) (q : κ × Value) => p.1 = q.1 ∧ RelV p.2 q.2

/-- a key of a dict (00_mix): an int or a text -/
def kV : Key → V
  | .inl i => .int i
  | .inr x => .str x

/-- what stands at a tracked address -/
inductive HO where
  /-- a list -/
  | lst (xs : List V)
  /-- a tuple (never changes) -/
  | tup (xs : List V)
  /-- a dict whose keys are ints and texts; one whose keys are tuples of ints and texts (the empty one is both) -/
  | dK (kvs : List (Key × V)) | dT (kvs : List (List Key × V))
  /-- a set of ints: its members, its size -/
  | set (S : Int → Bool) (n : Nat)
  /-- an instance of the class at C, its dict at dx, its attributes -/
  | ins (C dx : Addr) (fs : List (Str × V))
  /-- the dict of the instance at x -/
  | own (x : Addr)
  /-- the dict of an exception -/
  | xd (fs : List (Str × V))
  /-- a bound method, f of x -/
  | met (f x : Addr)
  /-- a range object lo, lo + 1, .. below hi -/
  | rng (lo hi : Int)
  /-- a thing that is known to the object (the script; a dict while a loop walks it): read, never written while it is so -/
  | frz (o : Obj) (u : HO)
  /-- a code object's table -/
  | tbl (ps : Array Value)
  /-- any other thing, by what is true of its one object (a def of one's own: SetO a S n := HO.ext fun h => ..) -/
  | ext (φ : Heap → Prop)

abbrev Hp := Addr → Option HO
def upd (H : Hp) (a : Addr) (o : HO) : Hp := fun b => if b = a then some o else H b
theorem upd_same {H : Hp} {a : Addr} {o : HO} : upd H a o a = some o := by unfold upd; rw [if_pos rfl]
theorem upd_ne {H : Hp} {a b : Addr} {o : HO} (h : b ≠ a) : upd H a o b = H b := by unfold upd; rw [if_neg h]
/-- two objects of different content stand apart -/
theorem ne_of {H : Hp} {a b : Addr} {o u : HO} (h : H a = some o) (h' : H b = some u) (d : o ≠ u) : a ≠ b := by
  intro e; subst e; rw [h] at h'; exact d (Option.some.inj h')
theorem ne_of_none {H : Hp} {a b : Addr} {o : HO} (h : H a = some o) (h' : H b = none) : a ≠ b := by
  intro e; subst e; rw [h] at h'; cases h'

section
variable (P : Program) (w : World)
def ObjOk (H : Hp) (h : Heap) (a : Addr) : HO → Prop
  | .lst xs => xs.length ≤ sizeLine ∧ ∃ (its : List Value) (n : Nat), Vals xs its ∧ h.get? a = some { cls := .type "list", data := .seq its.toArray n }
  | .tup xs => xs.length ≤ sizeLine ∧ ∃ its : List Value, Vals xs its ∧ IsTup h a its.toArray
  | .dK kvs => kvs.length ≤ sizeLine ∧ (a == sysModules) = false ∧ ∃ vs, KV kvs vs ∧ h.DictOf (mixKind P w) a vs
  | .dT kvs => kvs.length ≤ sizeLine ∧ (a == sysModules) = false ∧ ∃ xs : List (List Key × Addr × Value),
      Paired (fun (p : List Key × V) (q : List Key × Addr × Value) => p.1 = q.1 ∧ H q.2.1 = some (.tup (p.1.map kV)) ∧ RelV p.2 q.2.2) kvs xs ∧
      ∃ o es ep, h.get? a = some o ∧ o.ExactDict ∧ o.data = .dict es ep ∧ es.toList = xs.map (entryOfKey (tupleKind (mixKind P w))) ∧ (xs.map (·.1)).Nodup
  | .set S n => h.SetOf (intKind P w) a S n
  | .ins C dx fs => H dx = some (.own a) ∧ fs.length ≤ 1000 ∧ dx ≠ a ∧ h.get? a = some (PySem.W.instObj C dx) ∧
      ∃ mA, h.Ns1 dx mA ∧ (∀ f, RelO (fs.lookup f) (mA f)) ∧ PySem.Within mA (fs.map (·.1))
  | .own _ => ∃ o, h.get? a = some o
  | .xd fs => ∃ mA, h.Ns1 a mA ∧ ∀ f, RelO (fs.lookup f) (mA f)
  | .rng lo hi => ∃ t u v, h.get? a = some { cls := .type "range", data := .fields #[.int lo t, .int hi u, .int 1 v] }
  | .frz o u => h.get? a = some o ∧ ObjOk H h a u
  | .tbl ps => h.get? a = some { cls := .none, data := .fields ps }
  | .met f x => h.get? a = some (PySem.W.methodObj (.ref f) (.ref x))
  | .ext φ => φ h ∧ (∃ o, h.get? a = some o) ∧ ∀ h1 h2 : Heap, φ h1 → (∀ o, h1.get? a = some o → h2.get? a = some o) → φ h2
/-- the abstract heap is held -/
def HOk (H : Hp) (h : Heap) : Prop := ∀ a o, H a = some o → ObjOk P w H h a o
end

section
variable {P : Program} {w : World} {H H' : Hp} {h h' : Heap} {a : Addr} {o : HO}
theorem ObjOk.lt (x : ObjOk P w H h a o) : a < h.objs.size := by
  cases o with
  | lst xs => obtain ⟨_, _, _, _, e⟩ := x; exact Heap.lt_size e
  | tup xs => obtain ⟨_, _, _, p⟩ := x; exact p.lt
  | dK kvs => obtain ⟨_, _, _, _, o, _, _, e, _⟩ := x; exact Heap.lt_size e
  | dT kvs => obtain ⟨_, _, _, _, o, _, _, e, _⟩ := x; exact Heap.lt_size e
  | set S n => obtain ⟨o, _, _, _, e, _⟩ := x; exact Heap.lt_size e
  | ins C dx fs => obtain ⟨_, _, _, e, _⟩ := x; exact Heap.lt_size e
  | own y => obtain ⟨_, e⟩ := x; exact Heap.lt_size e
  | xd fs => obtain ⟨_, ⟨_, _, _, e, _⟩, _⟩ := x; exact Heap.lt_size e
  | rng lo hi => obtain ⟨_, _, _, e⟩ := x; exact Heap.lt_size e
  | frz ob u => obtain ⟨e, _⟩ := x; exact Heap.lt_size e
  | tbl ps => exact Heap.lt_size (show h.get? a = some _ from x)
  | met f y => exact Heap.lt_size (show h.get? a = some _ from x)
  | ext φ => obtain ⟨_, ⟨_, e⟩, _⟩ := x; exact Heap.lt_size e
theorem Paired.mapP {α β : Type} {F G : α → β → Prop} : ∀ {l₁ : List α} {l₂ : List β}, Paired F l₁ l₂ → (∀ a b, F a b → G a b) → Paired G l₁ l₂
  | _, _, .nil, _ => .nil
  | _, _, .cons r t, f => .cons (f _ _ r) (Paired.mapP t f)
theorem Paired.imp' {α β : Type} {F G : α → β → Prop} (f : ∀ a b, F a b → G a b) {l₁ : List α} {l₂ : List β} (r : Paired F l₁ l₂) : Paired G l₁ l₂ := Paired.mapP r f
/-- what an object's description leans on: its own object, its own dict, the tuples -/
theorem ObjOk.stay (x : ObjOk P w H h a o) (k : ∀ b u, (b = a ∨ H b = some (.own a)) → h.get? b = some u → h'.get? b = some u)
    (ho : ∀ b, H b = some (.own a) → H' b = some (.own a)) (ht : ∀ b xs, H b = some (.tup xs) → H' b = some (.tup xs)) : ObjOk P w H' h' a o := by
  induction o with
  | lst xs => obtain ⟨z, its, n, r, e⟩ := x; exact ⟨z, its, n, r, k _ _ (.inl rfl) e⟩
  | tup xs => obtain ⟨z, its, r, ob, e, c⟩ := x; exact ⟨z, its, r, ob, k _ _ (.inl rfl) e, c⟩
  | dK kvs => obtain ⟨z, y, vs, r, ob, es, ep, e, c⟩ := x; exact ⟨z, y, vs, r, ob, es, ep, k _ _ (.inl rfl) e, c⟩
  | dT kvs =>
    obtain ⟨z, y, xs, r, ob, es, ep, e, c⟩ := x
    exact ⟨z, y, xs, Paired.mapP r fun p q z => ⟨z.1, ht _ _ z.2.1, z.2.2⟩, ob, es, ep, k _ _ (.inl rfl) e, c⟩
  | set S n => obtain ⟨ob, es, ep, t, e, c⟩ := x; exact ⟨ob, es, ep, t, k _ _ (.inl rfl) e, c⟩
  | ins C dx fs =>
    obtain ⟨d, z, ne, e, mA, ⟨od, es, ep, e2, c⟩, r⟩ := x
    exact ⟨ho _ d, z, ne, k _ _ (.inl rfl) e, mA, ⟨od, es, ep, k _ _ (.inr d) e2, c⟩, r⟩
  | own y => obtain ⟨ob, e⟩ := x; exact ⟨ob, k _ _ (.inl rfl) e⟩
  | xd fs => obtain ⟨mA, ⟨od, es, ep, e, c⟩, r⟩ := x; exact ⟨mA, ⟨od, es, ep, k _ _ (.inl rfl) e, c⟩, r⟩
  | rng lo hi => obtain ⟨t, u, v, e⟩ := x; exact ⟨t, u, v, k _ _ (.inl rfl) e⟩
  | frz ob u ih => obtain ⟨e, q⟩ := x; exact ⟨k _ _ (.inl rfl) e, ih q⟩
  | tbl ps =>
    have e : h.get? a = some { cls := .none, data := .fields ps } := x
    show h'.get? a = some { cls := .none, data := .fields ps }
    exact k a _ (.inl rfl) e
  | met f y =>
    have e : h.get? a = some (PySem.W.methodObj (.ref f) (.ref y)) := x
    show h'.get? a = some (PySem.W.methodObj (.ref f) (.ref y))
    exact k a _ (.inl rfl) e
  | ext φ => obtain ⟨p, ⟨o, e⟩, st⟩ := x; exact ⟨st _ _ p fun o q => k _ _ (.inl rfl) q, ⟨o, k _ _ (.inl rfl) e⟩, st⟩
theorem HOk.lt (x : HOk P w H h) (e : H a = some o) : a < h.objs.size := (x a o e).lt
theorem HOk.fresh (x : HOk P w H h) (e : h.objs.size ≤ a) : H a = none := by
  cases q : H a with
  | none => rfl
  | some u => exact absurd (Nat.lt_of_lt_of_le (x.lt q) e) (Nat.lt_irrefl _)
/-- every object of the heap is kept -/
theorem HOk.kept (x : HOk P w H h) (k : ∀ b u, h.get? b = some u → h'.get? b = some u) : HOk P w H h' := fun a o e =>
  (x a o e).stay (fun b u _ q => k b u q) (fun _ q => q) fun _ _ q => q
/-- a new object is laid and tracked -/
theorem HOk.laid (x : HOk P w H h) (k : ∀ b u, h.get? b = some u → h'.get? b = some u) (hp : h.objs.size ≤ a) (new : ObjOk P w (upd H a o) h' a o) : HOk P w (upd H a o) h' := fun b u e => by
  have hn := x.fresh hp
  by_cases hb : b = a
  · subst hb; rw [upd_same] at e; cases e; exact new
  · rw [upd_ne hb] at e
    exact (x b u e).stay (fun c v _ q => k c v q) (fun c q => by rw [upd_ne (ne_of_none q hn)]; exact q) fun c xs q => by rw [upd_ne (ne_of_none q hn)]; exact q
end

/-- what may be read as u: it is u, or a known u -/
def Rd (H : Hp) (a : Addr) (u : HO) : Prop := H a = some u ∨ ∃ o, H a = some (.frz o u)
theorem Rd.ok {P : Program} {w : World} {H : Hp} {h : Heap} {a : Addr} {u : HO} (r : Rd H a u) (x : HOk P w H h) : ObjOk P w H h a u := by
  rcases r with r | ⟨o, r⟩
  · exact x a u r
  · obtain ⟨_, q⟩ := x a _ r
    exact q
/-- what may be written -/
def Mut : Option HO → Prop
  | some (.lst _) => True
  | some (.dK _) => True
  | some (.dT _) => True
  | some (.set _ _) => True
  | some (.ins _ _ _) => True
  | some (.ext _) => True
  | _ => False
section
variable {P : Program} {w : World} {H : Hp} {h h' : Heap} {x e : Addr} {o' : HO}
/-- the object at e is changed: x itself, or the dict of the instance x -/
theorem HOk.write (ok : HOk P w H h) (mu : Mut (H x)) (he : e = x ∨ H e = some (.own x)) (k : ∀ b u, b ≠ e → h.get? b = some u → h'.get? b = some u) (heo : ∃ u, h'.get? e = some u)
    (new : ObjOk P w (upd H x o') h' x o') : HOk P w (upd H x o') h' := fun b u q => by
  have nown : ∀ c y, H c = some (.own y) → c ≠ x := fun c y r z => by subst z; rw [r] at mu; exact mu
  have ntup : ∀ c xs, H c = some (.tup xs) → c ≠ x := fun c xs r z => by subst z; rw [r] at mu; exact mu
  by_cases hb : b = x
  · subst hb; rw [upd_same] at q; cases q; exact new
  · rw [upd_ne hb] at q
    by_cases hbe : b = e
    · have q' : H b = some (.own x) := by
        rcases he with z | z
        · exact absurd (hbe.trans z) hb
        · rw [hbe]; exact z
      rw [q] at q'; cases q'
      obtain ⟨v, hv⟩ := heo
      exact ⟨v, by rw [hbe]; exact hv⟩
    · refine (ok b u q).stay (fun c v hc r => k c v ?_ r) (fun c r => by rw [upd_ne (nown c b r)]; exact r) fun c xs r => by rw [upd_ne (ntup c xs r)]; exact r
      rcases hc with rfl | hc
      · exact hbe
      · rintro rfl
        rcases he with z | z
        · exact nown c b hc z
        · rw [hc] at z; cases z; exact hb rfl
end

/-! ### kept unless tracked; of the frames at fs (the callers') the slots may change (an exception that passes writes there); of the records at ex (iterators) nothing is said -/
structure Un (fs ex : List Addr) (H H' : Hp) (h h' : Heap) : Prop where
  keep : ∀ b o, h.get? b = some o → H b = none → b ∉ fs → b ∉ ex → h'.get? b = some o
  slot : ∀ b o, h.get? b = some o → H b = none → b ∈ fs → b ∉ ex → ∃ sl, h'.get? b = some { o with slots := sl }
  free : ∀ b o, h.get? b = some o → H b = none → b ∉ ex → H' b = none
  there : ∀ b o, h.get? b = some o → b ∉ ex → ∃ o', h'.get? b = some o'
  tups : ∀ b xs, H b = some (.tup xs) → H' b = some (.tup xs)
  frzs : ∀ b o u, H b = some (.frz o u) → H' b = some (.frz o u)
  tbls : ∀ b ps, H b = some (.tbl ps) → ∃ more, H' b = some (.tbl (ps ++ more))
section
variable {fs fs' ex ex' : List Addr} {H H1 H2 : Hp} {h h1 h2 h' : Heap} {a x e : Addr} {o : HO}
theorem Un.any (u : Un fs ex H H1 h h1) {b : Addr} {ob : Obj} (q : h.get? b = some ob) (n : H b = none) (hx : b ∉ ex) : ∃ sl, h1.get? b = some { ob with slots := sl } := by
  by_cases hb : b ∈ fs
  · exact u.slot b ob q n hb hx
  · exact ⟨ob.slots, u.keep b ob q n hb hx⟩
theorem Un.kept (k : ∀ b u, h.get? b = some u → h'.get? b = some u) : Un fs ex H H h h' :=
  ⟨fun b ob q _ _ _ => k b ob q, fun b ob q _ _ _ => ⟨ob.slots, k b ob q⟩, fun _ _ _ n _ => n, fun b ob q _ => ⟨ob, k b ob q⟩, fun _ _ q => q, fun _ _ _ q => q, fun _ ps q => ⟨#[], by rw [q]; simp⟩⟩
theorem Un.refl : Un fs ex H H h h := Un.kept fun _ _ q => q
theorem Un.laid (k : ∀ b u, h.get? b = some u → h'.get? b = some u) (hp : h.objs.size ≤ a) (hn : H a = none) : Un fs ex H (upd H a o) h h' where
  keep := fun b u q _ _ _ => k b u q
  slot := fun b u q _ _ _ => ⟨u.slots, k b u q⟩
  free := fun b u q n _ => by rw [upd_ne (Nat.ne_of_lt (Nat.lt_of_lt_of_le (Heap.lt_size q) hp))]; exact n
  there := fun b u q _ => ⟨u, k b u q⟩
  tups := fun b xs q => by rw [upd_ne (ne_of_none q hn)]; exact q
  frzs := fun b u xs q => by rw [upd_ne (ne_of_none q hn)]; exact q
  tbls := fun b ps q => ⟨#[], by rw [upd_ne (ne_of_none q hn), q]; simp⟩
theorem Un.write (mu : Mut (H x)) (he : e = x ∨ H e = some (.own x)) (k : ∀ b u, b ≠ e → h.get? b = some u → h'.get? b = some u) (heo : ∃ u, h'.get? e = some u) : Un fs ex H (upd H x o) h h' := by
  have hx : ∀ b, H b = none → b ≠ x := fun b n z => by subst z; rw [n] at mu; exact mu
  have hb : ∀ b, H b = none → b ≠ e := fun b n z => by
    subst z
    rcases he with r | r
    · exact hx b n r
    · rw [n] at r; cases r
  have hm : ∀ b u, H b = some u → ¬ Mut (some u) → b ≠ x := fun b u q nm z => by subst z; rw [q] at mu; exact nm mu
  refine ⟨fun b u q n _ _ => k b u (hb b n) q, fun b u q n _ _ => ⟨u.slots, k b u (hb b n) q⟩, fun b u q n _ => by rw [upd_ne (hx b n)]; exact n, fun b u q _ => ?_,
    fun b xs q => by rw [upd_ne (hm b _ q fun z => z)]; exact q, fun b u xs q => by rw [upd_ne (hm b _ q fun z => z)]; exact q, fun b ps q => ⟨#[], by rw [upd_ne (hm b _ q fun z => z), q]; simp⟩⟩
  by_cases hbe : b = e
  · subst hbe; exact heo
  · exact ⟨u, k b u hbe q⟩
end

/-! ### the heap without what is tracked -/
def trk (h : Heap) (H : Hp) : List Addr := (List.range h.objs.size).filter fun a => (H a).isSome
def hidT (h : Heap) (H : Hp) : Heap := PySem.W.hideAll h (trk h H)
theorem hidT_size (h : Heap) (H : Hp) : (hidT h H).objs.size = h.objs.size := PySem.W.hideAll_size _ _
theorem hidT_get {h : Heap} {H : Hp} {b : Addr} {o : Obj} (e : h.get? b = some o) (n : H b = none) : (hidT h H).get? b = some o :=
  PySem.W.hideAll_get _ e fun hm => by
    have q : (H b).isSome = true := (List.mem_filter.mp hm).2
    rw [n] at q; simp at q
theorem of_hidT {h : Heap} {H : Hp} {b : Addr} {o : Obj} (e : (hidT h H).get? b = some o) : h.get? b = some o ∧ H b = none := by
  have e' : h.get? b = some o := PySem.W.of_hideAll (trk h H) e
  refine ⟨e', ?_⟩
  cases q : H b with
  | none => rfl
  | some x =>
    have hm : b ∈ trk h H := List.mem_filter.mpr ⟨List.mem_range.mpr (Heap.lt_size e'), by simp [q]⟩
    have z : (hidT h H).get? b = none := PySem.W.hideAll_none (trk h H) hm
    rw [z] at e; cases e

/-! ### OpenK's ledger, filled with every new object but one -/
def allNews (g h : Heap) (L : Addr) : List (Addr × Obj) := (List.range h.objs.size).filterMap fun a => if a = L ∨ (g.get? a).isSome = true then none else (h.get? a).map fun o => (a, o)
def rest (g h : Heap) (L d : Addr) : List (Addr × Obj) := (allNews g h L).filter fun p => decide (p.1 ≠ d)
end L2

namespace L2
open PySem PySem.Spec PyProof.Rows

/-- the module's facts, over the base: the heap at the law's entry without what is tracked there -/
structure Mod (K : PySem.W.Frag) (mg : Str → Option Value) (base : Heap) : Prop where
  kin : K.In base
  glob : base.Ns mainGlobals mg
  blt : ∃ mb, base.Ns builtinsNs mb ∧ ∀ x : Str, x ≠ "__name__" → mb x = bootBuiltins x
  nolimit : base.NoLimit

/-- the context: a def's body (or a comprehension's block) running. base: fixed through the whole law; s₀, H₀: the entry; outer: the frames whose slots others may change (a def's callers); stack: all frames that run;
   ex: iterators that were made ahead of the entry and are walked here (a comprehension's); fn: the names whose cells were made at the entry (a def: all; a comprehension's block: its own); calm: not within an except suite; pn: pins that every state bears; xe: what is wanted of an exception that leaves the code -/
structure Cx where
  prog : Program
  w : World
  K : PySem.W.Frag
  mg : Str → Option Value
  base : Heap
  A : Around
  N : List Str
  s₀ : Shared
  H₀ : Hp
  env : Env
  outer : List Env
  stack : List Env
  ex : List Addr
  fn : Str → Bool
  calm : Bool
  pn : List (Addr × Obj)
  xe : Value → Shared → Prop
/-- the callers' frames -/
def frs (l : List Env) : List Addr := l.filterMap (·.frame)
abbrev Cx.fs (X : Cx) : List Addr := frs X.outer

def Vis (sc : Scope) (x : Str) : Prop := sc.names.lookup x = some .local ∨ sc.names.lookup x = some .cell ∨ sc.names.lookup x = some .free
def Loc (sc : Scope) (x : Str) : Prop := sc.names.lookup x = some .local ∨ sc.names.lookup x = some .cell
def Look (env : Env) (h : Heap) (m : Str → Option Value) (x : Str) (u : Value) : Prop :=
  (env.kindOf x = some .local ∧ m x = some u) ∨ ((env.kindOf x = some .cell ∨ env.kindOf x = some .free) ∧ ∃ c, env.cells.lookup x = some c ∧ h.IsCell c (some u))

structure Cx.Ok (X : Cx) : Prop where
  mod : Mod X.K X.mg X.base
  kind : X.env.scope.kind = .function
  glob : X.env.globals = mainGlobals
  blt : X.env.builtins = builtinsNs
  above : X.s₀.heap.objs.size ≤ X.env.locals
  inj : ∀ x y c, X.env.cells.lookup x = some c → X.env.cells.lookup y = some c → x = y
  has : ∀ x, (X.env.kindOf x = some .cell ∨ X.env.kindOf x = some .free) → ∃ c, X.env.cells.lookup x = some c
  cab : ∀ x c, X.fn x = true → X.env.cells.lookup x = some c → X.s₀.heap.objs.size ≤ c
  hd : X.calm = true → X.A.handled = none
  frames : X.A.frames = some X.stack
  stk : X.stack = X.outer ∨ (X.stack = X.env :: X.outer ∧ X.env.frame = some X.env.locals)
  exf : ∀ b ∈ X.ex, b ≠ X.env.locals ∧ ∀ x c, X.env.cells.lookup x = some c → c ≠ b
  bs : ∀ b o, X.base.get? b = some o → X.s₀.heap.get? b = some o ∧ X.H₀ b = none
  bsz : X.base.objs.size ≤ X.s₀.heap.objs.size
  noex : ∀ b o, X.base.get? b = some o → b ∉ X.ex
  exfs : ∀ b ∈ X.ex, b ∉ X.fs
  funs : X.s₀.heap.FunFrames X.base X.outer
  frf : ∀ b ∈ X.fs, X.H₀ b = none

structure Inv (X : Cx) (pins : List (Addr × Obj)) (σ : List (Option V)) (H : Hp) (s : Shared) : Prop where
  ok : X.Ok
  os : s.os = X.s₀.os
  bare : AllBare s.gens
  base : Un X.fs X.ex X.H₀ H X.s₀.heap s.heap
  loc : ∃ m, s.heap.Ns X.env.locals m ∧ ∀ (i : Nat) (x : Str) (v : V), X.N[i]? = some x → σ[i]? = some (some v) → Vis X.env.scope x → ∃ u, RelV v u ∧ Look X.env s.heap m x u
  cell : ∀ x c, X.env.cells.lookup x = some c → ∃ v, s.heap.IsCell c v
  free : H X.env.locals = none
  freeC : ∀ x c, X.env.cells.lookup x = some c → H c = none
  pin : ∀ p ∈ X.pn ++ pins, s.heap.get? p.1 = some p.2 ∧ H p.1 = none ∧ p.1 ≠ X.env.locals ∧ p.1 ∉ X.fs ∧ ∀ v, p.2.data ≠ .cell v
  hok : HOk X.prog X.w H s.heap
  len : σ.length = X.N.length

section
variable {X : Cx} {pins : List (Addr × Obj)} {σ : List (Option V)} {H H' : Hp} {s : Shared} {h' : Heap}

theorem Cx.Ok.nofr (ok : X.Ok) {b : Addr} {o : Obj} (e : X.base.get? b = some o) : b ∉ X.fs := fun hb => by
  have := (ok.funs.mem hb).1
  rw [e] at this; cases this
theorem Inv.bs (I : Inv X pins σ H s) : ∀ b o, X.base.get? b = some o → s.heap.get? b = some o ∧ H b = none := fun b o e =>
  ⟨I.base.keep b o (I.ok.bs b o e).1 (I.ok.bs b o e).2 (I.ok.nofr e) (I.ok.noex b o e), I.base.free b o (I.ok.bs b o e).1 (I.ok.bs b o e).2 (I.ok.noex b o e)⟩
theorem Inv.bk (I : Inv X pins σ H s) : ∀ b o, X.base.get? b = some o → s.heap.get? b = some o := fun b o e => (I.bs b o e).1
theorem Inv.mod (I : Inv X pins σ H s) : Mod X.K X.mg X.base := I.ok.mod
theorem Inv.kIn (I : Inv X pins σ H s) : X.K.In s.heap := I.ok.mod.kin.keeps I.bk
/-- the frame over the base: for OpenK's rules (K.In X.base is I.mod.kin) -/
theorem Inv.fr (I : Inv X pins σ H s) : ∃ m, Fr X.base X.env.locals s.heap m :=
  let ⟨m, hn, _⟩ := I.loc
  ⟨m, hn, I.bk, Nat.le_trans I.ok.bsz I.ok.above⟩
theorem Inv.lt (I : Inv X pins σ H s) : X.env.locals < s.heap.objs.size := let ⟨_, hn, _⟩ := I.loc; hn.lt
theorem Inv.sz (I : Inv X pins σ H s) : X.s₀.heap.objs.size ≤ s.heap.objs.size := Nat.le_trans I.ok.above (Nat.le_of_lt I.lt)
theorem Inv.nofs (I : Inv X pins σ H s) {a : Addr} (h : s.heap.objs.size ≤ a) : a ∉ X.fs := fun hb => by
  obtain ⟨_, o, ho, _⟩ := I.ok.funs.mem hb
  exact absurd (Nat.lt_of_lt_of_le (Heap.lt_size ho) (Nat.le_trans I.sz h)) (Nat.lt_irrefl _)
theorem Inv.cne (I : Inv X pins σ H s) : ∀ x c, X.env.cells.lookup x = some c → c ≠ X.env.locals := fun x c e z => by
  obtain ⟨v, o, ho, hd⟩ := I.cell x c e
  obtain ⟨m, ⟨o', es, ep, ho', hd', _⟩, _⟩ := I.loc
  rw [z, ho'] at ho; cases ho; rw [hd'] at hd; cases hd
theorem Inv.funs (I : Inv X pins σ H s) : s.heap.FunFrames X.base X.outer := by
  have all : ∀ (l : List Env), (∀ b ∈ frs l, b ∈ X.fs) → X.s₀.heap.FunFrames X.base l → s.heap.FunFrames X.base l := by
    intro l
    induction l with
    | nil => intro _ _; trivial
    | cons env r ih =>
      intro hs hl
      obtain ⟨hk, ⟨L, o, hf, hn, ho, hd⟩, hr⟩ := hl
      have hL : L ∈ X.fs := hs L (by unfold frs; rw [List.filterMap_cons, hf]; exact List.mem_cons_self)
      obtain ⟨sl, e⟩ := I.base.slot L o ho (I.ok.frf L hL) hL fun z => I.ok.exfs L z hL
      exact ⟨hk, ⟨L, _, hf, hn, e, hd⟩, ih (fun b hb => hs b (by unfold frs; rw [List.filterMap_cons, hf]; exact List.mem_cons_of_mem _ hb)) hr⟩
  exact all X.outer (fun _ hb => hb) I.ok.funs

/-- the frames that run, for a call -/
theorem Inv.stack (I : Inv X pins σ H s) : s.heap.FunFrames X.base X.stack := by
  rcases I.ok.stk with e | ⟨e, hf⟩
  · rw [e]; exact I.funs
  · rw [e]
    obtain ⟨m, hn, _⟩ := I.loc
    refine .cons (by rw [I.ok.kind]; decide) hf hn ?_ I.funs
    exact Heap.get?_none_of_le (Nat.le_trans I.ok.bsz I.ok.above)
theorem Inv.stkSub (I : Inv X pins σ H s) : ∀ b ∈ frs X.stack, b ∈ X.env.locals :: X.fs := fun b hb => by
  rcases I.ok.stk with e | ⟨e, hf⟩
  · rw [e] at hb; exact List.mem_cons_of_mem _ hb
  · rw [e] at hb
    unfold frs at hb
    rw [List.filterMap_cons, hf] at hb
    exact hb
theorem Inv.stkFree (I : Inv X pins σ H s) : ∀ b ∈ frs X.stack, H b = none := fun b hb => by
  rcases List.mem_cons.mp (I.stkSub b hb) with e | hb
  · rw [e]; exact I.free
  · obtain ⟨_, o, ho, _⟩ := I.ok.funs.mem hb
    exact I.base.free b o ho (I.ok.frf b hb) fun z => I.ok.exfs b z hb

/-- THE STEP: the untracked objects but the frame and the records at ch are kept (the callers' frames up to slots), the frame's map is kept, the new abstract heap is held -/
theorem Inv.step {g' : Array GenState} {t' : Nat} {d' : Drawn} {ch : List Addr} (I : Inv X pins σ H s)
    (hch : ∀ b ∈ ch, (b ∈ X.ex ∨ X.s₀.heap.objs.size ≤ b) ∧ b ≠ X.env.locals ∧ (∀ x c, X.env.cells.lookup x = some c → c ≠ b) ∧ ∀ p ∈ X.pn ++ pins, p.1 ≠ b)
    (keep : ∀ b o, b ≠ X.env.locals → b ∉ X.fs → b ∉ ch → s.heap.get? b = some o → H b = none → h'.get? b = some o)
    (slot : ∀ b o, b ≠ X.env.locals → b ∈ X.fs → b ∉ ch → s.heap.get? b = some o → H b = none → ∃ sl, h'.get? b = some { o with slots := sl }) (free : ∀ b o, b ∉ ch → s.heap.get? b = some o → H b = none → H' b = none)
    (there : ∀ b o, b ∉ ch → s.heap.get? b = some o → ∃ o', h'.get? b = some o')
    (tups : ∀ b xs, H b = some (.tup xs) → H' b = some (.tup xs)) (frzs : ∀ b o u, H b = some (.frz o u) → H' b = some (.frz o u)) (tbls : ∀ b ps, H b = some (.tbl ps) → ∃ more, H' b = some (.tbl (ps ++ more)))
    (ns : ∀ m, s.heap.Ns X.env.locals m → h'.Ns X.env.locals m) (hok : HOk X.prog X.w H' h') (hg : AllBare g') :
    Inv X pins σ H' { s with heap := h', gens := g', drawn := d', toks := t' } := by
  have neL : ∀ b o, X.s₀.heap.get? b = some o → b ≠ X.env.locals := fun b o e => Nat.ne_of_lt (Nat.lt_of_lt_of_le (Heap.lt_size e) I.ok.above)
  have neC : ∀ b o, X.s₀.heap.get? b = some o → b ∉ X.ex → b ∉ ch := fun b o e hx hb => by
    rcases (hch b hb).1 with z | z
    · exact hx z
    · exact absurd (Nat.lt_of_lt_of_le (Heap.lt_size e) z) (Nat.lt_irrefl _)
  have cellK : ∀ x c, X.env.cells.lookup x = some c → ∀ v, s.heap.IsCell c v → h'.IsCell c v := fun x c e v ⟨o, ho, hd⟩ => by
    have nch : c ∉ ch := fun z => (hch c z).2.2.1 x c e rfl
    by_cases hc : c ∈ X.fs
    · obtain ⟨sl, q⟩ := slot c o (I.cne x c e) hc nch ho (I.freeC x c e)
      exact ⟨_, q, hd⟩
    · exact ⟨o, keep c o (I.cne x c e) hc nch ho (I.freeC x c e), hd⟩
  refine ⟨I.ok, I.os, hg, ⟨fun b o e n hb hx => ?_, fun b o e n hb hx => ?_, fun b o e n hx => ?_, fun b o e hx => ?_, fun b xs e => tups b xs (I.base.tups b xs e), fun b o xs e => frzs b o xs (I.base.frzs b o xs e), fun b ps e => ?_⟩, ?_, fun x c e => ?_, ?_, fun x c e => ?_, fun p hp => ?_, hok, I.len⟩
  · exact keep b o (neL b o e) hb (neC b o e hx) (I.base.keep b o e n hb hx) (I.base.free b o e n hx)
  · obtain ⟨sl, e1⟩ := I.base.slot b o e n hb hx
    obtain ⟨sl', e2⟩ := slot b _ (neL b o e) hb (neC b o e hx) e1 (I.base.free b o e n hx)
    exact ⟨sl', e2⟩
  · obtain ⟨o', e1⟩ := I.base.there b o e hx
    exact free b o' (neC b o e hx) e1 (I.base.free b o e n hx)
  · obtain ⟨o', e1⟩ := I.base.there b o e hx
    exact there b o' (neC b o e hx) e1
  · obtain ⟨m1, e1⟩ := I.base.tbls b ps e
    obtain ⟨m2, e2⟩ := tbls b _ e1
    exact ⟨m1 ++ m2, by rw [e2, Array.append_assoc]⟩
  · obtain ⟨m, hn, hl⟩ := I.loc
    refine ⟨m, ns m hn, fun i x v e1 e2 e3 => ?_⟩
    obtain ⟨u, r, l⟩ := hl i x v e1 e2 e3
    refine ⟨u, r, ?_⟩
    rcases l with l | ⟨k, c, e, z⟩
    · exact .inl l
    · exact .inr ⟨k, c, e, cellK x c e _ z⟩
  · obtain ⟨v, z⟩ := I.cell x c e
    exact ⟨v, cellK x c e v z⟩
  · obtain ⟨m, ⟨o, _, _, ho, _⟩, _⟩ := I.loc
    exact free _ o (fun z => (hch _ z).2.1 rfl) ho I.free
  · obtain ⟨v, o, ho, hd⟩ := I.cell x c e
    exact free c o (fun z => (hch c z).2.2.1 x c e rfl) ho (I.freeC x c e)
  · obtain ⟨e, n, ne, nf, d⟩ := I.pin p hp
    have nch : p.1 ∉ ch := fun z => (hch p.1 z).2.2.2 p hp rfl
    exact ⟨keep p.1 p.2 ne nf nch e n, free p.1 p.2 nch e n, ne, nf, d⟩
/-- .. where the frame's own object is kept too -/
theorem Inv.un {t' : Nat} (I : Inv X pins σ H s) (u : Un X.fs [] H H' s.heap h') (hok : HOk X.prog X.w H' h') : Inv X pins σ H' { s with heap := h', toks := t' } := by
  obtain ⟨m, ⟨o, es, ep, ho, r⟩, _⟩ := id I.loc
  obtain ⟨sl, hL⟩ := u.any ho I.free (by simp)
  exact I.step (g' := s.gens) (d' := s.drawn) (ch := []) (fun _ z => nomatch z) (fun b o _ hb _ e n => u.keep b o e n hb (by simp)) (fun b o _ hb _ e n => u.slot b o e n hb (by simp)) (fun b o _ e n => u.free b o e n (by simp)) (fun b o _ e => u.there b o e (by simp)) u.tups u.frzs u.tbls (fun m' hm => by
    obtain ⟨o', es', ep', ho', r'⟩ := hm
    rw [ho] at ho'; cases ho'
    exact ⟨_, es', ep', hL, r'⟩) hok I.bare
/-- behind a call (or a comprehension's block): the slots of this frame may have changed too, the records at ch may have turned -/
theorem Inv.call {g' : Array GenState} {t' : Nat} {d' : Drawn} {ch : List Addr} (I : Inv X pins σ H s) (u : Un (frs X.stack) ch H H' s.heap h') (hok : HOk X.prog X.w H' h') (hg : AllBare g')
    (hch : ∀ b ∈ ch, (b ∈ X.ex ∨ X.s₀.heap.objs.size ≤ b) ∧ b ≠ X.env.locals ∧ (∀ x c, X.env.cells.lookup x = some c → c ≠ b) ∧ ∀ p ∈ X.pn ++ pins, p.1 ≠ b) :
    Inv X pins σ H' { s with heap := h', gens := g', drawn := d', toks := t' } := by
  obtain ⟨m, ⟨o, es, ep, ho, r⟩, _⟩ := id I.loc
  obtain ⟨sl, hL⟩ := u.any ho I.free fun z => (hch _ z).2.1 rfl
  exact I.step (ch := ch) hch (fun b o hL hb hc e n => u.keep b o e n (fun z => (List.mem_cons.mp (I.stkSub b z)).elim hL hb) hc) (fun b o _ _ hc e n => u.any e n hc) (fun b o hc e n => u.free b o e n hc) (fun b o hc e => u.there b o e hc) u.tups u.frzs u.tbls (fun m' hm => by
    obtain ⟨o', es', ep', ho', r'⟩ := hm
    rw [ho] at ho'; cases ho'
    exact ⟨_, es', ep', hL, r'⟩) hok hg
/-- an untracked record of ours (an iterator) has turned -/
theorem Inv.turned {t' : Nat} {it : Addr} (I : Inv X pins σ H s) (k : ∀ b o, b ≠ it → s.heap.get? b = some o → h'.get? b = some o) (hn : H it = none) (hL : it ≠ X.env.locals)
    (h1 : it ∈ X.ex ∨ X.s₀.heap.objs.size ≤ it) (h2 : ∀ x c, X.env.cells.lookup x = some c → c ≠ it) (h3 : ∀ p ∈ X.pn ++ pins, p.1 ≠ it) : Inv X pins σ H { s with heap := h', toks := t' } := by
  have nit : ∀ b u, H b = some u → b ≠ it := fun b u e z => by rw [z, hn] at e; cases e
  refine I.step (g' := s.gens) (d' := s.drawn) (ch := [it]) (fun b hb => ?_) (fun b o _ _ hc e _ => k b o (fun z => hc (by simp [z])) e) (fun b o _ _ hc e _ => ⟨o.slots, k b o (fun z => hc (by simp [z])) e⟩) (fun _ _ _ _ n => n)
    (fun b o hc e => ⟨o, k b o (fun z => hc (by simp [z])) e⟩) (fun _ _ e => e) (fun _ _ _ e => e) (fun b ps e => ⟨#[], by rw [e]; simp⟩) (fun m hm => ?_) (fun b u e => ?_) I.bare
  · have e : b = it := by simpa using hb
    subst e
    exact ⟨h1, hL, h2, h3⟩
  · obtain ⟨o, es, ep, ho, r⟩ := hm
    exact ⟨o, es, ep, k _ o (Ne.symm hL) ho, r⟩
  · refine (I.hok b u e).stay (fun c v hc q => k c v ?_ q) (fun _ q => q) fun _ _ q => q
    rcases hc with z | z
    · rw [z]; exact nit b u e
    · exact nit c _ z
theorem Inv.tok (I : Inv X pins σ H s) (t : Nat) : Inv X pins σ H { s with toks := t } := I.un (h' := s.heap) (t' := t) Un.refl I.hok
/-- all objects kept -/
theorem Inv.kept {t' : Nat} (I : Inv X pins σ H s) (k : ∀ b u, s.heap.get? b = some u → h'.get? b = some u) : Inv X pins σ H { s with heap := h', toks := t' } := I.un (Un.kept k) (I.hok.kept k)
/-- a new object laid and tracked -/
theorem Inv.laid {a : Addr} {o : HO} {t' : Nat} (I : Inv X pins σ H s) (k : ∀ b u, s.heap.get? b = some u → h'.get? b = some u) (hp : s.heap.objs.size ≤ a) (new : ObjOk X.prog X.w (upd H a o) h' a o) :
    Inv X pins σ (upd H a o) { s with heap := h', toks := t' } := I.un (Un.laid k hp (I.hok.fresh hp)) (I.hok.laid k hp new)
/-- an object written -/
theorem Inv.write {x e : Addr} {o : HO} {t' : Nat} (I : Inv X pins σ H s) (mu : Mut (H x)) (he : e = x ∨ H e = some (.own x)) (k : ∀ b u, b ≠ e → s.heap.get? b = some u → h'.get? b = some u) (heo : ∃ u, h'.get? e = some u)
    (new : ObjOk X.prog X.w (upd H x o) h' x o) : Inv X pins σ (upd H x o) { s with heap := h', toks := t' } := I.un (Un.write mu he k heo) (I.hok.write mu he k heo new)
/-- forgetting slots, pins -/
theorem Inv.weak {σ' : List (Option V)} (I : Inv X pins σ H s) (hl : σ'.length = σ.length) (w : ∀ (i : Nat) v, σ'[i]? = some (some v) → σ[i]? = some (some v)) : Inv X pins σ' H s :=
  ⟨I.ok, I.os, I.bare, I.base, let ⟨m, hn, hl'⟩ := I.loc; ⟨m, hn, fun i x v e1 e2 e3 => hl' i x v e1 (w i v e2) e3⟩, I.cell, I.free, I.freeC, I.pin, I.hok, hl.trans I.len⟩
theorem Inv.pins_of {pins' : List (Addr × Obj)} (I : Inv X pins σ H s) (h : ∀ p ∈ pins', s.heap.get? p.1 = some p.2 ∧ H p.1 = none ∧ p.1 ≠ X.env.locals ∧ p.1 ∉ X.fs ∧ ∀ v, p.2.data ≠ .cell v) : Inv X pins' σ H s :=
  ⟨I.ok, I.os, I.bare, I.base, I.loc, I.cell, I.free, I.freeC, fun p hp => (List.mem_append.mp hp).elim (fun z => I.pin p (List.mem_append_left _ z)) (h p), I.hok, I.len⟩

theorem nodup_ix {N : List Str} (hN : N.Nodup) {i j : Nat} {x : Str} (a : N[i]? = some x) (b : N[j]? = some x) : i = j := by
  obtain ⟨h1, e1⟩ := List.getElem?_eq_some_iff.mp a
  obtain ⟨h2, e2⟩ := List.getElem?_eq_some_iff.mp b
  exact (List.getElem_inj hN).mp (e1.trans e2.symm)

/-- a name is stored; what changed -/
theorem store_ok2 {M : Model} {A : Around} {E : Value → Shared → Prop} {i : Nat} {x : Str} {v : V} {u : Value} {Q : Unit → Shared → Prop} (I : Inv X pins σ H s) (hN : X.N.Nodup) (hi : X.N[i]? = some x) (hx : Loc X.env.scope x) (r : RelV v u)
    (h : ∀ s', Inv X pins (σ.set i (some v)) H s' → (∃ a, Heap.SameBut a s.heap s'.heap ∧ (a = X.env.locals ∨ X.env.cells.lookup x = some a)) → Q () s') (hf : X.fn x = true ∨ X.env.scope.names.lookup x = some .local := by first | exact .inl rfl | exact .inr rfl | assumption) : wpAny M A (storeName X.env x u) Q E s := by
  obtain ⟨m, hn, hl⟩ := id I.loc
  have hcls : (X.env.scope.kind == .class || (X.env.scope.kind == .module && X.env.locals != X.env.globals)) = false := by rw [I.ok.kind]; rfl
  have hiσ : i < σ.length := by rw [I.len]; exact (List.getElem?_eq_some_iff.mp hi).1
  have cne := I.cne
  have tracked : ∀ {a : Addr} {h' : Heap}, (∃ o, s.heap.get? a = some o ∧ H a = none) → Heap.SameBut a s.heap h' → HOk X.prog X.w H h' := fun {a h'} ha hs b ob e => by
    obtain ⟨_, _, hfree⟩ := ha
    refine (I.hok b ob e).stay (fun c w' hc q => (hs.2 c ?_).trans q) (fun _ q => q) fun _ _ q => q
    rintro rfl
    rcases hc with rfl | hc
    · rw [hfree] at e; cases e
    · rw [hfree] at hc; cases hc
  rcases hx with hk | hk
  · refine wpAny_storeName_local hk hn (fun h' hn' hs => ?_) hcls
    obtain ⟨oL, _, _, hoL, _⟩ := id hn
    refine h _ ⟨I.ok, I.os, I.bare, ⟨fun b o e n hb hx => ?_, fun b o e n hb hx => ?_, I.base.free, fun b o e hx => ?_, I.base.tups, I.base.frzs, I.base.tbls⟩, ⟨_, hn', fun j y v' e1 e2 e3 => ?_⟩, fun y c e => ?_, I.free, I.freeC, fun p hp => ?_, tracked ⟨oL, hoL, I.free⟩ hs, by simpa using I.len⟩ ⟨_, hs, .inl rfl⟩
    · exact (hs.2 b (Nat.ne_of_lt (Nat.lt_of_lt_of_le (Heap.lt_size e) I.ok.above))).trans (I.base.keep b o e n hb hx)
    · obtain ⟨sl, e1⟩ := I.base.slot b o e n hb hx
      exact ⟨sl, (hs.2 b (Nat.ne_of_lt (Nat.lt_of_lt_of_le (Heap.lt_size e) I.ok.above))).trans e1⟩
    · obtain ⟨o', e1⟩ := I.base.there b o e hx
      exact ⟨o', (hs.2 b (Nat.ne_of_lt (Nat.lt_of_lt_of_le (Heap.lt_size e) I.ok.above))).trans e1⟩
    · by_cases hj : j = i
      · subst hj
        rw [hi] at e1; cases e1
        rw [List.getElem?_set_self hiσ] at e2
        cases e2
        exact ⟨u, r, .inl ⟨hk, by simp⟩⟩
      · rw [List.getElem?_set_ne (Ne.symm hj)] at e2
        obtain ⟨u', r', q⟩ := hl j y v' e1 e2 e3
        refine ⟨u', r', ?_⟩
        rcases q with ⟨k, e⟩ | ⟨k, c, e, z⟩
        · refine .inl ⟨k, ?_⟩
          have : y ≠ x := fun e => hj (nodup_ix hN e1 (e ▸ hi))
          simp [this, e]
        · exact .inr ⟨k, c, e, z.sameBut hs (cne y c e)⟩
    · obtain ⟨w', z⟩ := I.cell y c e
      exact ⟨w', z.sameBut hs (cne y c e)⟩
    · obtain ⟨e, n, ne, nf, d⟩ := I.pin p hp
      exact ⟨(hs.2 p.1 ne).trans e, n, ne, nf, d⟩
  · have hfn : X.fn x = true := by
      rcases hf with z | z
      · exact z
      · rw [z] at hk; cases hk
    obtain ⟨c, hc⟩ := I.ok.has x (.inl hk)
    obtain ⟨w', z⟩ := I.cell x c hc
    refine wpAny_storeName_cell I.ok.kind hk hc z (fun h' hc' hs => ?_)
    obtain ⟨oc, hoc, hocd⟩ := id z
    refine h { s with heap := h' } ⟨I.ok, I.os, I.bare, ⟨fun b o e n hb hx => ?_, fun b o e n hb hx => ?_, I.base.free, fun b o e hx => ?_, I.base.tups, I.base.frzs, I.base.tbls⟩, ⟨m, hn.sameBut hs (Ne.symm (cne x c hc)), fun j y v' e1 e2 e3 => ?_⟩, fun y c' e => ?_, I.free, I.freeC, fun p hp => ?_, tracked ⟨oc, hoc, I.freeC x c hc⟩ hs, by simpa using I.len⟩ ⟨c, hs, .inr hc⟩
    · exact (hs.2 b (Nat.ne_of_lt (Nat.lt_of_lt_of_le (Heap.lt_size e) (I.ok.cab x c hfn hc)))).trans (I.base.keep b o e n hb hx)
    · obtain ⟨sl, e1⟩ := I.base.slot b o e n hb hx
      exact ⟨sl, (hs.2 b (Nat.ne_of_lt (Nat.lt_of_lt_of_le (Heap.lt_size e) (I.ok.cab x c hfn hc)))).trans e1⟩
    · obtain ⟨o', e1⟩ := I.base.there b o e hx
      exact ⟨o', (hs.2 b (Nat.ne_of_lt (Nat.lt_of_lt_of_le (Heap.lt_size e) (I.ok.cab x c hfn hc)))).trans e1⟩
    · by_cases hj : j = i
      · subst hj
        rw [hi] at e1; cases e1
        rw [List.getElem?_set_self hiσ] at e2
        cases e2
        exact ⟨u, r, .inr ⟨.inl hk, c, hc, hc'⟩⟩
      · rw [List.getElem?_set_ne (Ne.symm hj)] at e2
        obtain ⟨u', r', q⟩ := hl j y v' e1 e2 e3
        refine ⟨u', r', ?_⟩
        rcases q with q | ⟨k, c', e, z'⟩
        · exact .inl q
        · refine .inr ⟨k, c', e, z'.sameBut hs ?_⟩
          rintro rfl
          exact hj (nodup_ix hN e1 (I.ok.inj _ _ _ e hc ▸ hi))
    · by_cases hcc : c' = c
      · subst hcc; exact ⟨_, hc'⟩
      · obtain ⟨w2, z2⟩ := I.cell y c' e
        exact ⟨w2, z2.sameBut hs hcc⟩
    · obtain ⟨e, n, ne, nf, d⟩ := I.pin p hp
      refine ⟨(hs.2 p.1 ?_).trans e, n, ne, nf, d⟩
      intro q
      rw [q, hoc] at e
      have q' : oc = p.2 := Option.some.inj e
      exact d w' (by rw [← q']; exact hocd)
theorem store_ok {M : Model} {A : Around} {E : Value → Shared → Prop} {i : Nat} {x : Str} {v : V} {u : Value} {Q : Unit → Shared → Prop} (I : Inv X pins σ H s) (hN : X.N.Nodup) (hi : X.N[i]? = some x) (hx : Loc X.env.scope x) (r : RelV v u)
    (h : ∀ s', Inv X pins (σ.set i (some v)) H s' → Q () s') (hf : X.fn x = true ∨ X.env.scope.names.lookup x = some .local := by first | exact .inl rfl | exact .inr rfl | assumption) : wpAny M A (storeName X.env x u) Q E s :=
  store_ok2 I hN hi hx r (fun s' I' _ => h s' I') hf
/-- behind a call or a block, the state as it is -/
theorem Inv.call' {s' : Shared} {ch : List Addr} (I : Inv X pins σ H s) (ho : s'.os = s.os) (u : Un (frs X.stack) ch H H' s.heap s'.heap) (hok : HOk X.prog X.w H' s'.heap) (hg : AllBare s'.gens)
    (hch : ∀ b ∈ ch, (b ∈ X.ex ∨ X.s₀.heap.objs.size ≤ b) ∧ b ≠ X.env.locals ∧ (∀ x c, X.env.cells.lookup x = some c → c ≠ b) ∧ ∀ p ∈ X.pn ++ pins, p.1 ≠ b) : Inv X pins σ H' s' := by
  obtain ⟨h', g', d', t', o'⟩ := s'
  have e : o' = s.os := ho
  subst e
  exact I.call (g' := g') (t' := t') (d' := d') u hok hg hch
end

/-! ### the judgements -/
/-- an exception: its class, its own dict's address (where it has one), the abstract heap behind it -/
abbrev XK := Value → Option Addr → Hp → Prop
abbrev St := List (Option V)
abbrev VK := V → Hp → Prop
/-- an expression's reading; a test's; an argument list's -/
abbrev TE := St → Hp → VK → Prop
abbrev TT := St → Hp → (Bool → Hp → Prop) → Prop
abbrev TA := St → Hp → (List V → Hp → Prop) → Prop
/-- what is wanted behind a statement -/
structure Ends where
  nx : St → Hp → Prop
  rt : VK
  bk : St → Hp → Prop := fun _ _ => False
  ct : St → Hp → Prop := fun _ _ => False
abbrev TS := Ends → St → Hp → Prop

def EP (X : Cx) (pins : List (Addr × Obj)) (σ : St) (Q : VK) (u : Value) (s' : Shared) : Prop := ∃ v H', Inv X pins σ H' s' ∧ RelV v u ∧ Q v H'
def TP (X : Cx) (pins : List (Addr × Obj)) (σ : St) (Q : Bool → Hp → Prop) (b : Bool) (s' : Shared) : Prop := ∃ H', Inv X pins σ H' s' ∧ Q b H'
def AP (X : Cx) (pins : List (Addr × Obj)) (σ : St) (Q : List V → Hp → Prop) (us : List Value) (s' : Shared) : Prop := ∃ vs H', Inv X pins σ H' s' ∧ Vals vs us ∧ Q vs H'
def SP (X : Cx) (pins : List (Addr × Obj)) (D : Ends) (f : Flow) (s' : Shared) : Prop :=
  match f with
  | .next => ∃ σ' H', Inv X pins σ' H' s' ∧ D.nx σ' H'
  | .brk => ∃ σ' H', Inv X pins σ' H' s' ∧ D.bk σ' H'
  | .cont => ∃ σ' H', Inv X pins σ' H' s' ∧ D.ct σ' H'
  | .ret u => ∃ v σ' H', Inv X pins σ' H' s' ∧ RelV v u ∧ D.rt v H'

def PE (X : Cx) (e : Expr) (t : TE) : Prop :=
  ∀ (pins : List (Addr × Obj)) (s : Shared) (σ : St) (H : Hp) (Q : VK), Inv X pins σ H s → t σ H Q → wpAny (model X.prog X.w) X.A (eval e X.env) (EP X pins σ Q) X.xe s
def PT (X : Cx) (e : Expr) (t : TT) : Prop :=
  ∀ (pins : List (Addr × Obj)) (s : Shared) (σ : St) (H : Hp) (Q : Bool → Hp → Prop), Inv X pins σ H s → t σ H Q → wpAny (model X.prog X.w) X.A (isTrue e X.env (eval e X.env)) (TP X pins σ Q) X.xe s
/-- a test whatever its 'whole' is (and, or) -/
def PW (X : Cx) (e : Expr) (t : TT) : Prop :=
  ∀ (whole : Sem Value) (pins : List (Addr × Obj)) (s : Shared) (σ : St) (H : Hp) (Q : Bool → Hp → Prop), Inv X pins σ H s → t σ H Q → wpAny (model X.prog X.w) X.A (isTrue e X.env whole) (TP X pins σ Q) X.xe s
theorem PW.pt {X : Cx} {e : Expr} {t : TT} (h : PW X e t) : PT X e t := h _
/-- an argument list (no star), from the left -/
def PA (X : Cx) (es : List Expr) (t : TA) : Prop :=
  ∀ (pos : Pos) (pins : List (Addr × Obj)) (s : Shared) (σ : St) (H : Hp) (Q : List V → Hp → Prop), Inv X pins σ H s → t σ H Q → wpAny (model X.prog X.w) X.A (spliced (backTo pos (starEach es X.env))) (AP X pins σ Q) X.xe s
def PS (X : Cx) (st : Stmt) (t : TS) : Prop :=
  ∀ (pins : List (Addr × Obj)) (s : Shared) (σ : St) (H : Hp) (D : Ends), Inv X pins σ H s → t D σ H → wpAny (model X.prog X.w) X.A (exec st X.env) (SP X pins D) X.xe s
def PSs (X : Cx) (st : List Stmt) (t : TS) : Prop :=
  ∀ (pins : List (Addr × Obj)) (s : Shared) (σ : St) (H : Hp) (D : Ends), Inv X pins σ H s → t D σ H → wpAny (model X.prog X.w) X.A (execs st X.env) (SP X pins D) X.xe s
/-- weaken the end -/
theorem thn {α : Type} {t : Sem α} {Q Q' : α → Shared → Prop} {M : Model} {A : Around} {E : Value → Shared → Prop} {s : Shared} (h : wpAny M A t Q E s) (hQ : ∀ a s, Q a s → Q' a s) : wpAny M A t Q' E s := wpAny_mono h hQ fun _ _ x => x
end L2

namespace L2
open PySem PySem.Spec PyProof.Rows
section
variable {X : Cx}

/-- two expressions in a row -/
theorem bin {a b : Expr} {ta tb : TE} (ha : PE X a ta) (hb : PE X b tb) {pins : List (Addr × Obj)} {s : Shared} {σ : St} {H : Hp} {R : V → V → Hp → Prop} (I : Inv X pins σ H s) (h : ta σ H fun x H1 => tb σ H1 fun y H2 => R x y H2)
    {α : Type} {Q : α → Shared → Prop} {f : Value → Value → Sem α}
    (hf : ∀ v u s2 x y H2, Inv X pins σ H2 s2 → RelV x v → RelV y u → R x y H2 → wpAny (model X.prog X.w) X.A (f v u) Q X.xe s2) :
    wpAny (model X.prog X.w) X.A (eval a X.env) (fun v s₁ => wpAny (model X.prog X.w) X.A (eval b X.env) (fun u s₂ => wpAny (model X.prog X.w) X.A (f v u) Q X.xe s₂) X.xe s₁) X.xe s := by
  refine thn (ha pins s σ H _ I h) fun v s1 ⟨x, H1, I1, r1, q1⟩ => ?_
  refine thn (hb pins s1 σ H1 _ I1 q1) fun u s2 ⟨y, H2, I2, r2, q2⟩ => ?_
  exact hf v u s2 x y H2 I2 r1 r2 q2

/-! ### names and constants -/
def tVar (i : Nat) : TE := fun σ H Q => ∃ v, σ[i]? = some (some v) ∧ Q v H
def tC (v : V) : TE := fun _ H Q => Q v H
theorem pe_var {i : Nat} {x : Str} {pos : Pos} (hN : X.N[i]? = some x) (hv : Vis X.env.scope x) (hd : (x == ("__debug__" : Str)) = false := by decide) (hcd : (x == ("__classdict__" : Str)) = false := by decide) : PE X (.Name x pos) (tVar i) := by
  intro pins s σ H Q I h
  obtain ⟨v, e, h⟩ := h
  obtain ⟨m, hn, hl⟩ := I.loc
  obtain ⟨u, r, l⟩ := hl i x v hN e hv
  have fin : EP X pins σ Q u s := ⟨v, H, I, r, h⟩
  rcases l with ⟨hk, hm⟩ | ⟨hk, c, hc, hcell⟩
  · exact wpAny_Name (wpAny_loadName_local I.ok.kind hk hn hm fin) hd
  · rcases hk with hk | hk
    · exact wpAny_Name (wpAny_loadName_cell I.ok.kind hk hc hcell fin) hd
    · exact wpAny_Name (wpAny_loadName_free I.ok.kind hk hc hcell fin hcd) hd
theorem pe_int {i j pos} : PE X (.Constant (.int i) j pos) (tC (.int i)) := fun _ _ _ H _ I h => wpAny_Constant_int ⟨.int i, H, I.tok _, ⟨_, rfl⟩, h⟩
theorem pe_bl {b j pos} : PE X (.Constant (.bool b) j pos) (tC (.bl b)) := fun _ _ _ H _ I h => Constant_bool ⟨.bl b, H, I, rfl, h⟩
theorem pe_non {j pos} : PE X (.Constant .none j pos) (tC .non) := fun _ _ _ H _ I h => Constant_none ⟨.non, H, I, rfl, h⟩
theorem pe_str {x j pos} : PE X (.Constant (.str x) j pos) (tC (.str x)) := fun _ _ _ H _ I h => Calls.Constant_str ⟨.str x, H, I.tok _, ⟨_, rfl⟩, h⟩

/-- a global name of the def -/
def Gl (X : Cx) (x : Str) : Prop := X.env.kindOf x = some .globalImplicit
theorem ld_glob {E : Value → Shared → Prop} {pins : List (Addr × Obj)} {s : Shared} {σ : St} {H : Hp} {x : Str} {u : Value} {pos : Pos} {Q : Value → Shared → Prop} (I : Inv X pins σ H s) (hg : Gl X x) (hm : X.mg x = some u) (h : Q u s)
    (hd : (x == ("__debug__" : Str)) = false := by decide) : wpAny (model X.prog X.w) X.A (eval (.Name x pos) X.env) Q E s :=
  Calls.Name_function_global I.ok.kind hg (Calls.loadGlobal_global (by rw [I.ok.glob]; exact I.mod.glob.keeps I.bk) hm h) hd
theorem ld_blt {E : Value → Shared → Prop} {pins : List (Addr × Obj)} {s : Shared} {σ : St} {H : Hp} {x : Str} {u : Value} {pos : Pos} {Q : Value → Shared → Prop} (I : Inv X pins σ H s) (hg : Gl X x) (hm : X.mg x = none) (hv : bootBuiltins x = some u) (h : Q u s)
    (hn : x ≠ "__name__" := by decide) (hd : (x == ("__debug__" : Str)) = false := by decide) : wpAny (model X.prog X.w) X.A (eval (.Name x pos) X.env) Q E s := by
  obtain ⟨mb, h1, h2⟩ := I.mod.blt
  exact Calls.Name_function_global I.ok.kind hg (Calls.loadGlobal_builtin (by rw [I.ok.glob]; exact I.mod.glob.keeps I.bk) hm (by rw [I.ok.blt]; exact h1.keeps I.bk) ((h2 x hn).trans hv) h) hd
theorem pe_bltn {x : Str} {v : V} {u : Value} {pos : Pos} (hg : Gl X x) (hm : X.mg x = none) (hv : bootBuiltins x = some u) (r : RelV v u) (hn : x ≠ "__name__" := by decide) (hd : (x == ("__debug__" : Str)) = false := by decide) : PE X (.Name x pos) (tC v) :=
  fun _ _ _ H _ I h => ld_blt I hg hm hv ⟨v, H, I, r, h⟩ hn hd

/-! ### arithmetic -/
/-- two ints -/
def t2I (ta tb : TE) (k : Int → Int → Hp → Prop) : St → Hp → Prop := fun σ H => ta σ H fun x H1 => tb σ H1 fun y H2 => ∃ i j, x = .int i ∧ y = .int j ∧ k i j H2
def tAdd (ta tb : TE) : TE := fun σ H Q => t2I ta tb (fun i j H2 => Q (.int (i + j)) H2) σ H
def tSub (ta tb : TE) : TE := fun σ H Q => t2I ta tb (fun i j H2 => Q (.int (i - j)) H2) σ H
/-- the left factor below 2^64 -/
def tMul (ta tb : TE) : TE := fun σ H Q => t2I ta tb (fun i j H2 => (-(2 ^ 64) < i ∧ i < 2 ^ 64) ∧ Q (.int (i * j)) H2) σ H
variable {a b : Expr} {ta tb : TE} {pos : Pos}
/-! ### comparisons -/
def PC (X : Cx) (op : CmpOp) (a b : Expr) (t : TE) : Prop :=
  ∀ (pins : List (Addr × Obj)) (s : Shared) (σ : St) (H : Hp) (Q : VK), Inv X pins σ H s → t σ H Q →
    wpAny (model X.prog X.w) X.A (eval a X.env) (fun v s₁ => wpAny (model X.prog X.w) X.A (eval b X.env) (fun u s₂ => wpAny (model X.prog X.w) X.A (compareOp op v u) (EP X pins σ Q) X.xe s₂) X.xe s₁) X.xe s
theorem nobehind (b : Expr) {op : CmpOp} (h : op ≠ .In) (h2 : op ≠ .NotIn) : behindInMarks op b = false := by
  have e1 : (op == CmpOp.In) = false := by cases op <;> first | rfl | exact absurd rfl h
  have e2 : (op == CmpOp.NotIn) = false := by cases op <;> first | rfl | exact absurd rfl h2
  cases b <;> simp [behindInMarks, e1, e2]
def tCmp (p : Int → Int → Bool) (ta tb : TE) : TE := fun σ H Q => t2I ta tb (fun i j H2 => Q (.bl (p i j)) H2) σ H
abbrev tLt : TE → TE → TE := tCmp fun i j => decide (i < j)
abbrev tLe : TE → TE → TE := tCmp fun i j => decide (i ≤ j)
abbrev tGt : TE → TE → TE := tCmp fun i j => decide (j < i)
abbrev tGe : TE → TE → TE := tCmp fun i j => decide (j ≤ i)
abbrev tEqI : TE → TE → TE := tCmp fun i j => decide (i = j)
abbrev tNeI : TE → TE → TE := tCmp fun i j => !decide (i = j)
/-- is None -/
def tIsN (ta : TE) : TE := fun σ H Q => ta σ H fun x H1 => Q (.bl (decide (x = .non))) H1
def tNotN (ta : TE) : TE := fun σ H Q => ta σ H fun x H1 => Q (.bl (!decide (x = .non))) H1
/-- a comparison as a value, as a test -/
def tB (t : TE) : TT := fun σ H Q => t σ H fun x H1 => ∃ c, x = .bl c ∧ Q c H1
theorem pt_cmp {op : CmpOp} {t : TE} (h : PC X op a b t) (h1 : behindInMarks op b = false := by first | exact nobehind _ (by decide) (by decide) | rfl) : PT X (.Compare a [op] [b] pos) (tB t) := by
  intro pins s σ H Q I hw
  refine wpAny_isTrue_Compare1 (thn (h pins s σ H _ I hw) fun v s1 h1 => thn h1 fun u s2 h2 => thn h2 fun c s3 ⟨x, H1, I1, r1, q1⟩ => ?_) h1
  obtain ⟨d, rfl, q⟩ := q1
  cases r1
  exact wpAny_truthy_bool ⟨H1, I1, q⟩
/-- an expression whose value is a bool, as a test -/
theorem pt_val {e : Expr} {t : TE} (h : PE X e t) (he : ∀ whole, isTrue e X.env whole = (do let v ← whole; standAt e.pos; holding [v] (truthy v)) := by intro _; rfl) : PT X e (tB t) := by
  intro pins s σ H Q I hw
  refine isTrue_plain (thn (h pins s σ H _ I hw) fun v s1 ⟨x, H1, I1, r1, q1⟩ => ?_) (he _)
  obtain ⟨d, rfl, q⟩ := q1
  cases r1
  exact wpAny_truthy_bool ⟨H1, I1, q⟩

/-! ### and, or, not -/
variable {tA tB' : TT} {rest : List Expr}
def tAnd (t u : TT) : TT := fun σ H Q => t σ H fun c H1 => if c = true then u σ H1 Q else Q false H1
def tOr (t u : TT) : TT := fun σ H Q => t σ H fun c H1 => if c = true then Q true H1 else u σ H1 Q
def tNot (t : TT) : TT := fun σ H Q => t σ H fun c H1 => Q (!c) H1
theorem pw_and1 (ha : PT X a tA) : PW X (.BoolOp .And [a] pos) tA := by
  intro wh pins s σ H Q I h
  refine isTrue_and (thn (ha pins s σ H Q I h) fun c s1 e => ?_)
  cases c with
  | true => exact isTrue_and_nil e
  | false => exact e
theorem pw_or1 (ha : PT X a tA) : PW X (.BoolOp .Or [a] pos) tA := by
  intro wh pins s σ H Q I h
  refine isTrue_or (thn (ha pins s σ H Q I h) fun c s1 e => ?_)
  cases c with
  | false => exact isTrue_or_nil e
  | true => exact e
theorem pw_and (ha : PT X a tA) (hb : PW X (.BoolOp .And (b :: rest) pos) tB') : PW X (.BoolOp .And (a :: b :: rest) pos) (tAnd tA tB') := by
  intro wh pins s σ H Q I h
  refine isTrue_and (thn (ha pins s σ H _ I h) fun c s1 ⟨H1, I1, q1⟩ => ?_)
  cases c with
  | true => exact hb wh pins s1 σ H1 Q I1 q1
  | false => exact ⟨H1, I1, q1⟩
theorem pw_or (ha : PT X a tA) (hb : PW X (.BoolOp .Or (b :: rest) pos) tB') : PW X (.BoolOp .Or (a :: b :: rest) pos) (tOr tA tB') := by
  intro wh pins s σ H Q I h
  refine isTrue_or (thn (ha pins s σ H _ I h) fun c s1 ⟨H1, I1, q1⟩ => ?_)
  cases c with
  | true => exact ⟨H1, I1, q1⟩
  | false => exact hb wh pins s1 σ H1 Q I1 q1
theorem pt_not (ha : PT X a tA) : PT X (.UnaryOp .Not a pos) (tNot tA) := by
  intro pins s σ H Q I h
  exact isTrue_not (ha pins s σ H (fun c H1 => Q (!c) H1) I h)
/-- .. as values (bools) -/
def tAndV (ta tb : TE) : TE := fun σ H Q => ta σ H fun x H1 => ∃ c, x = .bl c ∧ if c = true then tb σ H1 Q else Q (.bl false) H1
def tOrV (ta tb : TE) : TE := fun σ H Q => ta σ H fun x H1 => ∃ c, x = .bl c ∧ if c = true then Q (.bl true) H1 else tb σ H1 Q
def tNotV (ta : TE) : TE := fun σ H Q => ta σ H fun x H1 => ∃ c, x = .bl c ∧ Q (.bl (!c)) H1
theorem pe_one {op} {t : TE} (h : PE X a t) : PE X (.BoolOp op [a] pos) t := fun pins s σ H Q I hw => BoolOp_one (h pins s σ H Q I hw)
theorem pe_and (ha : PE X a ta) (hb : PE X (.BoolOp .And (b :: rest) pos) tb) : PE X (.BoolOp .And (a :: b :: rest) pos) (tAndV ta tb) := by
  intro pins s σ H Q I h
  refine BoolOp_and (thn (ha pins s σ H _ I h) fun v s1 ⟨x, H1, I1, r1, q1⟩ => ?_)
  obtain ⟨c, rfl, q1⟩ := q1
  cases r1
  refine wpAny_truthy_bool ?_
  cases c with
  | true => exact hb pins s1 σ H1 Q I1 q1
  | false => exact ⟨.bl false, H1, I1, rfl, q1⟩
theorem pe_not (ha : PE X a ta) : PE X (.UnaryOp .Not a pos) (tNotV ta) := by
  intro pins s σ H Q I h
  refine UnaryOp_ (thn (ha pins s σ H _ I h) fun v s1 ⟨x, H1, I1, r1, q1⟩ => ?_)
  obtain ⟨c, rfl, q1⟩ := q1
  cases r1
  exact not_of (wpAny_truthy_bool ⟨.bl (!c), H1, I1, rfl, q1⟩)
/-- a if t else b -/
def tIf (t : TT) (ta tb : TE) : TE := fun σ H Q => t σ H fun c H1 => if c = true then ta σ H1 Q else tb σ H1 Q
end
end L2

namespace L2
open PySem PySem.Spec PyProof.Rows

/-! ### a list, a tuple that is read: tracked, frozen, or an object of the module -/
def SqL (K : PySem.W.Frag) (H : Hp) (a : Addr) (xs : List V) : Prop :=
  Rd H a (.lst xs) ∨
    ∃ (o : Obj) (its : Array Value) (n : Nat), K.lookup a = some o ∧ o.cls = .type "list" ∧ o.dict = none ∧ o.data = .seq its n ∧ its.size ≤ sizeLine ∧ Vals xs its.toList
def SqT (K : PySem.W.Frag) (H : Hp) (a : Addr) (xs : List V) : Prop :=
  Rd H a (.tup xs) ∨
    ∃ (o : Obj) (its : Array Value) (n : Nat), K.lookup a = some o ∧ o.cls = .type "tuple" ∧ o.data = .seq its n ∧ its.size ≤ sizeLine ∧ Vals xs its.toList
def absV : Value → Option V
  | .none => some .non
  | .bool b => some (.bl b)
  | .int i _ => some (.int i)
  | .str x _ => some (.str x)
  | .bytes b _ => some (.byt b)
  | .float b _ => some (.flt b)
  | .ref a => some (.ref a)
  | .type n => some (.ty n)
  | _ => none
theorem RelV.abs {x : V} {u : Value} (r : RelV x u) : absV u = some x := by
  cases x with
  | non => cases r; rfl
  | bl _ => cases r; rfl
  | int _ => obtain ⟨t, rfl⟩ := r; rfl
  | str _ => obtain ⟨t, rfl⟩ := r; rfl
  | byt _ => obtain ⟨t, rfl⟩ := r; rfl
  | flt _ => obtain ⟨t, rfl⟩ := r; rfl
  | ref _ => cases r; rfl
  | ty _ => cases r; rfl
theorem RelV.inj {x y : V} {u : Value} (r : RelV x u) (q : RelV y u) : x = y := Option.some.inj (r.abs.symm.trans q.abs)
theorem Vals.inj : ∀ {xs ys : List V} {us : List Value}, Vals xs us → Vals ys us → xs = ys
  | _, _, _, .nil, .nil => rfl
  | _, _, _, .cons r t, .cons r' t' => by rw [r.inj r', Vals.inj t t']
section
variable {X : Cx} {pins : List (Addr × Obj)} {σ : St} {H : Hp} {s : Shared} {a : Addr} {xs ys : List V}
theorem SqL.of {K : PySem.W.Frag} (h : H a = some (.lst xs)) : SqL K H a xs := .inl (.inl h)
theorem SqT.of {K : PySem.W.Frag} (h : H a = some (.tup xs)) : SqT K H a xs := .inl (.inl h)
theorem Inv.list (I : Inv X pins σ H s) (h : SqL X.K H a xs) : ∃ its : List Value, Vals xs its ∧ PlainL s.heap a its.toArray ∧ xs.length ≤ sizeLine := by
  rcases h with h | ⟨o, its, n, hk, hc, hd, hs, hz, r⟩
  · obtain ⟨z, its, n, r, e⟩ := h.ok I.hok
    exact ⟨its, r, ⟨_, n, e, rfl, rfl, rfl⟩, z⟩
  · refine ⟨its.toList, r, ⟨o, n, I.kIn a o hk, hc, hd, by simpa using hs⟩, ?_⟩
    have e := r.length
    simp only [Array.length_toList] at e
    omega
theorem Inv.tuple (I : Inv X pins σ H s) (h : SqT X.K H a xs) : ∃ its : List Value, Vals xs its ∧ IsTup s.heap a its.toArray ∧ xs.length ≤ sizeLine := by
  rcases h with h | ⟨o, its, n, hk, hc, hs, hz, r⟩
  · obtain ⟨z, its, r, p⟩ := h.ok I.hok
    exact ⟨its, r, p, z⟩
  · refine ⟨its.toList, r, ⟨o, I.kIn a o hk, hc, n, by simpa using hs⟩, ?_⟩
    have e := r.length
    simp only [Array.length_toList] at e
    omega
theorem Inv.list_inj (I : Inv X pins σ H s) (h : SqL X.K H a xs) (h' : SqL X.K H a ys) : xs = ys := by
  obtain ⟨its, r, ⟨o, n, e, _, _, d⟩, _⟩ := I.list h
  obtain ⟨its', r', ⟨o', n', e', _, _, d'⟩, _⟩ := I.list h'
  rw [e] at e'; cases e'
  rw [d] at d'
  injection d' with d1 _
  have : its = its' := by simpa using congrArg Array.toList d1
  subst this
  exact r.inj r'
end

/-! ### another wish about exceptions -/
abbrev Cx.wish (X : Cx) (E : Value → Shared → Prop) : Cx := { X with xe := E }
/-- no exception leaves -/
abbrev Cx.nox (X : Cx) : Cx := X.wish fun _ _ => False
theorem Cx.Ok.wish {X : Cx} (ok : X.Ok) (E : Value → Shared → Prop) : (X.wish E).Ok :=
  ⟨ok.mod, ok.kind, ok.glob, ok.blt, ok.above, ok.inj, ok.has, ok.cab, ok.hd, ok.frames, ok.stk, ok.exf, ok.bs, ok.bsz, ok.noex, ok.exfs, ok.funs, ok.frf⟩
theorem Cx.Ok.unwish {X : Cx} {E : Value → Shared → Prop} (ok : (X.wish E).Ok) : X.Ok :=
  ⟨ok.mod, ok.kind, ok.glob, ok.blt, ok.above, ok.inj, ok.has, ok.cab, ok.hd, ok.frames, ok.stk, ok.exf, ok.bs, ok.bsz, ok.noex, ok.exfs, ok.funs, ok.frf⟩
section
variable {X : Cx} {pins : List (Addr × Obj)} {σ : St} {H : Hp} {s : Shared} {E : Value → Shared → Prop}
theorem Inv.wish (I : Inv X pins σ H s) (E : Value → Shared → Prop) : Inv (X.wish E) pins σ H s := ⟨I.ok.wish E, I.os, I.bare, I.base, I.loc, I.cell, I.free, I.freeC, I.pin, I.hok, I.len⟩
theorem Inv.unwish (I : Inv (X.wish E) pins σ H s) : Inv X pins σ H s := ⟨I.ok.unwish, I.os, I.bare, I.base, I.loc, I.cell, I.free, I.freeC, I.pin, I.hok, I.len⟩
theorem SP.unwish {D : Ends} {f : Flow} {s' : Shared} (h : SP (X.wish E) pins D f s') : SP X pins D f s' := by
  cases f with
  | next => obtain ⟨σ', H', I, q⟩ := h; exact ⟨σ', H', I.unwish, q⟩
  | brk => obtain ⟨σ', H', I, q⟩ := h; exact ⟨σ', H', I.unwish, q⟩
  | cont => obtain ⟨σ', H', I, q⟩ := h; exact ⟨σ', H', I.unwish, q⟩
  | ret u => obtain ⟨v, σ', H', I, r, q⟩ := h; exact ⟨v, σ', H', I.unwish, r, q⟩
theorem PSs.nox {st : List Stmt} {t : TS} (h : PSs X.nox st t) : PSs X st t := fun pins s σ H D I hw =>
  wpAny_mono (h pins s σ H D (I.wish _) hw) (fun _ _ q => q.unwish) fun _ _ z => False.elim z
end

/-! ### blocks and small statements -/
section
variable {X : Cx} {st : Stmt} {rest : List Stmt} {t u : TS} {e : Expr} {te : TE} {pos : Pos}
def tNext : TS := fun D σ H => D.nx σ H
def tSeq (t u : TS) : TS := fun D σ H => t { D with nx := u D } σ H
theorem pss_nil : PSs X [] tNext := fun _ _ σ H _ I h => wpAny_execs_nil ⟨σ, H, I, h⟩
theorem pss_cons (h1 : PS X st t) (h2 : PSs X rest u) : PSs X (st :: rest) (tSeq t u) := by
  intro pins s σ H D I h
  refine wpAny_execs_cons (thn (h1 pins s σ H { D with nx := u D } I h) fun f s1 q => ?_)
  cases f with
  | next =>
    obtain ⟨σ', H', I', q⟩ := q
    exact h2 pins s1 σ' H' D I' q
  | ret v => exact q
  | brk => exact q
  | cont => exact q
theorem pss_one (h1 : PS X st t) : PSs X [st] t := by
  intro pins s σ H D I h
  refine wpAny_execs_cons (thn (h1 pins s σ H D I h) fun f s1 q => ?_)
  cases f with
  | next => exact wpAny_execs_nil q
  | ret v => exact q
  | brk => exact q
  | cont => exact q
def tBreak : TS := fun D σ H => D.bk σ H
def tCont : TS := fun D σ H => D.ct σ H
theorem ps_break : PS X (.Break pos) tBreak := fun _ _ σ H _ I h => wpAny_Break ⟨σ, H, I, h⟩
/-- in a def's body nothing is shown -/
theorem Inv.quiet {pins : List (Addr × Obj)} {σ : St} {H : Hp} {s : Shared} (I : Inv X pins σ H s) : interactive X.env = false := by simp [interactive, I.ok.kind]
/-- an expression whose value is dropped -/
def tDrop (te : TE) : TS := fun D σ H => te σ H fun _ H1 => D.nx σ H1
theorem ps_expr (he : PE X e te) (hs : swapsWith e none pos.line X.env = pure false := by rfl) : PS X (.Expr e pos) (tDrop te) := by
  intro pins s σ H D I h
  exact wpAny_Expr_any (thn (he pins s σ H _ I h) fun v s1 ⟨x, H1, I1, r1, q1⟩ => ⟨σ, H1, I1, q1⟩) I.quiet hs
def tRet (te : TE) : TS := fun D σ H => te σ H D.rt
theorem ps_ret (he : PE X e te) : PS X (.Return (some e) pos) (tRet te) := by
  intro pins s σ H D I h
  exact wpAny_Return_some (thn (he pins s σ H _ I h) fun v s1 ⟨x, H1, I1, r1, q1⟩ => ⟨x, σ, H1, I1, r1, q1⟩)
def tRetN : TS := fun D _ H => D.rt .non H
def tIfS (c : TT) (t u : TS) : TS := fun D σ H => c σ H fun b H1 => if b = true then t D σ H1 else u D σ H1
theorem ps_if {c : Expr} {a b : List Stmt} {tc : TT} (hc : PT X c tc) (ha : PSs X a t) (hb : PSs X b u) : PS X (.If c a b pos) (tIfS tc t u) := by
  intro pins s σ H D I h
  refine wpAny_If (thn (hc pins s σ H _ I h) fun d s1 ⟨H1, I1, q1⟩ => ?_)
  cases d with
  | true => exact ha pins s1 σ H1 D I1 q1
  | false => exact hb pins s1 σ H1 D I1 q1
/-- code that the proof never comes to -/
def tNever : TS := fun _ _ _ => False
end

/-! ### targets -/
abbrev TG := V → St → Hp → (St → Hp → Prop) → Prop
abbrev TGs := List V → St → Hp → (St → Hp → Prop) → Prop
def PG (X : Cx) (target : Expr) (t : TG) : Prop :=
  ∀ (pins : List (Addr × Obj)) (s : Shared) (σ : St) (H : Hp) (v : V) (u : Value) (Q : St → Hp → Prop), Inv X pins σ H s → RelV v u → t v σ H Q →
    wpAny (model X.prog X.w) X.A (assign target X.env u) (fun _ s' => ∃ σ' H', Inv X pins σ' H' s' ∧ Q σ' H') X.xe s
/-- several targets, one after another -/
def PGs (X : Cx) (ts : List Expr) (t : TGs) : Prop :=
  ∀ (pins : List (Addr × Obj)) (s : Shared) (σ : St) (H : Hp) (vs : List V) (us : List Value) (Q : St → Hp → Prop), Inv X pins σ H s → Vals vs us → t vs σ H Q →
    wpAny (model X.prog X.w) X.A (assignInOrder ((assignEach ts X.env).map (·.2)) us) (fun _ s' => ∃ σ' H', Inv X pins σ' H' s' ∧ Q σ' H') X.xe s
/-- o[i] = v, by values -/
abbrev TSet := V → V → V → Hp → (Hp → Prop) → Prop
def PSet (X : Cx) (t : TSet) : Prop :=
  ∀ (pins : List (Addr × Obj)) (s : Shared) (σ : St) (H : Hp) (o i v : V) (ov iv u : Value) (Q : Hp → Prop), Inv X pins σ H s → RelV o ov → RelV i iv → RelV v u → t o i v H Q →
    wpAny (model X.prog X.w) X.A (setItem ov iv u) (fun _ s' => ∃ H', Inv X pins σ H' s' ∧ Q H') X.xe s
/-- a op= b, by values -/
abbrev TIp := V → V → Hp → VK → Prop
def PIp (X : Cx) (op : Operator) (t : TIp) : Prop :=
  ∀ (pins : List (Addr × Obj)) (s : Shared) (σ : St) (H : Hp) (x y : V) (v u : Value) (Q : VK), Inv X pins σ H s → RelV x v → RelV y u → t x y H Q →
    wpAny (model X.prog X.w) X.A (inplaceOp op v u) (EP X pins σ Q) X.xe s
section
variable {X : Cx} {pos : Pos}
def gName (i : Nat) : TG := fun v σ H Q => Q (σ.set i (some v)) H
theorem pg_name {i : Nat} {x : Str} (hN : X.N.Nodup) (hi : X.N[i]? = some x) (hx : Loc X.env.scope x) (hf : X.fn x = true ∨ X.env.scope.names.lookup x = some .local := by first | exact .inl rfl | exact .inr rfl | assumption) : PG X (.Name x pos) (gName i) := by
  intro pins s σ H v u Q I r h
  exact wpAny_assign_Name (store_ok I hN hi hx r (fun s' I' => ⟨_, H, I', h⟩) hf)
def gNil : TGs := fun vs σ H Q => vs = [] ∧ Q σ H
def gCons (t : TG) (u : TGs) : TGs := fun vs σ H Q => ∃ v r, vs = v :: r ∧ t v σ H fun σ' H' => u r σ' H' Q
theorem pgs_nil : PGs X [] gNil := by
  intro pins s σ H vs us Q I r h
  obtain ⟨e, h⟩ := h
  subst e
  cases r
  exact assignInOrder_nil ⟨σ, H, I, h⟩
theorem pgs_cons {e : Expr} {es : List Expr} {t : TG} {u : TGs} (h1 : PG X e t) (h2 : PGs X es u)
    (hs : (assignEach (e :: es) X.env).map (·.2) = assign e X.env :: (assignEach es X.env).map (·.2) := by rfl) : PGs X (e :: es) (gCons t u) := by
  intro pins s σ H vs us Q I r h
  obtain ⟨v, vr, e1, h⟩ := h
  subst e1
  cases r with
  | cons r rr =>
    rw [hs]
    refine assignInOrder_cons (thn (h1 pins s σ H _ _ _ I r h) fun _ s1 ⟨σ1, H1, I1, q1⟩ => ?_)
    exact h2 pins s1 σ1 H1 _ _ Q I1 rr q1
/-- (a, b, ..) = a tuple of that length -/
def gTup (K : PySem.W.Frag) (n : Nat) (t : TGs) : TG := fun v σ H Q => ∃ a xs, v = .ref a ∧ SqT K H a xs ∧ xs.length = n ∧ t xs σ H Q
theorem pg_tup {es : List Expr} {k : Nat} {t : TGs} {n : Nat} (hc : X.calm = true) (h : PGs X es t)
    (hn : (assignEach es X.env).length = n := by rfl) (hst : (assignEach es X.env).findIdx? (·.1) = none := by rfl) : PG X (.Tuple es k pos) (gTup X.K n t) := by
  intro pins s σ H v u Q I r hw
  obtain ⟨a, xs, e1, hq, hl, hw⟩ := hw
  subst e1
  cases r
  obtain ⟨its, rv, ht, hz⟩ := I.tuple hq
  refine assign_Tuple_tuple (I.ok.hd hc) ht (by simp [hn, ← hl, rv.length]) hst fun h' hx => ?_
  have I1 : Inv X pins σ H { s with heap := h' } := I.kept (t' := s.toks) fun b o e => hx b o (Nat.ne_of_lt (Heap.lt_size e)) e
  exact h pins _ σ H xs _ Q I1 (by simpa using rv) hw
/-- o[i] = .. -/
def gSub (to ti : TE) (t : TSet) : TG := fun v σ H Q => to σ H fun o H1 => ti σ H1 fun i H2 => t o i v H2 fun H3 => Q σ H3
/-- target = value -/
def tAsg (te : TE) (g : TG) : TS := fun D σ H => te σ H fun x H1 => g x σ H1 D.nx
theorem ps_asg {tg e : Expr} {te : TE} {g : TG} (he : PE X e te) (hg : PG X tg g) (hs : swapsWithSole [tg] e pos.line X.env = pure false := by rfl) (hw : swappedStores [tg] e X.env = pure none := by rfl)
    (h1 : (assignEach [tg] X.env).map (·.2) = [assign tg X.env] := by rfl) : PS X (.Assign [tg] e pos) (tAsg te g) := by
  intro pins s σ H D I h
  refine wpAny_Assign_stores (thn (he pins s σ H _ I h) fun v s1 ⟨x, H1, I1, r1, q1⟩ => ?_) hs hw
  rw [h1]
  exact thn (hg pins s1 σ H1 x v _ I1 r1 q1) fun _ s2 q => q
/-- name = value -/
theorem ps_set {i : Nat} {x : Str} {e : Expr} {te : TE} {pos' : Pos} (hN : X.N.Nodup) (hi : X.N[i]? = some x) (hx : Loc X.env.scope x) (he : PE X e te) (hs : swapsWith e (some (.Name x pos')) pos.line X.env = pure false := by rfl) (hf : X.fn x = true ∨ X.env.scope.names.lookup x = some .local := by first | exact .inl rfl | exact .inr rfl | assumption) :
    PS X (.Assign [.Name x pos'] e pos) (tAsg te (gName i)) := by
  intro pins s σ H D I h
  refine wpAny_Assign_Name (thn (he pins s σ H _ I h) fun v s1 ⟨y, H1, I1, r1, q1⟩ => ?_) hs
  exact store_ok I1 hN hi hx r1 (fun s2 I2 => ⟨_, H1, I2, q1⟩) hf
/-- a, b = x, y with plain local names: stored from the right; the pair itself is not tracked (the opening rows as in PyProof/Rows/TupAssign.lean:23) -/
def tPar (i j : Nat) (ta : TA) : TS := fun D σ H => ta σ H fun vs H1 => ∃ v w, vs = [v, w] ∧ D.nx ((σ.set i (some v)).set j (some w)) H1
/-- name op= e -/
def tAug (i : Nat) (te : TE) (ti : TIp) : TS := fun D σ H => ∃ x, σ[i]? = some (some x) ∧ te σ H fun y H1 => ti x y H1 fun z H2 => D.nx (σ.set i (some z)) H2
/-- o[i] op= e -/
def tAugS (to ti te : TE) (tget : V → V → Hp → VK → Prop) (tip : TIp) (tset : TSet) : TS := fun D σ H => to σ H fun o H1 => ti σ H1 fun i H2 => tget o i H2 fun x H3 => te σ H3 fun y H4 => tip x y H4 fun z H5 => tset o i z H5 fun H6 => D.nx σ H6
/-- o[i], by values -/
def PGet (X : Cx) (t : V → V → Hp → VK → Prop) : Prop :=
  ∀ (pins : List (Addr × Obj)) (s : Shared) (σ : St) (H : Hp) (o i : V) (ov iv : Value) (Q : VK), Inv X pins σ H s → RelV o ov → RelV i iv → t o i H Q →
    wpAny (model X.prog X.w) X.A (getItem ov iv) (EP X pins σ Q) X.xe s
/-- ints -/
def ipI (f : Int → Int → Int) : TIp := fun x y H Q => ∃ i j, x = .int i ∧ y = .int j ∧ Q (.int (f i j)) H
end

/-! ### while -/
section
variable {X : Cx} {pos : Pos}
/-- the invariant W with its measure -/
def tWhile (c : TT) (tb : TS) : TS := fun D σ H => ∃ W : Nat → St → Hp → Prop, (∃ m, W m σ H) ∧ ∀ m σ H, W m σ H →
  c σ H fun b H1 => if b = true then ∃ N : St → Hp → Prop, (∀ σ' H', N σ' H' → ∃ m', m' < m ∧ W m' σ' H') ∧ tb { D with nx := N, ct := N, bk := D.nx } σ H1 else D.nx σ H1
theorem ps_while {c : Expr} {body : List Stmt} {tc : TT} {tb : TS} (hp : PassesOwn (model X.prog X.w) X.A X.env X.xe) (hc : PT X c tc) (hb : PSs X body tb) : PS X (.While c body [] pos) (tWhile tc tb) := by
  intro pins s σ H D I h
  obtain ⟨W, ⟨m0, w0⟩, turn⟩ := h
  refine wpAny_While (codeAny_whileLoop (fun n s' => ∃ σ' H', Inv X pins σ' H' s' ∧ W n σ' H') ?_ m0 ⟨σ, H, I, w0⟩)
  rintro n s1 ⟨σ1, H1, I1, w1⟩
  refine wpAny_passesOwn hp (thn (hc pins s1 σ1 H1 _ I1 (turn n σ1 H1 w1)) fun b s2 ⟨H2, I2, q2⟩ => ?_)
  cases b with
  | true =>
    obtain ⟨N, hN, q2⟩ := q2
    rw [if_pos rfl]
    refine wpAny_passesOwn hp (thn (hb pins s2 σ1 H2 _ I2 q2) fun f s3 q3 => ?_)
    cases f with
    | next =>
      obtain ⟨σ3, H3, I3, n3⟩ := q3
      obtain ⟨m', hm, w3⟩ := hN σ3 H3 n3
      exact ⟨m', hm, σ3, H3, I3, w3⟩
    | cont =>
      obtain ⟨σ3, H3, I3, n3⟩ := q3
      obtain ⟨m', hm, w3⟩ := hN σ3 H3 n3
      exact ⟨m', hm, σ3, H3, I3, w3⟩
    | brk => exact q3
    | ret v => exact q3
  | false =>
    rw [if_neg Bool.false_ne_true]
    exact wpAny_execs_nil ⟨σ1, H2, I2, q2⟩
end

/-! ### what a loop or a comprehension walks -/
/-- at turn i: it yields x (the heap may grow), or it stops -/
structure It where
  go : Nat → Hp → Prop
  yld : Nat → Hp → V → Hp → Prop
  stop : Nat → Hp → Prop
/-- the iterator's own objects may turn: they are not the frame's, not pinned, younger than the entry (or a comprehension's own) -/
def FpOk (X : Cx) (pins : List (Addr × Obj)) (H : Hp) (b : Addr) : Prop :=
  H b = none ∧ b ≠ X.env.locals ∧ b ∉ X.fs ∧ (b ∈ X.ex ∨ X.s₀.heap.objs.size ≤ b) ∧ (∀ x c, X.env.cells.lookup x = some c → c ≠ b) ∧ ∀ p ∈ X.pn ++ pins, p.1 ≠ b
theorem Inv.fpOk {X : Cx} {pins : List (Addr × Obj)} {σ : St} {H H' : Hp} {s : Shared} {b : Addr} (I : Inv X pins σ H s) (hb : s.heap.objs.size ≤ b) (hn : H' b = none) : FpOk X pins H' b := by
  refine ⟨hn, Nat.ne_of_gt (Nat.lt_of_lt_of_le I.lt hb), I.nofs hb, .inr (Nat.le_trans I.sz hb), fun x c e z => ?_, fun p hp z => ?_⟩
  · obtain ⟨v, q⟩ := I.cell x c e
    exact absurd (Nat.lt_of_lt_of_le q.lt (by rw [z]; exact hb)) (Nat.lt_irrefl _)
  · exact absurd (Nat.lt_of_lt_of_le (Heap.lt_size (I.pin p hp).1) (by rw [z]; exact hb)) (Nat.lt_irrefl _)
structure Turn (P : Program) (w : World) (K : PySem.W.Frag) (tg : Expr) (J : It) (fp : List Addr) (it : Addr) (tn : Nat → Heap → Prop) : Prop where
  mem : it ∈ fp
  obj : ∀ i h, tn i h → ∀ b ∈ fp, ∃ o, h.get? b = some o ∧ ∀ v, o.data ≠ .cell v
  keep : ∀ i h h', tn i h → (∀ b ∈ fp, ∀ o, h.get? b = some o → h'.get? b = some o) → tn i h'
  item : ∀ (X : Cx), X.prog = P → X.w = w → X.K = K → X.calm = true → ∀ (i : Nat) (pins : List (Addr × Obj)) (s : Shared) (σ : St) (H : Hp) (E : Value → Shared → Prop), Inv X pins σ H s → (∀ b ∈ fp, FpOk X pins H b) → tn i s.heap → J.go i H →
    wpAny (model P w) X.A (pyNext (.ref it)) (fun r s1 => ∃ u, r = some u ∧
      wpAny (model P w) X.A (letOwnedTupleGo tg (.ref it) u) (fun _ s2 => ∃ x H', Inv X pins σ H' s2 ∧ RelV x u ∧ J.yld i H x H' ∧ tn (i + 1) s2.heap ∧ ∀ b ∈ fp, H' b = none) E s1) E s
  done : ∀ (X : Cx), X.prog = P → X.w = w → X.K = K → X.calm = true → ∀ (i : Nat) (pins : List (Addr × Obj)) (s : Shared) (σ : St) (H : Hp) (E : Value → Shared → Prop), Inv X pins σ H s → (∀ b ∈ fp, FpOk X pins H b) → tn i s.heap → J.stop i H →
    wpAny (model P w) X.A (pyNext (.ref it)) (fun r s1 => r = none ∧ Inv X pins σ H s1) E s
  self : ∀ (A : Around) (i : Nat) (s : Shared) (Q : Value → Shared → Prop) (E : Value → Shared → Prop), tn i s.heap → Q (.ref it) s → wpAny (model P w) A (pyIter (.ref it)) Q E s
abbrev TI := St → Hp → (It → Hp → Prop) → Prop
/-- an iterator has come -/
def PIE (X : Cx) (pins : List (Addr × Obj)) (σ : St) (tg : Expr) (R : It → Hp → Prop) (itv : Value) (s2 : Shared) : Prop :=
  ∃ (it : Addr) (fp : List Addr) (tn : Nat → Heap → Prop) (J : It) (H' : Hp), itv = .ref it ∧ Inv X pins σ H' s2 ∧ Turn X.prog X.w X.K tg J fp it tn ∧ tn 0 s2.heap ∧ (∀ b ∈ fp, FpOk X pins H' b) ∧ R J H'
def PI (X : Cx) (tg iter : Expr) (wi : TI) : Prop :=
  ∀ (pins : List (Addr × Obj)) (s : Shared) (σ : St) (H : Hp) (R : It → Hp → Prop), Inv X pins σ H s → wi σ H R →
    wpAny (model X.prog X.w) X.A (eval iter X.env) (fun v s1 => wpAny (model X.prog X.w) X.A (pyIter v) (PIE X pins σ tg R) X.xe s1) X.xe s

/-- the step ahead of the store is nothing for an iterator that keeps no tuple -/
theorem go_of {M : Model} {A : Around} {E : Value → Shared → Prop} {s : Shared} {tg : Expr} {it : Addr} {u : Value} {o : Obj} {n : String} {vs : Array Value} {Q : Unit → Shared → Prop} (ho : s.heap.get? it = some o) (hc : o.cls = .type n) (hd : o.data = .fields vs)
    (hn : ["enumerate", "zip", "dict_itemiterator", "dict_reverseitemiterator", "odict_iterator", "itertools.zip_longest", "itertools.pairwise"].contains n = false) (hQ : Q () s) : wpAny M A (letOwnedTupleGo tg (.ref it) u) Q E s := by
  unfold letOwnedTupleGo
  cases tg <;> first
    | exact wpAny_pure hQ
    | (cases u <;> first
        | exact wpAny_pure hQ
        | (refine wpAny_bind (wpAny_load ho ?_)
           rw [hc, hd]
           show wpAny M A (if (["enumerate", "zip", "dict_itemiterator", "dict_reverseitemiterator", "odict_iterator", "itertools.zip_longest", "itertools.pairwise"].contains n && vs[0]? == some (rawInt _)) = true then _ else _) Q E s
           rw [if_neg (by intro h; rw [hn, Bool.false_and] at h; cases h)]
           exact wpAny_pure hQ))

/-- the list at a, as it stands at each turn (a loop may append to it) -/
def Itl (K : PySem.W.Frag) (a : Addr) : It :=
  ⟨fun i H => ∃ xs x, SqL K H a xs ∧ xs[i]? = some x, fun i H x H' => H' = H ∧ ∀ xs, SqL K H a xs → xs[i]? = some x, fun i H => ∃ xs, SqL K H a xs ∧ xs.length ≤ i⟩
def Itt (K : PySem.W.Frag) (a : Addr) : It :=
  ⟨fun i H => ∃ xs x, SqT K H a xs ∧ xs[i]? = some x, fun i H x H' => H' = H ∧ ∀ xs, SqT K H a xs → xs[i]? = some x, fun i H => ∃ xs, SqT K H a xs ∧ xs.length ≤ i⟩
/-- lo, lo + 1, .. (n of them) -/
def Itr (lo : Int) (n : Nat) : It := ⟨fun i _ => i < n, fun i H x H' => H' = H ∧ x = .int (lo + i), fun i _ => n ≤ i⟩
theorem turn_list {P : Program} {w : World} {K : PySem.W.Frag} {tg : Expr} (a it : Addr) : Turn P w K tg (Itl K a) [it] it (fun i h => h.IsListIter it a i) where
  mem := by simp
  obj := fun i h st b hb => by
    have e : b = it := by simpa using hb
    subst e
    obtain ⟨o, e, c, d⟩ := st
    exact ⟨o, e, fun v z => by rw [d] at z; cases z⟩
  keep := fun i h h' st k => st.at fun o e => k it (by simp) o e
  item := by
    intro X hP hw hK hc i pins s σ H E I hf st hg
    subst hP hw hK
    obtain ⟨xs, x, hq, hx⟩ := hg
    obtain ⟨its, rv, p, hz⟩ := I.list hq
    obtain ⟨u, hu, ru⟩ := rv.get hx
    obtain ⟨f0, f1, f2, f3, f4, f5⟩ := hf it (by simp)
    refine wpAny_pyNext_list_item st p.isList (x := u) (by simpa using hu) fun h' st' sb => ?_
    have I1 : Inv X pins σ H { s with heap := h' } := I.turned (t' := s.toks) (fun b o hb e => (sb.2 b hb).trans e) f0 f1 f3 f4 f5
    obtain ⟨o, e, c, d⟩ := id st'
    exact ⟨u, rfl, go_of (s := { s with heap := h' }) e c d (by decide) ⟨x, H, I1, ru, ⟨rfl, fun ys hy => by rw [I.list_inj hy hq]; exact hx⟩, st', fun b hb => (hf b hb).1⟩⟩
  done := by
    intro X hP hw hK hc i pins s σ H E I hf st hg
    subst hP hw hK
    obtain ⟨xs, hq, hx⟩ := hg
    obtain ⟨its, rv, p, hz⟩ := I.list hq
    obtain ⟨f0, f1, f2, f3, f4, f5⟩ := hf it (by simp)
    have hl := rv.length
    exact wpAny_pyNext_list_end (I.ok.hd hc) st p.isList (by simp; omega) fun h' eb => ⟨rfl, I.turned (t' := s.toks) (fun b o hb e => eb b o hb e) f0 f1 f3 f4 f5⟩
  self := fun _ _ _ _ _ st h => wpAny_pyIter_listiter st h
theorem turn_range {P : Program} {w : World} {K : PySem.W.Frag} {tg : Expr} (it : Addr) (lo : Int) (n : Nat) : Turn P w K tg (Itr lo n) [it] it (fun i h => IsRangeIter h it (lo + (i : Nat) * 1) ((n : Int) - (i : Nat)) 1) where
  mem := by simp
  obj := fun i h st b hb => by
    have e : b = it := by simpa using hb
    subst e
    exact ⟨_, st, fun v z => by
      have z' : Data.fields _ = Data.cell v := z
      cases z'⟩
  keep := fun i h h' st k => k it (by simp) _ st
  item := by
    intro X hP hw hK hc i pins s σ H E I hf st hg
    subst hP hw hK
    obtain ⟨f0, f1, f2, f3, f4, f5⟩ := hf it (by simp)
    have W := Walks.range (prog := X.prog) (w := X.w) (I.ok.hd hc) it lo 1 n
    refine W.item i s _ _ hg st fun v h' tk hv st' kk => ?_
    obtain ⟨t, rfl⟩ := hv
    have I1 : Inv X pins σ H { s with heap := h', toks := tk } := I.turned (fun b o hb e => kk b o (by simpa using hb) e) f0 f1 f3 f4 f5
    refine ⟨_, rfl, go_of (s := { s with heap := h', toks := tk }) (n := "range_iterator") st' rfl rfl (by decide) ⟨.int (lo + i), H, I1, ⟨t, ?_⟩, ⟨rfl, rfl⟩, st', fun b hb => (hf b hb).1⟩⟩
    rw [Int.mul_one]
  done := by
    intro X hP hw hK hc i pins s σ H E I hf st hg
    subst hP hw hK
    obtain ⟨f0, f1, f2, f3, f4, f5⟩ := hf it (by simp)
    exact wpAny_pyNext_range_end (I.ok.hd hc) st (by have : n ≤ i := hg; omega) fun h' eb => ⟨rfl, I.turned (t' := s.toks) (fun b o hb e => eb b o hb e) f0 f1 f3 f4 f5⟩
  self := fun _ _ _ _ _ st h => wpAny_pyIter_rangeiter st h
end L2

namespace L2
open PySem PySem.Spec PyProof.Rows
section
variable {X : Cx} {tg : Expr}
def iList (K : PySem.W.Frag) (tl : TE) : TI := fun σ H R => tl σ H fun x H1 => ∃ a, x = .ref a ∧ (∃ xs, SqL K H1 a xs) ∧ R (Itl K a) H1
def iTup (K : PySem.W.Frag) (tl : TE) : TI := fun σ H R => tl σ H fun x H1 => ∃ a, x = .ref a ∧ (∃ xs, SqT K H1 a xs) ∧ R (Itt K a) H1
theorem pi_list {l : Expr} {tl : TE} (hl : PE X l tl) : PI X tg l (iList X.K tl) := by
  intro pins s σ H R I h
  refine thn (hl pins s σ H _ I h) fun v s1 ⟨x, H1, I1, r1, q1⟩ => ?_
  obtain ⟨a, e, ⟨xs, hq⟩, q⟩ := q1
  subst e
  cases r1
  obtain ⟨its, rv, p, hz⟩ := I1.list hq
  refine wpAny_pyIter_list p.isList ?_
  refine ⟨s1.heap.objs.size, [s1.heap.objs.size], _, _, H1, rfl, I1.kept (t' := s1.toks) fun b o e => Heap.get?_push_of_some _ e, turn_list a _, ⟨_, Heap.get?_push_size _ rfl, rfl, rfl⟩, fun b hb => ?_, q⟩
  have e : b = s1.heap.objs.size := by simpa using hb
  subst e
  exact I1.fpOk (Nat.le_refl _) (I1.hok.fresh (Nat.le_refl _))
/-- a range object just made, walked -/
theorem range_it {pins : List (Addr × Obj)} {σ : St} {H : Hp} {s : Shared} {R : It → Hp → Prop} {E : Value → Shared → Prop} {lo hi : Int} {t u v : Tok} {tk : Nat} (I : Inv X pins σ H s) (h1 : -(2 ^ 62) ≤ lo) (h2 : lo < 2 ^ 62) (h3 : -(2 ^ 62) ≤ hi) (h4 : hi < 2 ^ 62)
    (q : R (Itr lo (hi - lo).toNat) H) : wpAny (model X.prog X.w) X.A (pyIter (.ref s.heap.objs.size)) (PIE X pins σ tg R) E { s with heap := s.heap.push { cls := .type "range", data := .fields #[.int lo t, .int hi u, .int 1 v] }, toks := tk } := by
  refine wpAny_pyIter_range (IsRange.new ..) (small_one h1 h2 h3 h4) ?_
  have I1 : Inv X pins σ H { s with heap := s.heap.push { cls := .type "range", data := .fields #[.int lo t, .int hi u, .int 1 v] }, toks := tk } := I.kept fun b o e => Heap.get?_push_of_some _ e
  refine ⟨(s.heap.push { cls := .type "range", data := .fields #[.int lo t, .int hi u, .int 1 v] }).objs.size, [(s.heap.push { cls := .type "range", data := .fields #[.int lo t, .int hi u, .int 1 v] }).objs.size], _, _, H, rfl,
    I1.kept (t' := tk) fun b o e => Heap.get?_push_of_some _ e, turn_range _ lo (hi - lo).toNat, ?_, fun b hb => ?_, q⟩
  · have e1 : lo + ((0 : Nat) : Int) * 1 = lo := by simp
    have e2 : (((hi - lo).toNat : Nat) : Int) - ((0 : Nat) : Int) = Builtin.Range.rangeSize lo hi 1 := by rw [rangeSize_one]; split <;> omega
    show IsRangeIter _ _ (lo + ((0 : Nat) : Int) * 1) ((((hi - lo).toNat : Nat) : Int) - ((0 : Nat) : Int)) 1
    rw [e1, e2]
    exact Heap.get?_push_size _ rfl
  · have e : b = (s.heap.push { cls := .type "range", data := .fields #[.int lo t, .int hi u, .int 1 v] }).objs.size := by simpa using hb
    subst e
    exact I1.fpOk (Nat.le_refl _) (I1.hok.fresh (Nat.le_refl _))
def iRng1 (ta : TA) : TI := fun σ H R => ta σ H fun vs H1 => ∃ j : Int, vs = [.int j] ∧ -(2 ^ 62) ≤ j ∧ j < 2 ^ 62 ∧ R (Itr 0 j.toNat) H1
def iRng2 (ta : TA) : TI := fun σ H R => ta σ H fun vs H1 => ∃ i j : Int, vs = [.int i, .int j] ∧ (-(2 ^ 62) ≤ i ∧ i < 2 ^ 62 ∧ -(2 ^ 62) ≤ j ∧ j < 2 ^ 62) ∧ R (Itr i (j - i).toNat) H1
theorem pi_range1 {a : Expr} {ta : TA} {p pos : Pos} (hg : Gl X "range") (hm : X.mg "range" = none) (ha : PA X [a] ta) (hs : starEach [a] X.env = [(false, eval a X.env)] := by rfl) : PI X tg (.Call (.Name "range" p) [a] [] pos) (iRng1 ta) := by
  intro pins s σ H R I h
  refine Call_ (ld_blt I hg hm boot_range (PyProof.Rows.callWith_type1 (thn (ha pos pins s σ H _ I h) fun us s1 ⟨vs, H1, I1, r1, q1⟩ => ?_) hs rfl))
  obtain ⟨j, e, q1, q2, q⟩ := q1
  subst e
  cases r1 with
  | cons r rr =>
    cases rr
    obtain ⟨t, rfl⟩ := r
    exact call_range_1 (range_it I1 (by omega) (by omega) q1 q2 (by simpa using q))
/-! ### for -/
/-- W: the invariant by the turn and a measure; N: what the body is to reach -/
def tFor (wi : TI) (g : TG) (tb : TS) : TS := fun D σ H => wi σ H fun J H1 => ∃ W : Nat → Nat → St → Hp → Prop, (∃ m, W 0 m σ H1) ∧ ∀ i m σ H, W i m σ H →
  (J.stop i H ∧ D.nx σ H) ∨ (J.go i H ∧ ∃ N : St → Hp → Prop, (∀ σ' H', N σ' H' → ∃ m', m' < m ∧ W (i + 1) m' σ' H') ∧ ∀ x H', J.yld i H x H' → g x σ H' fun σ2 H2 => tb { D with nx := N, ct := N, bk := D.nx } σ2 H2)
/-- the records at fp as they stand -/
def pinsAt (fp : List Addr) (h : Heap) : List (Addr × Obj) := fp.filterMap fun b => (h.get? b).map fun o => (b, o)
theorem mem_pinsAt {fp : List Addr} {h : Heap} {b : Addr} {o : Obj} (hb : b ∈ fp) (e : h.get? b = some o) : (b, o) ∈ pinsAt fp h := List.mem_filterMap.mpr ⟨b, hb, by rw [e]; rfl⟩
theorem of_pinsAt {fp : List Addr} {h : Heap} {p : Addr × Obj} (hp : p ∈ pinsAt fp h) : p.1 ∈ fp ∧ h.get? p.1 = some p.2 := by
  obtain ⟨b, hb, e⟩ := List.mem_filterMap.mp hp
  cases q : h.get? b with
  | none => rw [q] at e; cases e
  | some o =>
    rw [q] at e
    have e' : (b, o) = p := Option.some.inj e
    subst e'
    exact ⟨hb, q⟩
theorem Inv.pinned {pins : List (Addr × Obj)} {σ : St} {H : Hp} {s : Shared} {fp : List Addr} (I : Inv X pins σ H s) (hf : ∀ b ∈ fp, FpOk X pins H b) (ho : ∀ b ∈ fp, ∃ o, s.heap.get? b = some o ∧ ∀ v, o.data ≠ .cell v) : Inv X (pins ++ pinsAt fp s.heap) σ H s :=
  I.pins_of fun p hp => (List.mem_append.mp hp).elim (fun z => I.pin p (List.mem_append_right _ z)) fun z => by
    obtain ⟨hb, e⟩ := of_pinsAt z
    obtain ⟨f0, f1, f2, _⟩ := hf p.1 hb
    obtain ⟨o, e', d⟩ := ho p.1 hb
    rw [e] at e'; cases e'
    exact ⟨e, f0, f1, f2, d⟩
theorem Inv.unpinned {pins pl : List (Addr × Obj)} {σ : St} {H : Hp} {s : Shared} (I : Inv X (pins ++ pl) σ H s) : Inv X pins σ H s := I.pins_of fun p hp => I.pin p (List.mem_append_right _ (List.mem_append_left _ hp))
theorem ps_for {iter : Expr} {body : List Stmt} {wi : TI} {g : TG} {tb : TS} {pos : Pos} (hp : PassesOwn (model X.prog X.w) X.A X.env X.xe) (hc : X.calm = true) (hi : PI X tg iter wi) (hg : PG X tg g) (hb : PSs X body tb)
    (hs : ∀ x, foldedSetIterable iter X.env x = pure x := by intro _; rfl) : PS X (.For tg iter body [] pos) (tFor wi g tb) := by
  intro pins s σ H D I h
  refine wpAny_For (thn (hi pins s σ H _ I h) fun v s1 h1 => thn h1 fun itv s2 h2 => ?_) hs
  obtain ⟨it, fp, tn, J, H2, e, I2, T, st2, f2, W, ⟨m0, w0⟩, turn⟩ := h2
  subst e
  -- what stays true of the iterator's objects through the loop
  have stat : ∀ {H' : Hp}, (∀ b ∈ fp, H' b = none) → ∀ b ∈ fp, FpOk X pins H' b := fun hn b hb => ⟨hn b hb, (f2 b hb).2⟩
  refine codeAny_forLoop_any (fun n s' => ∃ i σ' H', Inv X pins σ' H' s' ∧ tn i s'.heap ∧ (∀ b ∈ fp, H' b = none) ∧ W i n σ' H') ?_ m0 ⟨0, σ, H2, I2, st2, fun b hb => (f2 b hb).1, w0⟩
  rintro n s3 ⟨i, σ3, H3, I3, st3, fr3, w3⟩
  rcases turn i n σ3 H3 w3 with ⟨stop, qn⟩ | ⟨go, N, hN, step⟩
  · refine wpAny_passesOwn hp (thn (T.done X rfl rfl rfl hc i pins s3 σ3 H3 X.xe I3 (stat fr3) st3 stop) fun r s4 ⟨hr, I4⟩ => ?_)
    subst hr
    exact wpAny_execs_nil ⟨σ3, H3, I4, qn⟩
  · refine wpAny_passesOwn hp (thn (T.item X rfl rfl rfl hc i pins s3 σ3 H3 X.xe I3 (stat fr3) st3 go) fun r s4 ⟨u, hr, h4⟩ => ?_)
    subst hr
    refine wpAny_passesOwn hp (thn h4 fun _ s5 ⟨x, H5, I5, r5, y5, st5, fr5⟩ => ?_)
    have I5' := I5.pinned (stat fr5) (T.obj _ _ st5)
    refine wpAny_passesOwn hp (thn (hg _ s5 σ3 H5 x u _ I5' r5 (step x H5 y5)) fun _ s6 ⟨σ6, H6, I6, q6⟩ => ?_)
    refine wpAny_passesOwn hp (thn (hb _ s6 σ6 H6 _ I6 q6) fun f s7 q7 => ?_)
    have again : ∀ {σ7 : St} {H7 : Hp}, Inv X (pins ++ pinsAt fp s5.heap) σ7 H7 s7 → N σ7 H7 → ∃ m, m < n ∧ ∃ i σ' H', Inv X pins σ' H' s7 ∧ tn i s7.heap ∧ (∀ b ∈ fp, H' b = none) ∧ W i m σ' H' := fun {σ7 H7} I7 n7 => by
      obtain ⟨m', hm, w7⟩ := hN σ7 H7 n7
      refine ⟨m', hm, i + 1, σ7, H7, I7.unpinned, T.keep _ _ _ st5 fun b hb o e => (I7.pin (b, o) (List.mem_append_right _ (List.mem_append_right _ (mem_pinsAt hb e)))).1, fun b hb => ?_, w7⟩
      obtain ⟨o, e, d⟩ := T.obj _ _ st5 b hb
      exact (I7.pin (b, o) (List.mem_append_right _ (List.mem_append_right _ (mem_pinsAt hb e)))).2.1
    cases f with
    | next => obtain ⟨σ7, H7, I7, n7⟩ := q7; exact again I7 n7
    | cont => obtain ⟨σ7, H7, I7, n7⟩ := q7; exact again I7 n7
    | brk => obtain ⟨σ7, H7, I7, q7⟩ := q7; exact ⟨σ7, H7, I7.unpinned, q7⟩
    | ret v => obtain ⟨x7, σ7, H7, I7, r7, q7⟩ := q7; exact ⟨x7, σ7, H7, I7.unpinned, r7, q7⟩
end

/-! ### the forms one uses -/
/-- over a list that the body leaves as it is -/
theorem for_list {K : PySem.W.Frag} {a : Addr} {xs : List V} {g : TG} {tb : TS} {D : Ends} {σ : St} {H : Hp} (Pv : Nat → St → Hp → Prop) (h0 : Pv 0 σ H) (hl : ∀ i σ H, i ≤ xs.length → Pv i σ H → SqL K H a xs)
    (hs : ∀ i x σ H, xs[i]? = some x → Pv i σ H → g x σ H fun σ2 H2 => tb { D with nx := Pv (i + 1), ct := Pv (i + 1), bk := D.nx } σ2 H2) (hd : ∀ σ H, Pv xs.length σ H → D.nx σ H) :
    ∃ W : Nat → Nat → St → Hp → Prop, (∃ m, W 0 m σ H) ∧ ∀ i m σ H, W i m σ H →
      ((Itl K a).stop i H ∧ D.nx σ H) ∨ ((Itl K a).go i H ∧ ∃ N : St → Hp → Prop, (∀ σ' H', N σ' H' → ∃ m', m' < m ∧ W (i + 1) m' σ' H') ∧ ∀ x H', (Itl K a).yld i H x H' → g x σ H' fun σ2 H2 => tb { D with nx := N, ct := N, bk := D.nx } σ2 H2) := by
  refine ⟨fun i m σ H => m = xs.length - i ∧ i ≤ xs.length ∧ Pv i σ H, ⟨xs.length, by simp, Nat.zero_le _, h0⟩, ?_⟩
  rintro i m σ H ⟨rfl, hi, p⟩
  have q := hl i σ H hi p
  by_cases hlt : i < xs.length
  · refine .inr ⟨⟨xs, xs[i], q, by simp [hlt]⟩, Pv (i + 1), fun σ' H' p' => ⟨xs.length - (i + 1), by omega, rfl, hlt, p'⟩, fun x H' y => ?_⟩
    obtain ⟨e, y⟩ := y
    subst e
    exact hs i x σ _ (y xs q) p
  · have e : i = xs.length := by omega
    subst e
    exact .inl ⟨⟨xs, q, Nat.le_refl _⟩, hd σ H p⟩
theorem for_range {lo : Int} {n : Nat} {g : TG} {tb : TS} {D : Ends} {σ : St} {H : Hp} (Pv : Nat → St → Hp → Prop) (h0 : Pv 0 σ H)
    (hs : ∀ i σ H, i < n → Pv i σ H → g (.int (lo + i)) σ H fun σ2 H2 => tb { D with nx := Pv (i + 1), ct := Pv (i + 1), bk := D.nx } σ2 H2) (hd : ∀ σ H, Pv n σ H → D.nx σ H) :
    ∃ W : Nat → Nat → St → Hp → Prop, (∃ m, W 0 m σ H) ∧ ∀ i m σ H, W i m σ H →
      ((Itr lo n).stop i H ∧ D.nx σ H) ∨ ((Itr lo n).go i H ∧ ∃ N : St → Hp → Prop, (∀ σ' H', N σ' H' → ∃ m', m' < m ∧ W (i + 1) m' σ' H') ∧ ∀ x H', (Itr lo n).yld i H x H' → g x σ H' fun σ2 H2 => tb { D with nx := N, ct := N, bk := D.nx } σ2 H2) := by
  refine ⟨fun i m σ H => m = n - i ∧ i ≤ n ∧ Pv i σ H, ⟨n, by simp, Nat.zero_le _, h0⟩, ?_⟩
  rintro i m σ H ⟨rfl, hi, p⟩
  by_cases hlt : i < n
  · refine .inr ⟨hlt, Pv (i + 1), fun σ' H' p' => ⟨n - (i + 1), by omega, rfl, hlt, p'⟩, fun x H' y => ?_⟩
    obtain ⟨e, y⟩ := y
    subst e y
    exact hs i σ _ hlt p
  · have e : i = n := by omega
    subst e
    exact .inl ⟨Nat.le_refl _, hd σ H p⟩
/-- while, by a word and a measure of the state -/
theorem while_by {c : TT} {tb : TS} {D : Ends} {σ : St} {H : Hp} (Pv : St → Hp → Prop) (μ : St → Hp → Nat) (h0 : Pv σ H)
    (hs : ∀ σ H, Pv σ H → c σ H fun b H1 => if b = true then tb { D with nx := fun σ' H' => Pv σ' H' ∧ μ σ' H' < μ σ H, ct := fun σ' H' => Pv σ' H' ∧ μ σ' H' < μ σ H, bk := D.nx } σ H1 else D.nx σ H1)
    (mono : ∀ σ H Q Q', (∀ b H1, Q b H1 → Q' b H1) → c σ H Q → c σ H Q') : tWhile c tb D σ H := by
  refine ⟨fun m σ H => m = μ σ H ∧ Pv σ H, ⟨_, rfl, h0⟩, ?_⟩
  rintro m σ H ⟨rfl, p⟩
  refine mono σ H _ _ (fun b H1 q => ?_) (hs σ H p)
  cases b with
  | true => exact ⟨_, fun σ' H' ⟨p', l⟩ => ⟨_, l, rfl, p'⟩, q⟩
  | false => exact q
end L2

namespace L2
open PySem PySem.Spec PyProof.Rows

abbrev R2 := V → V → Hp → VK → Prop
/-- a two-place operation on values: f is binaryOp op, inplaceOp op or compareOp op -/
def OpR (X : Cx) (f : Value → Value → Sem Value) (r : R2) : Prop :=
  ∀ (pins : List (Addr × Obj)) (s : Shared) (σ : St) (H : Hp) (x y : V) (v u : Value) (Q : VK), Inv X pins σ H s → RelV x v → RelV y u → r x y H Q →
    wpAny (model X.prog X.w) X.A (f v u) (EP X pins σ Q) X.xe s
/-- a one-place operation -/
def UnR (X : Cx) (f : Value → Sem Value) (r : V → Hp → VK → Prop) : Prop :=
  ∀ (pins : List (Addr × Obj)) (s : Shared) (σ : St) (H : Hp) (x : V) (v : Value) (Q : VK), Inv X pins σ H s → RelV x v → r x H Q →
    wpAny (model X.prog X.w) X.A (f v) (EP X pins σ Q) X.xe s
/-- a call of a value that is known (a builtin, a type) with values -/
def CallR (X : Cx) (f : Value) (r : List V → Hp → VK → Prop) : Prop :=
  ∀ (pins : List (Addr × Obj)) (s : Shared) (σ : St) (H : Hp) (xs : List V) (us : List Value) (Q : VK), Inv X pins σ H s → Vals xs us → r xs H Q →
    wpAny (model X.prog X.w) X.A (call f us) (EP X pins σ Q) X.xe s
/-- a value's truth -/
def TruR (X : Cx) (r : V → Hp → (Bool → Hp → Prop) → Prop) : Prop :=
  ∀ (pins : List (Addr × Obj)) (s : Shared) (σ : St) (H : Hp) (x : V) (v : Value) (Q : Bool → Hp → Prop), Inv X pins σ H s → RelV x v → r x H Q →
    wpAny (model X.prog X.w) X.A (truthy v) (TP X pins σ Q) X.xe s

def tOp (r : R2) (ta tb : TE) : TE := fun σ H Q => ta σ H fun x H1 => tb σ H1 fun y H2 => r x y H2 Q
def tUn (r : V → Hp → VK → Prop) (ta : TE) : TE := fun σ H Q => ta σ H fun x H1 => r x H1 Q
/-- ints in, under C, and a value out -/
def rI (C : Int → Int → Prop) (g : Int → Int → V) : R2 := fun x y H Q => ∃ i j, x = .int i ∧ y = .int j ∧ C i j ∧ Q (g i j) H
def rI0 (g : Int → Int → V) : R2 := fun x y H Q => ∃ i j, x = .int i ∧ y = .int j ∧ Q (g i j) H
def rU (g : Int → V) : V → Hp → VK → Prop := fun x H Q => ∃ i, x = .int i ∧ Q (g i) H

section
variable {X : Cx} {a b c : Expr} {ta tb tc : TE} {pos : Pos}

theorem binT (ha : PE X a ta) (hb : PE X b tb) {pins : List (Addr × Obj)} {s : Shared} {σ : St} {H : Hp} {R : V → V → Hp → Prop} (I : Inv X pins σ H s)
    (h : ta σ H fun x H1 => tb σ H1 fun y H2 => R x y H2) {Q : Value → Shared → Prop} {f : Value → Value → Sem Value}
    (hf : ∀ v u s2 x y H2, Inv X pins σ H2 s2 → RelV x v → RelV y u → R x y H2 → wpAny (model X.prog X.w) X.A (f v u) Q X.xe s2) :
    wpAny (model X.prog X.w) X.A (eval a X.env) (fun v s₁ => wpAny (model X.prog X.w) X.A (eval b X.env) (fun u s₂ => wpAny (model X.prog X.w) X.A (f v u) Q X.xe s₂) X.xe s₁) X.xe s := by
  refine thn (ha pins s σ H _ I h) fun v s1 ⟨x, H1, I1, r1, q1⟩ => ?_
  refine thn (hb pins s1 σ H1 _ I1 q1) fun u s2 ⟨y, H2, I2, r2, q2⟩ => ?_
  exact hf v u s2 x y H2 I2 r1 r2 q2

theorem pe_op {op : Operator} {r : R2} (ho : OpR X (binaryOp op) r) (ha : PE X a ta) (hb : PE X b tb) : PE X (.BinOp a op b pos) (tOp r ta tb) := by
  intro pins s σ H Q I h
  exact wpAny_BinOp (binT ha hb I h fun v u s2 x y H2 I2 rx ry q => ho pins s2 σ H2 x y v u Q I2 rx ry q)
theorem pe_un {op : UnaryOp} {r : V → Hp → VK → Prop} (ho : UnR X (unaryOp op) r) (ha : PE X a ta) : PE X (.UnaryOp op a pos) (tUn r ta) := by
  intro pins s σ H Q I h
  exact UnaryOp_ (thn (ha pins s σ H _ I h) fun v s1 ⟨x, H1, I1, r1, q1⟩ => ho pins s1 σ H1 x v Q I1 r1 q1)
/-! ### ints -/
theorem opI {f : Value → Value → Sem Value} {C : Int → Int → Prop} {g : Int → Int → Int}
    (rule : ∀ (i j : Int) (t u : Tok) (s : Shared) (Q : Value → Shared → Prop) (E : Value → Shared → Prop), C i j → Q (.int (g i j) s.toks) { s with toks := s.toks + 1 } → wpAny (model X.prog X.w) X.A (f (.int i t) (.int j u)) Q E s) :
    OpR X f (rI C fun i j => .int (g i j)) := by
  intro pins s σ H x y v u Q I rx ry h
  obtain ⟨i, j, rfl, rfl, hc, q⟩ := h
  obtain ⟨t, rfl⟩ := rx
  obtain ⟨t', rfl⟩ := ry
  exact rule i j t t' s _ _ hc ⟨.int (g i j), H, I.tok _, ⟨_, rfl⟩, q⟩
theorem opI0 {f : Value → Value → Sem Value} {g : Int → Int → Int}
    (rule : ∀ (i j : Int) (t u : Tok) (s : Shared) (Q : Value → Shared → Prop) (E : Value → Shared → Prop), Q (.int (g i j) s.toks) { s with toks := s.toks + 1 } → wpAny (model X.prog X.w) X.A (f (.int i t) (.int j u)) Q E s) :
    OpR X f (rI0 fun i j => .int (g i j)) := by
  intro pins s σ H x y v u Q I rx ry h
  obtain ⟨i, j, rfl, rfl, q⟩ := h
  obtain ⟨t, rfl⟩ := rx
  obtain ⟨t', rfl⟩ := ry
  exact rule i j t t' s _ _ ⟨.int (g i j), H, I.tok _, ⟨_, rfl⟩, q⟩
theorem opB0 {f : Value → Value → Sem Value} {g : Int → Int → Bool}
    (rule : ∀ (i j : Int) (t u : Tok) (s : Shared) (Q : Value → Shared → Prop) (E : Value → Shared → Prop), Q (.bool (g i j)) s → wpAny (model X.prog X.w) X.A (f (.int i t) (.int j u)) Q E s) :
    OpR X f (rI0 fun i j => .bl (g i j)) := by
  intro pins s σ H x y v u Q I rx ry h
  obtain ⟨i, j, rfl, rfl, q⟩ := h
  obtain ⟨t, rfl⟩ := rx
  obtain ⟨t', rfl⟩ := ry
  exact rule i j t t' s _ _ ⟨.bl (g i j), H, I, rfl, q⟩

def CDiv (i j : Int) : Prop := 0 < j ∧ j < 1073741824
def CDivN (i j : Int) : Prop := j ≠ 0 ∧ j.natAbs < 1073741824
def CPow (i j : Int) : Prop := 0 ≤ j ∧ j ≤ 1000000 ∧ i.natAbs < 2 ^ 64
def CMul (i j : Int) : Prop := (-(2 ^ 64) < i ∧ i < 2 ^ 64) ∨ (-(2 ^ 64) < j ∧ j < 2 ^ 64)
theorem CMul.ok {i j : Int} (h : CMul i j) : IntMulOk i j := by
  rcases h with ⟨h1, h2⟩ | ⟨h1, h2⟩
  · exact .of_left (intBits_le_64 h1 h2)
  · exact .of_right (intBits_le_64 h1 h2)
theorem op_add : OpR X (binaryOp .Add) (rI0 fun i j => .int (i + j)) := opI0 fun _ _ _ _ _ _ _ q => add_int q
theorem op_sub : OpR X (binaryOp .Sub) (rI0 fun i j => .int (i - j)) := opI0 fun _ _ _ _ _ _ _ q => sub_int q
theorem op_mul : OpR X (binaryOp .Mult) (rI CMul fun i j => .int (i * j)) := opI fun _ _ _ _ _ _ _ hc q => mul_int q hc.ok
/-- // by a positive divisor -/
theorem op_fdiv : OpR X (binaryOp .FloorDiv) (rI CDiv fun i j => .int (i / j)) := opI fun i j _ _ _ _ _ hc q => by
  have h1 : (0 : Int) < j := hc.1
  have h2 : j < 1073741824 := hc.2
  exact floordiv_int (by omega) (by rw [Int.fdiv_eq_ediv_of_nonneg i (by omega)]; exact q) (.inl (PyProof.noPylong_small (by omega)))
/-- % by a positive divisor of any size -/
theorem op_mod : OpR X (binaryOp .Mod) (rI (fun _ j => 0 < j) fun i j => .int (i % j)) := opI fun i j _ _ _ _ _ hc q => by
  have h1 : (0 : Int) < j := hc
  exact mod_int' (by omega) (by rw [Int.fmod_eq_emod_of_nonneg i (by omega)]; exact q)
theorem op_pow : OpR X (binaryOp .Pow) (rI CPow fun i j => .int (i ^ j.toNat)) := opI fun _ _ _ _ _ _ _ hc q => pow_int_small hc.1 hc.2.1 hc.2.2 q
theorem op_shl : OpR X (binaryOp .LShift) (rI CPow fun i j => .int (i * 2 ^ j.toNat)) := opI fun _ _ _ _ _ _ _ hc q => lshift_int_small hc.1 hc.2.1 hc.2.2 q
theorem op_and : OpR X (binaryOp .BitAnd) (rI0 fun i j => .int (Builtin.bitAnd i j)) := opI0 fun _ _ _ _ _ _ _ q => and_int q
theorem op_or : OpR X (binaryOp .BitOr) (rI0 fun i j => .int (Builtin.bitOr i j)) := opI0 fun _ _ _ _ _ _ _ q => or_int q
theorem unI {f : Value → Sem Value} {g : Int → Int}
    (rule : ∀ (i : Int) (t : Tok) (s : Shared) (Q : Value → Shared → Prop) (E : Value → Shared → Prop), Q (.int (g i) s.toks) { s with toks := s.toks + 1 } → wpAny (model X.prog X.w) X.A (f (.int i t)) Q E s) :
    UnR X f (rU fun i => .int (g i)) := by
  intro pins s σ H x v Q I rx h
  obtain ⟨i, rfl, q⟩ := h
  obtain ⟨t, rfl⟩ := rx
  exact rule i t s _ _ ⟨.int (g i), H, I.tok _, ⟨_, rfl⟩, q⟩
theorem un_neg : UnR X (unaryOp .USub) (rU fun i => .int (-i)) := unI fun _ _ _ _ _ q => neg_int q
/-! ### bools among ints: n += (a < b) -/
end

/-! ### comparisons -/
/-- the scalars that == tells apart as data does -/
def scal : V → V → Bool
  | .non, .non => true | .non, .int _ => true | .int _, .non => true | .non, .bl _ => true | .bl _, .non => true | .non, .str _ => true | .str _, .non => true
  | .int _, .int _ => true | .bl _, .bl _ => true | .str _, .str _ => true | .byt _, .byt _ => true
  | .int _, .str _ => true | .str _, .int _ => true | .bl _, .str _ => true | .str _, .bl _ => true
  | _, _ => false
def rEq : R2 := fun x y H Q => scal x y = true ∧ Q (.bl (decide (x = y))) H
def rNe : R2 := fun x y H Q => scal x y = true ∧ Q (.bl (!decide (x = y))) H

theorem dec_int {i j : Int} : decide (V.int i = V.int j) = (i == j) := by
  rw [Bool.eq_iff_iff]
  simp
theorem dec_bl {i j : Bool} : decide (V.bl i = V.bl j) = (i == j) := by
  rw [Bool.eq_iff_iff]
  simp
theorem dec_str {i j : Str} : decide (V.str i = V.str j) = (i == j) := by
  rw [Bool.eq_iff_iff]
  simp
theorem dec_byt {i j : Array UInt8} : decide (V.byt i = V.byt j) = (i.toList == j.toList) := by
  rw [Bool.eq_iff_iff]
  cases i
  cases j
  simp

section
variable {X : Cx} {a b c : Expr} {ta tb tc : TE} {pos : Pos}
theorem fin_bl {pins : List (Addr × Obj)} {σ : St} {H : Hp} {s : Shared} {Q : VK} {k k' : Bool} (I : Inv X pins σ H s) (q : Q (.bl k) H) (e : k = k') : EP X pins σ Q (.bool k') s := by
  subst e
  exact ⟨.bl k, H, I, rfl, q⟩
theorem op_eq : OpR X (compareOp .Eq) rEq := by
  intro pins s σ H x y v u Q I rx ry h
  obtain ⟨hs, q⟩ := h
  cases x with
  | non =>
    cases rx
    cases y with
    | non => cases ry; exact PySem.EqNone.eq_none_none (fin_bl I q (by simp))
    | bl j => cases ry; exact PySem.EqNone.eq_none_bool (fin_bl I q (by simp))
    | int j => obtain ⟨t', rfl⟩ := ry; exact PySem.EqNone.eq_none_int (fin_bl I q (by simp))
    | str j => obtain ⟨t', rfl⟩ := ry; exact PySem.EqNone.eq_none_str (fin_bl I q (by simp))
    | _ => exact absurd (show false = true from hs) Bool.false_ne_true
  | bl i =>
    cases rx
    cases y with
    | non => cases ry; exact PySem.EqNone.eq_bool_none (fin_bl I q (by simp))
    | bl j => cases ry; exact eq_bool (fin_bl I q dec_bl)
    | str j => obtain ⟨t', rfl⟩ := ry; exact PySem.EqMixed.eq_bool_str (fin_bl I q (by simp))
    | _ => exact absurd (show false = true from hs) Bool.false_ne_true
  | int i =>
    obtain ⟨t, rfl⟩ := rx
    cases y with
    | non => cases ry; exact PySem.EqNone.eq_int_none (fin_bl I q (by simp))
    | int j => obtain ⟨t', rfl⟩ := ry; exact eq_int (fin_bl I q dec_int)
    | str j => obtain ⟨t', rfl⟩ := ry; exact PySem.EqMixed.eq_int_str (fin_bl I q (by simp))
    | _ => exact absurd (show false = true from hs) Bool.false_ne_true
  | str i =>
    obtain ⟨t, rfl⟩ := rx
    cases y with
    | non => cases ry; exact PySem.EqNone.eq_str_none (fin_bl I q (by simp))
    | bl j => cases ry; exact PySem.EqMixed.eq_str_bool (fin_bl I q (by simp))
    | int j => obtain ⟨t', rfl⟩ := ry; exact PySem.EqMixed.eq_str_int (fin_bl I q (by simp))
    | str j => obtain ⟨t', rfl⟩ := ry; exact eq_str (fin_bl I q dec_str)
    | _ => exact absurd (show false = true from hs) Bool.false_ne_true
  | byt i =>
    obtain ⟨t, rfl⟩ := rx
    cases y with
    | byt j => obtain ⟨t', rfl⟩ := ry; exact PySem.W.eq_bytes (fin_bl I q dec_byt)
    | _ => exact absurd (show false = true from hs) Bool.false_ne_true
  | _ => cases y <;> exact absurd (show false = true from hs) Bool.false_ne_true
theorem op_ne : OpR X (compareOp .NotEq) rNe := by
  intro pins s σ H x y v u Q I rx ry h
  obtain ⟨hs, q⟩ := h
  cases x with
  | non =>
    cases rx
    cases y with
    | non => cases ry; exact PySem.EqNone.ne_none_none (fin_bl I q (by simp))
    | bl j => cases ry; exact PySem.EqNone.ne_none_bool (fin_bl I q (by simp))
    | int j => obtain ⟨t', rfl⟩ := ry; exact PySem.EqNone.ne_none_int (fin_bl I q (by simp))
    | str j => obtain ⟨t', rfl⟩ := ry; exact PySem.EqNone.ne_none_str (fin_bl I q (by simp))
    | _ => exact absurd (show false = true from hs) Bool.false_ne_true
  | bl i =>
    cases rx
    cases y with
    | non => cases ry; exact PySem.EqNone.ne_bool_none (fin_bl I q (by simp))
    | bl j => cases ry; exact ne_bool (fin_bl I q (congrArg not dec_bl))
    | str j => obtain ⟨t', rfl⟩ := ry; exact PySem.EqMixed.ne_bool_str (fin_bl I q (by simp))
    | _ => exact absurd (show false = true from hs) Bool.false_ne_true
  | int i =>
    obtain ⟨t, rfl⟩ := rx
    cases y with
    | non => cases ry; exact PySem.EqNone.ne_int_none (fin_bl I q (by simp))
    | int j => obtain ⟨t', rfl⟩ := ry; exact ne_int (fin_bl I q (congrArg not dec_int))
    | str j => obtain ⟨t', rfl⟩ := ry; exact PySem.EqMixed.ne_int_str (fin_bl I q (by simp))
    | _ => exact absurd (show false = true from hs) Bool.false_ne_true
  | str i =>
    obtain ⟨t, rfl⟩ := rx
    cases y with
    | non => cases ry; exact PySem.EqNone.ne_str_none (fin_bl I q (by simp))
    | bl j => cases ry; exact PySem.EqMixed.ne_str_bool (fin_bl I q (by simp))
    | int j => obtain ⟨t', rfl⟩ := ry; exact PySem.EqMixed.ne_str_int (fin_bl I q (by simp))
    | str j => obtain ⟨t', rfl⟩ := ry; exact ne_str (fin_bl I q (congrArg not dec_str))
    | _ => exact absurd (show false = true from hs) Bool.false_ne_true
  | byt i =>
    obtain ⟨t, rfl⟩ := rx
    cases y with
    | byt j => obtain ⟨t', rfl⟩ := ry; exact PySem.W.ne_bytes (fin_bl I q (congrArg not dec_byt))
    | _ => exact absurd (show false = true from hs) Bool.false_ne_true
  | _ => cases y <;> exact absurd (show false = true from hs) Bool.false_ne_true

theorem op_lt : OpR X (compareOp .Lt) (rI0 fun i j => .bl (decide (i < j))) := opB0 fun _ _ _ _ _ _ _ q => lt_int q
theorem op_gt : OpR X (compareOp .Gt) (rI0 fun i j => .bl (decide (j < i))) := opB0 fun _ _ _ _ _ _ _ q => gt_int q
theorem op_ge : OpR X (compareOp .GtE) (rI0 fun i j => .bl (decide (j ≤ i))) := opB0 fun _ _ _ _ _ _ _ q => ge_int q
/-- is None, is not None: the right side a value none -/
theorem op_isN : OpR X (compareOp .Is) (fun x y H Q => y = .non ∧ Q (.bl (decide (x = .non))) H) := by
  intro pins s σ H x y v u Q I rx ry h
  obtain ⟨rfl, q⟩ := h
  cases ry
  refine is_none_gen (fin_bl I q ?_)
  cases x <;> first
    | (cases rx; rfl)
    | (obtain ⟨t, rfl⟩ := rx; rfl)
theorem op_notN : OpR X (compareOp .IsNot) (fun x y H Q => y = .non ∧ Q (.bl (!decide (x = .non))) H) := by
  intro pins s σ H x y v u Q I rx ry h
  obtain ⟨rfl, q⟩ := h
  cases ry
  refine isnot_none_gen (fin_bl I q ?_)
  cases x <;> first
    | (cases rx; rfl)
    | (obtain ⟨t, rfl⟩ := rx; rfl)

/-- is, is not of two objects that are tracked lists or instances -/
def isObj : HO → Bool
  | .lst _ => true
  | .ins _ _ _ => true
  | _ => false
theorem nomark (b : Expr) {op : CmpOp} (h : op ≠ .In := by decide) (h2 : op ≠ .NotIn := by decide) : behindInMarks op b = false := by
  have e1 : (op == CmpOp.In) = false := by cases op <;> first | rfl | exact absurd rfl h
  have e2 : (op == CmpOp.NotIn) = false := by cases op <;> first | rfl | exact absurd rfl h2
  cases b <;> simp [behindInMarks, e1, e2]
/-- a comparison as a value; hm: nomark b, or (for in, not in) by with_unfolding_all rfl -/
theorem pe_cmpR {op : CmpOp} {r : R2} (ho : OpR X (compareOp op) r) (ha : PE X a ta) (hb : PE X b tb) (hm : behindInMarks op b = false) : PE X (.Compare a [op] [b] pos) (tOp r ta tb) := by
  intro pins s σ H Q I h
  exact wpAny_Compare1 (binT ha hb I h fun v u s2 x y H2 I2 rx ry q => ho pins s2 σ H2 x y v u Q I2 rx ry q) hm
/-- a reading of a value as a test -/
def tTest (t : TE) : TT := fun σ H Q => t σ H fun x H' => ∃ k, x = .bl k ∧ Q k H'
theorem pt_cmpR {op : CmpOp} {r : R2} (ho : OpR X (compareOp op) r) (ha : PE X a ta) (hb : PE X b tb) (hm : behindInMarks op b = false) : PT X (.Compare a [op] [b] pos) (tTest (tOp r ta tb)) := by
  intro pins s σ H Q I h
  refine wpAny_isTrue_Compare1 (thn (ha pins s σ H _ I h) fun v s1 ⟨x, H1, I1, r1, q1⟩ => thn (hb pins s1 σ H1 _ I1 q1) fun u s2 ⟨y, H2, I2, r2, q2⟩ =>
    thn (ho pins s2 σ H2 x y v u _ I2 r1 r2 q2) fun c s3 ⟨z, H3, I3, r3, k, e, q3⟩ => ?_) hm
  subst e
  cases r3
  exact wpAny_truthy_bool ⟨H3, I3, q3⟩
/-- a op1 b op2 c -/
def tChain (r r' : R2) (ta tb tc : TE) : TE := fun σ H Q => ta σ H fun x H1 => tb σ H1 fun y H2 => r x y H2 fun z H3 => ∃ k, z = .bl k ∧
  (if k = true then tc σ H3 fun w' H4 => r' y w' H4 Q else Q (.bl false) H3)
/-! ### truth -/
/-- a value's truth by the abstract heap -/
def TruV (K : PySem.W.Frag) (x : V) (H : Hp) (k : Bool) : Prop :=
  match x with
  | .non => k = false
  | .bl b => k = b
  | .int i => k = (i != 0)
  | .str y => y.length ≤ sizeLine ∧ k = ((y.length : Int) != 0)
  | .byt y => y.size ≤ sizeLine ∧ k = ((y.size : Int) != 0)
  | .ref p => (∃ xs, SqL K H p xs ∧ k = !xs.isEmpty) ∨ (∃ xs, SqT K H p xs ∧ k = !xs.isEmpty) ∨ ∃ kvs, H p = some (.dK kvs) ∧ k = !kvs.isEmpty
  | _ => False
theorem line63 : (sizeLine : Nat) < 2 ^ 63 := by rw [sizeLine_eq]; decide
/-! ### strs and bytes -/
def PlainIxT (b : Expr) : Prop := ∀ o i, subscripted b false o i = operate [o, i] (getItem o i)
/-! ### scalar builtins, by CallR -/
theorem vals1 {x : V} {us : List Value} (r : Vals [x] us) : ∃ u, us = [u] ∧ RelV x u := by
  cases r with
  | cons r1 r2 => cases r2; exact ⟨_, rfl, r1⟩
theorem vals2 {x y : V} {us : List Value} (r : Vals [x, y] us) : ∃ u w', us = [u, w'] ∧ RelV x u ∧ RelV y w' := by
  cases r with
  | cons r1 r2 =>
    cases r2 with
    | cons r3 r4 => cases r4; exact ⟨_, _, rfl, r1, r3⟩
theorem call_abs : CallR X (.builtin "abs") (fun xs H Q => ∃ i, xs = [.int i] ∧ Q (.int (if i < 0 then -i else i)) H) := by
  intro pins s σ H xs us Q I r h
  obtain ⟨i, rfl, q⟩ := h
  obtain ⟨u, rfl, t, rfl⟩ := vals1 r
  exact call_abs_int fun u tk => ⟨.int (if i < 0 then -i else i), H, I.tok _, ⟨_, rfl⟩, q⟩
theorem call_max2 (hc : X.calm = true) : CallR X (.builtin "max") (fun xs H Q => ∃ i j, xs = [.int i, .int j] ∧ Q (.int (if j > i then j else i)) H) := by
  intro pins s σ H xs us Q I r h
  obtain ⟨i, j, rfl, q⟩ := h
  obtain ⟨u, w', rfl, ⟨t, rfl⟩, ⟨t', rfl⟩⟩ := vals2 r
  refine max_two_ints (I.ok.hd hc) fun h' tk k => ⟨_, H, I.kept k, ?_, q⟩
  by_cases hj : j > i
  · rw [if_pos hj, if_pos hj]; exact ⟨_, rfl⟩
  · rw [if_neg hj, if_neg hj]; exact ⟨_, rfl⟩
theorem call_min2 (hc : X.calm = true) : CallR X (.builtin "min") (fun xs H Q => ∃ i j, xs = [.int i, .int j] ∧ Q (.int (if j < i then j else i)) H) := by
  intro pins s σ H xs us Q I r h
  obtain ⟨i, j, rfl, q⟩ := h
  obtain ⟨u, w', rfl, ⟨t, rfl⟩, ⟨t', rfl⟩⟩ := vals2 r
  refine min_two_ints (I.ok.hd hc) fun h' tk k => ⟨_, H, I.kept k, ?_, q⟩
  by_cases hj : j < i
  · rw [if_pos hj, if_pos hj]; exact ⟨_, rfl⟩
  · rw [if_neg hj, if_neg hj]; exact ⟨_, rfl⟩
/-- len of a str, a bytes, a list, a tuple -/
def LenV (K : PySem.W.Frag) (x : V) (H : Hp) (n : Nat) : Prop :=
  match x with
  | .str y => y.length ≤ sizeLine ∧ n = y.length
  | .byt y => y.size ≤ sizeLine ∧ n = y.size
  | .ref p => (∃ xs, SqL K H p xs ∧ n = xs.length) ∨ ∃ xs, SqT K H p xs ∧ n = xs.length
  | _ => False
end
end L2

namespace L2
open PySem PySem.Spec PyProof.Rows

/-! ### an instance, its attributes a map -/
structure ObjM (h : Heap) (x dx C : Addr) (mA : Str → Option Value) : Prop where
  obj : h.get? x = some (PySem.W.instObj C dx)
  ns : h.Ns1 dx mA
  ne : dx ≠ x

theorem lookIn_ns {h : Heap} {dx : Addr} {mA : Str → Option Value} (n : h.Ns1 dx mA) : ∃ od, h.get? dx = some od ∧ ∀ name, PySem.W.lookIn name od = some (mA name) := by
  obtain ⟨o, es, ep, ho, hd, hk, _, hm⟩ := n
  refine ⟨o, ho, fun name => ?_⟩
  have e := hm name
  unfold nsFind findBy at e
  rw [← Array.find?_toList] at e
  unfold PySem.W.lookIn
  rw [hd]
  dsimp only
  split
  · rename_i y q
    rw [q] at e
    exact congrArg some e
  · rename_i q
    rw [q] at e
    have a : es.toList.any (·.refKey) = false := by
      rw [List.any_eq_false]
      intro y hy
      obtain ⟨z, t, hkey⟩ := hk y (Array.mem_toList_iff.mp hy)
      simp [DictEntry.refKey, hkey]
    have a' : ¬ es.toList.any (·.refKey) = true := by rw [a]; exact Bool.false_ne_true
    rw [if_neg a']
    exact congrArg some e

theorem ObjM.look {h : Heap} {x dx C : Addr} {mA : Str → Option Value} (I : ObjM h x dx C mA) : ∃ od, PySem.W.InstAt h x (PySem.W.instObj C dx) C (some od) ∧ ∀ name, PySem.W.lookIn name od = some (mA name) :=
  let ⟨od, ho, hl⟩ := lookIn_ns I.ns
  ⟨od, ⟨I.obj, rfl, rfl, ho⟩, hl⟩

section
variable {prog : Program} {w : World} {A : Around} {E : Value → Shared → Prop} {s : Shared} {K : PySem.W.Frag} {x dx C f : Addr} {mA : Str → Option Value} {name : Str} {v : Value}

end

/-! ### the attributes as a list of pairs -/
def putF (f : Str) (v : V) : List (Str × V) → List (Str × V)
  | [] => [(f, v)]
  | (g, x) :: r => if g = f then (g, v) :: r else (g, x) :: putF f v r
section
variable {P : Program} {w : World} {H H' : Hp} {h h' : Heap} {a C dx : Addr} {fs fs' : List (Str × V)}
theorem ins_get (hok : HOk P w H h) (e : H a = some (.ins C dx fs)) : ∃ mA, ObjM h a dx C mA ∧ (∀ f, RelO (fs.lookup f) (mA f)) ∧ PySem.Within mA (fs.map (·.1)) ∧ fs.length ≤ 1000 ∧ H dx = some (.own a) := by
  obtain ⟨d, z, ne, ob, mA, n, r, q⟩ := (show ObjOk P w H h a (.ins C dx fs) from hok a _ e)
  exact ⟨mA, ⟨ob, n, ne⟩, r, q, z, d⟩
end

/-! ### what of the text a class must have -/
structure Cls (K : PySem.W.Frag) (C : Addr) : Prop where
  pg : PySem.W.plainGet K C Str.empty = true
  hd : PySem.W.hasDictIn K C = true
  po : PySem.W.plainOver K C = true
  sa : PySem.W.findIn K (.ref C) "__setattr__" = some (some (.builtin "object.__setattr__"))
theorem Cls.get {K : PySem.W.Frag} {C : Addr} (c : Cls K C) (f : Str) : PySem.W.plainGet K C f = true := c.pg
/-- no class of it has the name -/
def NoAttr (K : PySem.W.Frag) (C : Addr) (f : Str) : Prop := PySem.W.findIn K (.ref C) f = some none
/-- a constant of the class -/
structure Con (K : PySem.W.Frag) (C : Addr) (f : Str) (v : V) (u : Value) : Prop where
  at_ : PySem.W.findIn K (.ref C) f = some (some u)
  rel : RelV v u
  get : PySem.W.specialIn K u "__get__" = some none
  cp : PySem.W.copiedNames.contains f = false
/-- a method: a plain def of the class or of one above it -/
structure Meth (K : PySem.W.Frag) (C : Addr) (m : Str) (f : Addr) : Prop where
  at_ : PySem.W.findIn K (.ref C) m = some (some (.ref f))
  fn : PySem.W.isFn K (.ref f) = true
  kp : PySem.W.keepIn K (.ref f) = true

section
variable {X : Cx} {pins : List (Addr × Obj)} {σ : St} {H : Hp} {s : Shared} {a C dx : Addr} {fs : List (Str × V)} {f : Str} {v : V} {A : Around} {E : Value → Shared → Prop}

end

/-! ### readings and rules -/
/-- e.f, an attribute of the instance -/
def tFld (K : PySem.W.Frag) (ta : TE) (f : Str) : TE := fun σ H Q => ta σ H fun x H1 => ∃ a C dx fs v, x = .ref a ∧ H1 a = some (.ins C dx fs) ∧ Cls K C ∧ NoAttr K C f ∧ fs.lookup f = some v ∧ Q v H1
/-- e.f, a constant of the class -/
def tCon (K : PySem.W.Frag) (ta : TE) (f : Str) : TE := fun σ H Q => ta σ H fun x H1 => ∃ a C dx fs v u, x = .ref a ∧ H1 a = some (.ins C dx fs) ∧ Cls K C ∧ Con K C f v u ∧ fs.lookup f = none ∧ Q v H1
/-- e.f = value -/
def sFld (K : PySem.W.Frag) (ta tv : TE) (f : Str) : TS := fun D σ H => tv σ H fun y H1 => ta σ H1 fun x H2 => ∃ a C dx fs, x = .ref a ∧ H2 a = some (.ins C dx fs) ∧ Cls K C ∧ NoAttr K C f ∧ fs.length < 1000 ∧
  D.nx σ (upd H2 a (.ins C dx (putF f y fs)))
/-- an augmented operator on two values -/
def InOp (X : Cx) (op : Operator) (rd : V → V → Hp → VK → Prop) : Prop :=
  ∀ (pins : List (Addr × Obj)) (s : Shared) (σ : St) (H : Hp) (x y : V) (u v : Value) (Q : VK), Inv X pins σ H s → RelV x u → RelV y v → rd x y H Q → wpAny (model X.prog X.w) X.A (inplaceOp op u v) (EP X pins σ Q) X.xe s
/-- e.f op= value -/
def sFldAug (K : PySem.W.Frag) (ta tv : TE) (rd : V → V → Hp → VK → Prop) (f : Str) : TS := fun D σ H => ta σ H fun x H1 => ∃ a C dx fs v, x = .ref a ∧ H1 a = some (.ins C dx fs) ∧ Cls K C ∧ NoAttr K C f ∧ fs.lookup f = some v ∧
  tv σ H1 fun y H2 => rd v y H2 fun z H3 => ∃ dx' fs', H3 a = some (.ins C dx' fs') ∧ fs'.length < 1000 ∧ D.nx σ (upd H3 a (.ins C dx' (putF f z fs')))

section
variable {X : Cx} {o e value : Expr} {f : Str} {pos pos' tpos : Pos} {ta tv : TE}
def rAdd : V → V → Hp → VK → Prop := fun x y H Q => ∃ i j, x = .int i ∧ y = .int j ∧ Q (.int (i + j)) H
def rSub : V → V → Hp → VK → Prop := fun x y H Q => ∃ i j, x = .int i ∧ y = .int j ∧ Q (.int (i - j)) H
end

/-! ### isinstance -/
section
variable {X : Cx} {pins : List (Addr × Obj)} {σ : St} {H : Hp} {s : Shared} {A : Around} {E : Value → Shared → Prop} {Q : Value → Shared → Prop} {c : Value} {b : Bool}
/-- the type of a value, as the fragment's deciders take it; for an instance its class -/
inductive TyOf (K : PySem.W.Frag) (H : Hp) : V → Value → Prop where
  | non : TyOf K H .non (.type "NoneType")
  | bl (x : Bool) : TyOf K H (.bl x) (.type "bool")
  | int (i : Int) : TyOf K H (.int i) (.type "int")
  | str (x : Str) : TyOf K H (.str x) (.type "str")
  | flt (x : UInt64) : TyOf K H (.flt x) (.type "float")
  | lst {a : Addr} {xs : List V} (e : H a = some (.lst xs)) : TyOf K H (.ref a) (.type "list")
  | frz {a : Addr} {o : Obj} {xs : List V} (e : H a = some (.frz o (.lst xs))) : TyOf K H (.ref a) (.type "list")
  | tup {a : Addr} {xs : List V} (e : H a = some (.tup xs)) : TyOf K H (.ref a) (.type "tuple")
  | dK {a : Addr} {kvs : List (Key × V)} (e : H a = some (.dK kvs)) : TyOf K H (.ref a) (.type "dict")
  | dT {a : Addr} {kvs : List (List Key × V)} (e : H a = some (.dT kvs)) : TyOf K H (.ref a) (.type "dict")
  | ins {a C dx : Addr} {fs : List (Str × V)} (e : H a = some (.ins C dx fs)) (cl : Cls K C) (ha : PySem.W.findIn K (.ref C) "__class__" = some (some (.builtin "object.__class__")))
      (hn : PySem.W.specialIn K (.builtin "object.__class__") "__get__" = some (some (.builtin "getset_descriptor.__get__"))) (htk : PySem.W.takesIn K (.builtin "object.__class__") = some true)
      (hm : PySem.W.mroIn K C (.type "object") = some true) : TyOf K H (.ref a) (.ref C)
/-- isinstance(x, c) for one class c, a built-in or an own one: kitOne's answer -/
theorem isinst_ok {x : V} {u t : Value} (I : Inv X pins σ H s) (rx : RelV x u) (ty : TyOf X.K H x t) (e : PySem.W.kitOne X.K t c = some b) (h : ∀ tk, Q (.bool b) { s with toks := tk }) :
    wpAny (model X.prog X.w) A (call (.builtin "isinstance") [u, c]) Q E s := by
  cases ty with
  | non => cases (show u = Value.none from rx); exact PySem.W.kia_one PySem.W.kitx_none I.kIn True.intro e (fun z => nomatch z) h
  | bl y => cases (show u = Value.bool y from rx); exact PySem.W.kia_one PySem.W.kitx_bool I.kIn True.intro e (fun z => nomatch z) h
  | int i => obtain ⟨t, q⟩ := (show ∃ t, u = Value.int i t from rx); cases q; exact PySem.W.kia_one PySem.W.kitx_int I.kIn True.intro e (fun z => nomatch z) h
  | str y => obtain ⟨t, q⟩ := (show ∃ t, u = Value.str y t from rx); cases q; exact PySem.W.kia_one PySem.W.kitx_str I.kIn True.intro e (fun z => nomatch z) h
  | flt y => obtain ⟨t, q⟩ := (show ∃ t, u = Value.float y t from rx); cases q; exact PySem.W.kia_one PySem.W.kitx_float I.kIn True.intro e (fun z => nomatch z) h
  | @lst a xs ea =>
    cases (show u = Value.ref a from rx)
    obtain ⟨_, _, n, _, h1⟩ := (show ObjOk X.prog X.w H s.heap a (.lst xs) from I.hok a _ ea)
    exact PySem.W.kia_one PySem.W.kitx_list I.kIn ⟨_, h1, rfl⟩ e (fun z => nomatch z) h
  | @frz a ob xs ea =>
    cases (show u = Value.ref a from rx)
    obtain ⟨_, _, _, n, _, h1⟩ := (show ObjOk X.prog X.w H s.heap a (.frz ob (.lst xs)) from I.hok a _ ea)
    exact PySem.W.kia_one PySem.W.kitx_list I.kIn ⟨_, h1, rfl⟩ e (fun z => nomatch z) h
  | @tup a xs ea =>
    cases (show u = Value.ref a from rx)
    obtain ⟨_, _, _, p⟩ := (show ObjOk X.prog X.w H s.heap a (.tup xs) from I.hok a _ ea)
    obtain ⟨o, h1, h2, _⟩ := p
    exact PySem.W.kia_one PySem.W.kitx_tuple I.kIn ⟨o, h1, h2⟩ e (fun z => nomatch z) h
  | @dK a kvs ea =>
    cases (show u = Value.ref a from rx)
    obtain ⟨_, _, vs, _, p⟩ := (show ObjOk X.prog X.w H s.heap a (.dK kvs) from I.hok a _ ea)
    obtain ⟨o, es, ep, h1, h2, _⟩ := p
    exact PySem.W.kia_one PySem.W.kitx_dict I.kIn ⟨o, h1, h2.1⟩ e (fun z => nomatch z) h
  | @dT a kvs ea =>
    cases (show u = Value.ref a from rx)
    obtain ⟨_, _, xs, _, o, es, ep, h1, h2, _⟩ := (show ObjOk X.prog X.w H s.heap a (.dT kvs) from I.hok a _ ea)
    exact PySem.W.kia_one PySem.W.kitx_dict I.kIn ⟨o, h1, h2.1⟩ e (fun z => nomatch z) h
  | @ins a C dx fs ea cl ha hn htk hm =>
    cases (show u = Value.ref a from rx)
    obtain ⟨mA, O, _⟩ := ins_get I.hok ea
    obtain ⟨od, J, _⟩ := O.look
    exact PySem.W.kia_one (PySem.W.kitx_own (cl.get _) cl.hd ha hn htk hm) I.kIn J e (fun z => nomatch z) h
end
end L2

namespace L2
open PySem PySem.Spec PyProof.Rows

/-! ### room -/
structure Room (k : Nat) (A : Around) : Prop where
  hd : A.handled = none
  dp : A.depth + 3 * k + 5 < recursionLimit
  un : A.units + 16 * k + 200 < cLine
  gd : A.guards = some []
theorem Room.mono {j k : Nat} {A : Around} (r : Room k A) (h : j ≤ k) : Room j A := ⟨r.hd, by have := r.dp; omega, by have := r.un; omega, r.gd⟩
theorem Room.deeper {k : Nat} {A : Around} (r : Room (k + 1) A) (env : Env) : Room k (A.deeper env) :=
  ⟨r.hd, by have := r.dp; show A.depth + 1 + 3 * k + 5 < _; omega, by have := r.un; show A.units + 3 + 16 * k + 200 < _; omega, r.gd⟩
theorem Room.depth {k : Nat} {A : Around} (r : Room k A) : A.depth < recursionLimit := by have := r.dp; omega
theorem Room.units {k : Nat} {A : Around} (r : Room k A) : A.units + 64 < cLine := by have := r.un; omega
/-! ### argument lists and displays -/
def tNil : TA := fun _ H Q => Q [] H
def tCons (ta : TE) (tr : TA) : TA := fun σ H Q => ta σ H fun x H1 => tr σ H1 fun xs H2 => Q (x :: xs) H2
section
variable {X : Cx} {e : Expr} {es : List Expr} {te : TE} {t : TA} {pos : Pos}
theorem pa_nil : PA X [] tNil := fun _ _ _ _ H Q I h => Calls.spliced_nil ⟨[], H, I, .nil, h⟩
theorem pa_cons (ha : PE X e te) (hr : PA X es t) (hs : starEach (e :: es) X.env = (false, eval e X.env) :: starEach es X.env := by rfl) : PA X (e :: es) (tCons te t) := by
  intro pos pins s σ H Q I h
  rw [hs]
  show wpAny _ _ (spliced ((false, eval e X.env) :: backTo pos (starEach es X.env))) _ _ s
  refine Calls.spliced_cons (thn (ha pins s σ H _ I h) fun u s1 ⟨x, H1, I1, r1, q1⟩ => ?_)
  exact thn (hr pos pins s1 σ H1 _ I1 q1) fun us s2 ⟨xs, H2, I2, r2, q2⟩ => ⟨x :: xs, H2, I2, .cons r1 r2, q2⟩

/-- a tuple, a list of written items -/
def tTup (t : TA) : TE := fun σ H Q => t σ H fun xs H1 => xs.length ≤ sizeLine ∧ ∀ p, H1 p = none → Q (.ref p) (upd H1 p (.tup xs))
def tLst (t : TA) : TE := fun σ H Q => t σ H fun xs H1 => xs.length ≤ sizeLine ∧ ∀ p, H1 p = none → Q (.ref p) (upd H1 p (.lst xs))
theorem pe_tup {x1} (h : PA X es t) : PE X (.Tuple es x1 pos) (tTup t) := by
  intro pins s σ H Q I hq
  refine wpAny_Tuple_spliced (thn (h pos pins s σ H _ I hq) fun us s1 ⟨xs, H1, I1, r, z, q⟩ => ⟨by rw [← r.length]; exact z, ?_⟩)
  have hf : H1 s1.heap.objs.size = none := I1.hok.fresh (Nat.le_refl _)
  refine ⟨.ref s1.heap.objs.size, upd H1 s1.heap.objs.size (.tup xs), I1.laid (t' := s1.toks) (fun b u e => Heap.get?_push_of_some _ e) (Nat.le_refl _) ?_, rfl, q _ hf⟩
  exact ⟨z, us, r, ⟨_, Heap.get?_push_size _ rfl, rfl, _, rfl⟩⟩
theorem pe_lst (h : PA X es t) : PE X (.List es pos) (tLst t) := by
  intro pins s σ H Q I hq
  refine wpAny_List_spliced (thn (h pos pins s σ H _ I hq) fun us s1 ⟨xs, H1, I1, r, z, q⟩ => ⟨by rw [← r.length]; exact z, ?_⟩)
  have hf : H1 s1.heap.objs.size = none := I1.hok.fresh (Nat.le_refl _)
  refine ⟨.ref s1.heap.objs.size, upd H1 s1.heap.objs.size (.lst xs), I1.laid (t' := s1.toks) (fun b u e => Heap.get?_push_of_some _ e) (Nat.le_refl _) ?_, rfl, q _ hf⟩
  exact ⟨z, us, 0, r, Heap.get?_push_size _ rfl⟩
end

/-! ### what a def promises -/
/-- a def's promise: the bound arguments in the parameters' order, the heap, the wanted end, the wanted exception -/
abbrev Sp := List V → Hp → VK → XK → Prop
/-- how an exception lies behind a call (file 08 gives it): the callers' frames, abstract heap and state ahead of the call, the wish, the exception, the state -/
abbrev CXT := List Env → Hp → Shared → XK → Value → Shared → Prop

/-- the state at a call -/
structure Env0 (P : Program) (w : World) (K : PySem.W.Frag) (mg : Str → Option Value) (base : Heap) (A : Around) (outer : List Env) (s : Shared) (H : Hp) : Prop where
  frames : A.frames = some outer
  mod : Mod K mg base
  bs : ∀ b o, base.get? b = some o → s.heap.get? b = some o ∧ H b = none
  bsz : base.objs.size ≤ s.heap.objs.size
  funs : s.heap.FunFrames base outer
  frf : ∀ b ∈ frs outer, H b = none
  hok : HOk P w H s.heap
  bare : AllBare s.gens
/-- a call's end -/
def CE (outer : List Env) (P : Program) (w : World) (H : Hp) (s : Shared) (Q : VK) (u : Value) (s' : Shared) : Prop :=
  ∃ v H', s'.os = s.os ∧ AllBare s'.gens ∧ Un (frs outer) [] H H' s.heap s'.heap ∧ HOk P w H' s'.heap ∧ RelV v u ∧ Q v H'
def CR (CX : CXT) (outer : List Env) (P : Program) (w : World) (H : Hp) (s : Shared) (Q : VK) (E : XK) (r : Result) (s' : Shared) : Prop :=
  match r with
  | .ok (.ret u) => CE outer P w H s Q u s'
  | .ok _ => False
  | .error e => CX outer H s E e s'
structure FnOk (P : Program) (w : World) (K : PySem.W.Frag) (mg : Str → Option Value) (base : Heap) (CX : CXT) (k : Nat) (f : Addr) (fd : FuncData) (ps : List Str) (sp : Sp) : Prop where
  len : ∀ vs H Q E, sp vs H Q E → vs.length = ps.length
  run : ∀ (A : Around) (outer : List Env) (s : Shared) (H : Hp) (args : Args) (us : List Value) (vs : List V) (Q : VK) (E : XK), Room k A → Env0 P w K mg base A outer s H → BindsTo s fd args (ps.zip us) → Vals vs us → sp vs H Q E →
    codeAny (model P w) A (.call (.ref f) args) (CR CX outer P w H s Q E) s
theorem FnOk.mono {P : Program} {w : World} {K : PySem.W.Frag} {mg : Str → Option Value} {base : Heap} {CX : CXT} {j k : Nat} {f : Addr} {fd : FuncData} {ps : List Str} {sp : Sp} (F : FnOk P w K mg base CX j f fd ps sp) (h : j ≤ k) :
    FnOk P w K mg base CX k f fd ps sp := ⟨F.len, fun A outer s H args us vs Q E hr => F.run A outer s H args us vs Q E (hr.mono h)⟩
section
variable {X : Cx} {pins : List (Addr × Obj)} {σ : St} {H : Hp} {s s' : Shared}
/-- from a body: what a callee wants -/
theorem Inv.env0 (I : Inv X pins σ H s) : Env0 X.prog X.w X.K X.mg X.base X.A X.stack s H :=
  ⟨I.ok.frames, I.ok.mod, I.bs, Nat.le_trans I.ok.bsz I.sz, I.stack, I.stkFree, I.hok, I.bare⟩
/-- behind a call -/
theorem Inv.after {Q : VK} {u : Value} (I : Inv X pins σ H s) (h : CE X.stack X.prog X.w H s Q u s') : EP X pins σ Q u s' := by
  obtain ⟨v, H', os, bare, un, hok, r, q⟩ := h
  obtain ⟨hh, g, d, t, os'⟩ := s'
  obtain rfl : os' = s.os := os
  exact ⟨v, H', I.call (h' := hh) (g' := g) (d' := d) (t' := t) (ch := []) un hok bare (fun b z => absurd z (by simp)), r, q⟩
end

/-! ### calls -/
/-- f(..): the written arguments, then the defaults dvs; E: what is wanted of an exception -/
def tCall (sp : Sp) (dvs : List V) (E : XK) (t : TA) : TE := fun σ H Q => t σ H fun vs H1 => sp (vs ++ dvs) H1 Q E
/-- o.m(..) of an instance of the class at C -/
def tMeth (C : Addr) (m : Str) (sp : Sp) (dvs : List V) (E : XK) (ta : TE) (t : TA) : TE := fun σ H Q => ta σ H fun x H1 => ∃ a dx fs, x = .ref a ∧ H1 a = some (.ins C dx fs) ∧ fs.lookup m = none ∧
  t σ H1 fun vs H2 => sp (x :: (vs ++ dvs)) H2 Q E
/-- C(..): a new instance and its dict, then __init__ -/
def tMake (C : Addr) (sp : Sp) (dvs : List V) (E : XK) (t : TA) : TE := fun σ H Q => t σ H fun vs H1 => ∀ x dx, H1 x = none → H1 dx = none → dx ≠ x →
  sp (.ref x :: (vs ++ dvs)) (upd (upd H1 dx (.own x)) x (.ins C dx [])) (fun v H2 => v = .non ∧ Q (.ref x) H2) E

/-- how the parameters are bound: us the positional arguments, kw the keywords' values by name, ds the defaults that fill up -/
def Binds (K : PySem.W.Frag) (fd : FuncData) (ps : List Str) (ds : List Value) : Prop :=
  ∀ (s : Shared) (us : List Value), K.In s.heap → (us ++ ds).length = ps.length → BindsTo s fd ⟨us, []⟩ (ps.zip (us ++ ds))
/-- every parameter is given -/
theorem Binds.all {K : PySem.W.Frag} {fd : FuncData} {ps : List Str} (h : ∀ us : List Value, us.length = ps.length → bindArgs fd ⟨us, []⟩ = pure (ps.zip us)) : Binds K fd ps [] := fun s us _ hl => by
  rw [List.append_nil] at hl ⊢
  exact .of_eq (h us hl)

/-- an exception of a callee reaches what this body wants of exceptions -/
def Passes (CX : CXT) (X : Cx) (E : XK) : Prop := ∀ (pins : List (Addr × Obj)) (σ : St) (H : Hp) (s : Shared) (e : Value) (s' : Shared), Inv X pins σ H s → CX X.stack H s E e s' → X.xe e s'

section
variable {X : Cx} {CX : CXT} {k : Nat} {f C : Addr} {fd : FuncData} {ps : List Str} {sp : Sp} {dvs : List V} {ds : List Value} {E : XK} {x m : Str} {p pos apos : Pos} {e o : Expr} {es : List Expr} {ta : TE} {t : TA}

/-- the callee runs -/
theorem run_fn {pins : List (Addr × Obj)} {σ : St} {H : Hp} {s : Shared} {Q : VK} {us : List Value} {vs : List V} (F : FnOk X.prog X.w X.K X.mg X.base CX k f fd ps sp) (hr : Room k X.A) (hb : Binds X.K fd ps ds) (hd : Vals dvs ds) (hx : Passes CX X E)
    (I : Inv X pins σ H s) (r : Vals vs us) (h : sp (vs ++ dvs) H Q E) : wpAny (model X.prog X.w) X.A (call (.ref f) us) (EP X pins σ Q) X.xe s := by
  have r2 : Vals (vs ++ dvs) (us ++ ds) := r.append hd
  have hl : (us ++ ds).length = ps.length := by rw [← r2.length]; exact F.len _ _ _ _ h
  refine wpAny_call (codeAny_mono (F.run X.A X.stack s H ⟨us, []⟩ (us ++ ds) (vs ++ dvs) Q E hr I.env0 (hb s us I.kIn hl) r2 h) fun r s' hq => ?_)
  cases r with
  | error e => exact hx pins σ H s e s' I hq
  | ok fl =>
    cases fl with
    | ret u => exact I.after hq
    | next => exact False.elim hq
    | brk => exact False.elim hq
    | cont => exact False.elim hq

theorem pe_call (F : FnOk X.prog X.w X.K X.mg X.base CX k f fd ps sp) (hr : Room k X.A) (hg : Gl X x) (hm : X.mg x = some (.ref f)) (hk : PySem.W.keepIn X.K (.ref f) = true) (hb : Binds X.K fd ps ds) (hd : Vals dvs ds) (hx : Passes CX X E)
    (ha : PA X (e :: es) t) (hdb : (x == ("__debug__" : Str)) = false := by decide) (he : starEach (e :: es) X.env = (false, eval e X.env) :: starEach es X.env := by rfl) (hpl : (backTo pos (starEach es X.env)).any (·.1) = false := by rfl) :
    PE X (.Call (.Name x p) (e :: es) [] pos) (tCall sp dvs E t) := by
  intro pins s σ H Q I h
  refine wpAny_Call_Name_kw (ld_glob I hg hm ?_ hdb)
  refine PySem.W.callWith_K (h₀ := X.base) I.ok.mod.kin hk (thn (ha pos pins s σ H _ I h) fun us s1 ⟨vs, H1, I1, r, q⟩ => ⟨I1.kIn, ?_⟩) he hpl
  exact run_fn F hr hb hd hx I1 r q
/-- what a class must have to be made -/
structure Mk (K : PySem.W.Frag) (C f : Addr) : Prop where
  makes : PySem.W.makesIn K C = true
  init : PySem.W.findIn K (.ref C) "__init__" = some (some (.ref f))
  fn : PySem.W.isFn K (.ref f) = true
  kp : PySem.W.keepIn K (.ref C) = true

end

/-! ### keywords -/
/-- the values of the keywords, from the left -/
def PK (X : Cx) (kws : List Keyword) (t : TA) : Prop :=
  ∀ (pos : Pos) (pins : List (Addr × Obj)) (s : Shared) (σ : St) (H : Hp) (Q : List V → Hp → Prop), Inv X pins σ H s → t σ H Q → wpAny (model X.prog X.w) X.A (evalAll ((backToKw pos (keywordEach kws X.env)).map (·.2))) (AP X pins σ Q) X.xe s
section
variable {X : Cx} {CX : CXT} {k : Nat} {f C : Addr} {fd : FuncData} {ps ks : List Str} {sp : Sp} {E : XK} {x m : Str} {p pos apos kpos : Pos} {e o : Expr} {es : List Expr} {kws : List Keyword} {te ta : TE} {t tk : TA} {nm : Option Str}
/-- how a call with keywords binds: g puts the positional values us and the keywords' values ws (names ks) in the parameters' order, defaults among them -/
structure KBinds (K : PySem.W.Frag) (fd : FuncData) (ps ks : List Str) (g : List Value → List Value → List Value) (gV : List V → List V → List V) : Prop where
  to : ∀ (s : Shared) (us ws : List Value), K.In s.heap → (g us ws).length = ps.length → BindsTo s fd ⟨us, ks.zip ws⟩ (ps.zip (g us ws))
  rel : ∀ {vs : List V} {us : List Value} {zs : List V} {ws : List Value}, Vals vs us → Vals zs ws → Vals (gV vs zs) (g us ws)
def tCallK (sp : Sp) (gV : List V → List V → List V) (E : XK) (t tk : TA) : TE := fun σ H Q => t σ H fun vs H1 => tk σ H1 fun zs H2 => sp (gV vs zs) H2 Q E
variable {g : List Value → List Value → List Value} {gV : List V → List V → List V}
end

/-! ### a def's body keeps its promise -/
/-- names: the parameters first -/
structure FnScope (N P : List Str) (sc : Scope) : Prop where
  kind : sc.kind = .function
  co : sc.isCoroutine = false
  gen : sc.isGenerator = false
  nd : N.Nodup
  pre : N.take P.length = P
  par : ∀ x ∈ P, sc.names.lookup x = some .local ∨ sc.names.lookup x = some .cell
  nofree : ∀ y ∈ sc.names, y.2 ≠ .free

theorem bindL_out {kindOf : Str → Option NameKind} {x : Str} : ∀ {binds : List (Str × Value)} {m : Str → Option Value}, (∀ v, (x, v) ∉ binds) → bindL kindOf binds m x = m x
  | [], _, _ => rfl
  | (n, v) :: r, m, h => by
    unfold bindL
    rw [bindL_out fun w hw => h w (List.mem_cons_of_mem _ hw)]
    split
    · have : x ≠ n := by rintro rfl; exact h v List.mem_cons_self
      simp [this]
    · rfl
theorem bindC_out {kindOf : Str → Option NameKind} {x : Str} : ∀ {binds : List (Str × Value)} {m : Str → Option Value}, (∀ v, (x, v) ∉ binds) → bindC kindOf binds m x = m x
  | [], _, _ => rfl
  | (n, v) :: r, m, h => by
    unfold bindC
    rw [bindC_out fun w hw => h w (List.mem_cons_of_mem _ hw)]
    split
    · rfl
    · have : x ≠ n := by rintro rfl; exact h v List.mem_cons_self
      simp [this]
theorem bindL_get {kindOf : Str → Option NameKind} {x : Str} {v : Value} : ∀ {P : List Str} {vs : List Value} {i : Nat} {m : Str → Option Value}, P.Nodup → P[i]? = some x → vs[i]? = some v → kindOf x = some .local →
    bindL kindOf (P.zip vs) m x = some v
  | [], _, _, _, _, h, _, _ => by simp at h
  | _ :: _, [], _, _, _, _, h, _ => by simp at h
  | p :: P, w :: vs, 0, m, nd, h1, h2, hk => by
    simp at h1 h2; subst h1; subst h2
    show bindL kindOf ((p, w) :: P.zip vs) m p = _
    unfold bindL
    rw [bindL_out fun v hv => (List.nodup_cons.mp nd).1 (List.of_mem_zip hv).1, if_pos hk]
    simp
  | p :: P, w :: vs, i + 1, m, nd, h1, h2, hk => by
    show bindL kindOf ((p, w) :: P.zip vs) m x = _
    unfold bindL
    exact bindL_get (i := i) (List.nodup_cons.mp nd).2 (by simpa using h1) (by simpa using h2) hk
theorem bindC_get {kindOf : Str → Option NameKind} {x : Str} {v : Value} : ∀ {P : List Str} {vs : List Value} {i : Nat} {m : Str → Option Value}, P.Nodup → P[i]? = some x → vs[i]? = some v → kindOf x ≠ some .local →
    bindC kindOf (P.zip vs) m x = some v
  | [], _, _, _, _, h, _, _ => by simp at h
  | _ :: _, [], _, _, _, _, h, _ => by simp at h
  | p :: P, w :: vs, 0, m, nd, h1, h2, hk => by
    simp at h1 h2; subst h1; subst h2
    show bindC kindOf ((p, w) :: P.zip vs) m p = _
    unfold bindC
    rw [bindC_out fun v hv => (List.nodup_cons.mp nd).1 (List.of_mem_zip hv).1, if_neg hk]
    simp
  | p :: P, w :: vs, i + 1, m, nd, h1, h2, hk => by
    show bindC kindOf ((p, w) :: P.zip vs) m x = _
    unfold bindC
    exact bindC_get (i := i) (List.nodup_cons.mp nd).2 (by simpa using h1) (by simpa using h2) hk

/-- the names' values at the entry -/
def start (N : List Str) (vs : List V) : St := vs.map some ++ List.replicate (N.length - vs.length) none

/-- the context of a def's body, at its entry; an exception leaves the frame, then lies as CX says -/
def cxOf (CX : CXT) (P : Program) (w : World) (K : PySem.W.Frag) (mg : Str → Option Value) (base : Heap) (N : List Str) (qual : Str) (scope : Scope) (f : Addr) (cd : Value) (A : Around) (outer : List Env) (s : Shared) (H : Hp) (E : XK) : Cx where
  prog := P
  w := w
  K := K
  mg := mg
  base := base
  A := A.deeper (envOfC qual scope s.heap.objs.size f cd)
  N := N
  s₀ := s
  H₀ := H
  env := envOfC qual scope s.heap.objs.size f cd
  outer := outer
  stack := envOfC qual scope s.heap.objs.size f cd :: outer
  ex := []
  calm := true
  fn := fun _ => true
  pn := []
  xe := fun e s' => wpAny (model P w) (A.deeper (envOfC qual scope s.heap.objs.size f cd)) (leaving (envOfC qual scope s.heap.objs.size f cd) e) (fun _ s'' => CX outer H s E e s'') (fun e' s'' => CX outer H s E e' s'') s'

theorem cell_has {sc : Scope} {n : Nat} {x : Str} (h : sc.names.lookup x = some .cell) : ∃ c, (cellsFrom n sc.names []).lookup x = some c := by
  have q := PySem.W.cellsFrom_some sc.names n [] (.inl h)
  exact Option.isSome_iff_exists.mp q

theorem inv_start {CX : CXT} {P : Program} {w : World} {K : PySem.W.Frag} {mg : Str → Option Value} {base : Heap} {N ps : List Str} {qual : Str} {scope : Scope} {f : Addr} {cd : Value} {A : Around} {outer : List Env} {s s1 : Shared} {H : Hp} {E : XK} {us : List Value} {vs : List V}
    (S : FnScope N ps scope) (hd : A.handled = none) (e0 : Env0 P w K mg base A outer s H) (hl : vs.length = ps.length) (r : Vals vs us)
    (x : InCallC s s.heap.objs.size (bindL (envOfC qual scope s.heap.objs.size f cd).kindOf (ps.zip us) fun _ => none) (cellsFrom (s.heap.objs.size + 1) scope.names []) (bindC (envOfC qual scope s.heap.objs.size f cd).kindOf (ps.zip us) fun _ => none) s1) :
    Inv (cxOf CX P w K mg base N qual scope f cd A outer s H E) [] (start N vs) H s1 := by
  have hpl : ps.length ≤ N.length := by have := congrArg List.length S.pre; rw [List.length_take] at this; omega
  obtain ⟨h1, tk, rfl, hk⟩ := x.done
  have noA : ∀ b : Addr, b ∉ (cxOf CX P w K mg base N qual scope f cd A outer s H E).ex := fun b z => absurd (show b ∈ ([] : List Addr) from z) (by simp)
  refine ⟨⟨e0.mod, S.kind, rfl, rfl, Nat.le_refl _, fun y z c h1 h2 => ?_, fun y hy => ?_, fun y c _ h => ?_, fun _ => hd, Around.frames_deeper e0.frames, .inr ⟨rfl, rfl⟩, fun b z => absurd z (noA b), e0.bs, e0.bsz, fun b _ _ => noA b, fun b z => absurd z (noA b), e0.funs, e0.frf⟩,
    rfl, e0.bare, Un.kept hk, ⟨_, x.toInCall.ns, fun i y v h1 h2 h3 => ?_⟩, fun y c h => ⟨_, x.cell y c h⟩, e0.hok.fresh (Nat.le_refl _), fun y c h => ?_, fun p hp => absurd (show p ∈ ([] : List (Addr × Obj)) from hp) (by simp), e0.hok.kept hk, ?_⟩
  · exact name_of_addr x.apart (PySem.mem_of_lookup h1) (PySem.mem_of_lookup h2)
  · have hy : scope.names.lookup y = some .cell ∨ scope.names.lookup y = some .free := hy
    rcases hy with hy | hy
    · exact cell_has hy
    · exact absurd rfl (S.nofree _ (PySem.mem_of_lookup hy))
  · exact Nat.le_of_lt (x.above y c (PySem.mem_of_lookup h))
  · have hi : i < vs.length := by
      unfold start at h2
      by_cases hi : i < vs.length
      · exact hi
      · rw [List.getElem?_append_right (by simpa using hi)] at h2
        rw [List.getElem?_replicate] at h2
        split at h2 <;> cases h2
    have ha : vs[i]? = some v := by
      unfold start at h2
      rw [List.getElem?_append_left (by simpa using hi), List.getElem?_map] at h2
      cases e : vs[i]? with
      | none => rw [e] at h2; cases h2
      | some a => rw [e] at h2; cases h2; rfl
    obtain ⟨u, hu, rv⟩ := r.get ha
    have hp : ps[i]? = some y := by
      rw [← S.pre, List.getElem?_take_of_lt (by omega)]; exact h1
    have ndP : ps.Nodup := by rw [← S.pre]; exact S.nd.sublist (List.take_sublist _ _)
    refine ⟨u, rv, ?_⟩
    rcases S.par y (List.mem_of_getElem? hp) with k | k
    · exact .inl ⟨k, bindL_get ndP hp hu k⟩
    · obtain ⟨c, e⟩ := cell_has (n := s.heap.objs.size + 1) k
      refine .inr ⟨.inl k, c, e, ?_⟩
      have q := x.cell y c e
      rw [bindC_get ndP hp hu (by show scope.names.lookup y ≠ _; rw [k]; decide)] at q
      exact q
  · exact e0.hok.fresh (Nat.le_of_lt (x.above y c (PySem.mem_of_lookup h)))
  · unfold start
    show _ = N.length
    rw [List.length_append, List.length_map, List.length_replicate]
    omega

/-- THE RULE: a def (or a method) of the text, by its body. The body's reading t is chosen for each entry; it is run at the parameters' values -/
theorem fn_of {CX : CXT} {P : Program} {w : World} {K : PySem.W.Frag} {mg : Str → Option Value} {base : Heap} {k : Nat} {f : Addr} {name qual : Str} {params : Arguments} {body : List Stmt} {scope : Scope} {dV kV doc pm cdv ct oc : Value} {an od : Option Addr}
    {osl : Array (Option Value)} {N ps : List Str} {sp : Sp} (lk : K.lookup f = some ⟨oc, od, .func (PySem.W.fnOf name qual params body scope dV kV doc pm an cdv ct), osl⟩) (hcd : PySem.W.codeIn K cdv qual = true) (S : FnScope N ps scope)
    (len : ∀ vs H Q E, sp vs H Q E → vs.length = ps.length)
    (hbody : ∀ (A : Around) (outer : List Env) (s : Shared) (H : Hp) (vs : List V) (Q : VK) (E : XK), Room k (A.deeper (envOfC qual scope s.heap.objs.size f cdv)) → sp vs H Q E →
      ∃ t, PSs (cxOf CX P w K mg base N qual scope f cdv A outer s H E) body t ∧ t { nx := fun _ H' => Q .non H', rt := Q } (start N vs) H) :
    FnOk P w K mg base CX (k + 1) f (PySem.W.fnOf name qual params body scope dV kV doc pm an cdv ct) ps sp := by
  refine ⟨len, fun A outer s H args us vs Q E hr e0 hb r hsp => ?_⟩
  have hl := len _ _ _ _ hsp
  have KX : K.In s.heap := e0.mod.kin.keeps fun b o e => (e0.bs b o e).1
  have lim : s.heap.NoLimit := e0.mod.nolimit.keeps fun b o e => (e0.bs b o e).1
  have hkind : ∀ y ∈ ps.zip us, scope.names.lookup y.1 = some .local ∨ (scope.names.lookup y.1 = some .cell ∧ ((cellsFrom (s.heap.objs.size + 1) scope.names []).lookup y.1).isSome = true) := fun ⟨n, v⟩ hy => by
    rcases S.par n (List.of_mem_zip hy).1 with q | q
    · exact .inl q
    · exact .inr ⟨q, PySem.W.cellsFrom_some _ _ _ (.inl q)⟩
  refine codeAny_call_function hr.depth (KX _ _ lk) rfl S.co S.gen rfl (PySem.W.codeRec_of KX hcd) (hb _ _ _ _ ?_)
  refine wpAny_newFunctionEnv_cells S.kind hkind fun env he s1 x => ?_
  subst he
  refine ⟨lim.keeps x.toInCall.keep, codeAny_func ?_⟩
  obtain ⟨t, ht, hq⟩ := hbody A outer s H vs Q E (hr.deeper _) hsp
  have I : Inv (cxOf CX P w K mg base N qual scope f cdv A outer s H E) [] (start N vs) H s1 := inv_start S hr.hd e0 hl r x
  refine wpAny_mono (ht [] s1 (start N vs) H _ I hq) (fun fl s' hs => ?_) fun e s' hs => hs
  have fin : ∀ {σ' : St} {H' : Hp} {v : V} {u : Value}, Inv (cxOf CX P w K mg base N qual scope f cdv A outer s H E) [] σ' H' s' → RelV v u → Q v H' → CE outer P w H s Q u s' :=
    fun {σ' H' v u} J rv q => ⟨v, H', J.os, J.bare, J.base, J.hok, rv, q⟩
  cases fl with
  | ret u =>
    obtain ⟨v, σ', H', J, rv, q⟩ := hs
    exact fin J rv q
  | next =>
    obtain ⟨σ', H', J, q⟩ := hs
    exact fin (v := V.non) (u := Value.none) J rfl q
  | brk =>
    obtain ⟨_, _, _, q⟩ := hs
    exact False.elim q
  | cont =>
    obtain ⟨_, _, _, q⟩ := hs
    exact False.elim q
end L2

namespace L2
open PySem PySem.Spec PyProof.Rows
section
variable {X : Cx} {x : Str} {p pos : Pos} {e : Expr} {es : List Expr} {t : TA} {id T : String} {r : List V → Hp → VK → Prop}

def tCB (r : List V → Hp → VK → Prop) (t : TA) : TE := fun σ H Q => t σ H fun vs H1 => r vs H1 Q
/-- f(e, ..), f a built-in function -/
theorem pe_callB (hc : CallR X (.builtin id) r) (hg : Gl X x) (hm : X.mg x = none) (hv : bootBuiltins x = some (.builtin id)) (ha : PA X (e :: es) t) (hn : x ≠ "__name__" := by decide) (hdb : (x == ("__debug__" : Str)) = false := by decide)
    (he : starEach (e :: es) X.env = (false, eval e X.env) :: starEach es X.env := by rfl) (hpl : (backTo pos (starEach es X.env)).any (·.1) = false := by rfl) : PE X (.Call (.Name x p) (e :: es) [] pos) (tCB r t) := by
  intro pins s σ H Q I h
  refine wpAny_Call_Name_kw (ld_blt I hg hm hv ?_ hn hdb)
  exact PyProof.Rows.callWith_builtin1 (thn (ha pos pins s σ H _ I h) fun us s1 ⟨vs, H1, I1, r1, q1⟩ => hc pins s1 σ H1 vs us Q I1 r1 q1) he hpl
/-- T(e, ..), T a built-in type -/
theorem pe_callTy (hc : CallR X (.type T) r) (hg : Gl X x) (hm : X.mg x = none) (hv : bootBuiltins x = some (.type T)) (ha : PA X (e :: es) t) (hn : x ≠ "__name__" := by decide) (hdb : (x == ("__debug__" : Str)) = false := by decide)
    (he : starEach (e :: es) X.env = (false, eval e X.env) :: starEach es X.env := by rfl) (hpl : (backTo pos (starEach es X.env)).any (·.1) = false := by rfl) : PE X (.Call (.Name x p) (e :: es) [] pos) (tCB r t) := by
  intro pins s σ H Q I h
  refine wpAny_Call_Name_kw (ld_blt I hg hm hv ?_ hn hdb)
  exact PyProof.Rows.callWith_type1 (thn (ha pos pins s σ H _ I h) fun us s1 ⟨vs, H1, I1, r1, q1⟩ => hc pins s1 σ H1 vs us Q I1 r1 q1) he hpl
end
end L2

namespace HT
open PySem PyProof.Rows

/-- t < u of tuples of ints -/
def lexLt : List Int → List Int → Bool
  | [], [] => false
  | [], _ :: _ => true
  | _ :: _, [] => false
  | x :: xs, y :: ys => if x = y then lexLt xs ys else decide (x < y)
section
open PySem.SeqAt
open PySem.AutoSeq1 (wpAny_loadPart')
open PySem.MeetsSeq PySem.MeetsSeq2 PySem.MeetsSeq3

end

section
variable {prog : Program} {w : World} {A : Around} {E : Value → Shared → Prop} {s : Shared}

/-! ### t[a:b], not the whole -/
/-- a slice's bound as a place among n (d where it is left out) -/
def sIx (n d : Nat) : Option Int → Nat
  | none => d
  | some v => if v < 0 then (v + (n : Int)).toNat else min v.toNat n
theorem sIx_nat (n d k : Nat) : sIx n d (some (k : Int)) = min k n := by
  show (if (k : Int) < 0 then ((k : Int) + (n : Int)).toNat else min (k : Int).toNat n) = min k n
  rw [if_neg (by omega), Int.toNat_natCast]
end
end HT

namespace L2
open PySem PySem.Spec PyProof.Rows

/-! ### the parts of a slice -/
abbrev TO := St → Hp → (Option Int → Hp → Prop) → Prop
/-- a slice's part (left out, or an int) -/
def PO (X : Cx) (e : Option Expr) (t : TO) : Prop :=
  ∀ (pins : List (Addr × Obj)) (s : Shared) (σ : St) (H : Hp) (Q : Option Int → Hp → Prop), Inv X pins σ H s → t σ H Q →
    wpAny (model X.prog X.w) X.A (evalPart e X.env) (fun u s' => ∃ o H', Inv X pins σ H' s' ∧ IsPart u o ∧ Q o H') X.xe s
def tNoPart : TO := fun _ H Q => Q none H
def tPart (t : TE) : TO := fun σ H Q => t σ H fun x H1 => ∃ i, x = .int i ∧ Q (some i) H1

theorem intsAre_of {ns : List Int} : ∀ {us : List Value}, Vals (ns.map V.int) us → IntsAre us ns := by
  induction ns with
  | nil => intro us r; rw [List.map_nil] at r; cases r; exact .nil
  | cons n ns ih =>
    intro us r
    rw [List.map_cons] at r
    cases r with
    | cons r1 r2 =>
      obtain ⟨t, e⟩ := r1
      subst e
      exact .cons n t (ih r2)

section
variable {X : Cx} {e : Expr} {te : TE} {lo hi : Option Expr} {tl th : TO} {pos p2 : Pos}

theorem po_none : PO X none tNoPart := by
  intro pins s σ H Q I h
  rw [evalPart_none]
  exact wpAny_pure ⟨none, H, I, .none, h⟩
theorem po_some (h : PE X e te) : PO X (some e) (tPart te) := by
  intro pins s σ H Q I hw
  rw [evalPart_some]
  refine thn (h pins s σ H _ I hw) fun u s1 ⟨x, H1, I1, r1, q1⟩ => ?_
  obtain ⟨i, rfl, q⟩ := q1
  obtain ⟨t, rfl⟩ := r1
  exact ⟨some i, H1, I1, .int i t, q⟩

/-- what a slice of a value is, by values: the slice object stands at sl -/
def SlR (X : Cx) (r : V → Option Int → Option Int → Hp → VK → Prop) : Prop :=
  ∀ (pins : List (Addr × Obj)) (s : Shared) (σ : St) (H : Hp) (x : V) (v vl vu : Value) (lo hi : Option Int) (sl : Addr) (Q : VK), Inv X pins σ H s → RelV x v → s.heap.IsSliceOf sl vl vu .none → IsPart vl lo → IsPart vu hi → r x lo hi H Q →
    ∃ T id, typeLookup (.type T) "__getitem__" = pure (some (.builtin id)) ∧ s.TypeIs v T ∧ wpAny (model X.prog X.w) X.A (getItem v (.ref sl)) (EP X pins σ Q) X.xe s
def tSl (r : V → Option Int → Option Int → Hp → VK → Prop) (te : TE) (tl th : TO) : TE := fun σ H Q => te σ H fun x H1 => tl σ H1 fun l H2 => th σ H2 fun u H3 => r x l u H3 Q
/-- a[lo:hi], any a -/
theorem pe_slice {r : V → Option Int → Option Int → Hp → VK → Prop} (hr : SlR X r) (he : PE X e te) (hl : PO X lo tl) (hu : PO X hi th) : PE X (.Subscript e (.Slice lo hi none p2) pos) (tSl r te tl th) := by
  intro pins s σ H Q I h
  refine Subscript_ (thn (he pins s σ H _ I h) fun v s1 ⟨x, H1, I1, r1, q1⟩ => ?_)
  refine wpAny_Slice (thn (hl pins s1 σ H1 _ I1 q1) fun vl s2 ⟨l, H2, I2, pl, q2⟩ => thn (hu pins s2 σ H2 _ I2 q2) fun vu s3 ⟨u, H3, I3, pu, q3⟩ => ?_)
  rw [evalPart_none]
  refine wpAny_pure ?_
  have I4 : Inv X pins σ H3 { s3 with heap := s3.heap.push { cls := .type "slice", data := .fields #[vl, vu, .none] } } := I3.kept (t' := s3.toks) fun b ob q => Heap.get?_push_of_some _ q
  obtain ⟨T, id, hT, ht, hg⟩ := hr pins { s3 with heap := s3.heap.push { cls := .type "slice", data := .fields #[vl, vu, .none] } } σ H3 x v vl vu l u s3.heap.objs.size Q I4 r1 (Heap.IsSliceOf.new ..) pl pu q3
  show wpAny (model X.prog X.w) X.A (subscriptTail e (.Slice lo hi none p2) v (.ref s3.heap.objs.size)) (EP X pins σ Q) X.xe { s3 with heap := s3.heap.push { cls := .type "slice", data := .fields #[vl, vu, .none] } }
  exact tail_any (ops := [.ref s3.heap.objs.size, v]) ht hT hg (by with_unfolding_all rfl)

/-- the items of xs[lo:hi] -/
def cutV (xs : List V) (lo hi : Option Int) : List V := (xs.drop (HT.sIx xs.length 0 lo)).take (HT.sIx xs.length xs.length hi - HT.sIx xs.length 0 lo)
theorem cutV_length (xs : List V) (lo hi : Option Int) : (cutV xs lo hi).length ≤ xs.length := by
  unfold cutV
  rw [List.length_take, List.length_drop]
  omega
/-- t[lo:hi], not the whole of it (the whole would be t itself) -/
def rSlT (K : PySem.W.Frag) : V → Option Int → Option Int → Hp → VK → Prop := fun x lo hi H Q => ∃ a xs, x = .ref a ∧ SqT K H a xs ∧
  ¬ (HT.sIx xs.length 0 lo = 0 ∧ HT.sIx xs.length xs.length hi = xs.length) ∧ ∀ p, H p = none → Q (.ref p) (upd H p (.tup (cutV xs lo hi)))
/-! ### t < u, t + u -/
def rLtT (K : PySem.W.Frag) : R2 := fun x y H Q => ∃ a b ns ms, x = .ref a ∧ y = .ref b ∧ SqT K H a (ns.map V.int) ∧ SqT K H b (ms.map V.int) ∧ Q (.bl (HT.lexLt ns ms)) H
/-- t + u, t not empty: u empty gives t itself -/
def rCatT (K : PySem.W.Frag) : R2 := fun x y H Q => ∃ a b xs ys, x = .ref a ∧ y = .ref b ∧ SqT K H a xs ∧ SqT K H b ys ∧ xs ≠ [] ∧ xs.length + ys.length ≤ sizeLine ∧
  (ys = [] → Q (.ref a) H) ∧ (ys ≠ [] → ∀ p, H p = none → Q (.ref p) (upd H p (.tup (xs ++ ys))))
end
end L2

namespace L2
open PySem PySem.Spec PyProof.Rows

/-! ### places -/
/-- the place that an index of any sign means -/
def ixN (n : Nat) (i : Int) : Option Nat := if 0 ≤ i then (if i < n then some i.toNat else none) else if -(n : Int) ≤ i then some (i + n).toNat else none
def atI {α : Type} (xs : List α) (i : Int) : Option α := (ixN xs.length i).bind fun j => xs[j]?
theorem ixN_seq {n : Nat} {i : Int} {j : Nat} (h : ixN n i = some j) : seqIndex? i n = some j ∧ j < n ∧ -(n : Int) ≤ i ∧ i < n := by
  unfold ixN at h
  by_cases h0 : 0 ≤ i
  · rw [if_pos h0] at h
    by_cases h1 : i < n
    · rw [if_pos h1] at h
      have e : i.toNat = j := Option.some.inj h
      exact ⟨by rw [seqIndex_of h0 h1, e], by omega, by omega, h1⟩
    · rw [if_neg h1] at h; cases h
  · rw [if_neg h0] at h
    by_cases h1 : -(n : Int) ≤ i
    · rw [if_pos h1] at h
      have e : (i + n).toNat = j := Option.some.inj h
      exact ⟨by rw [seqIndex_neg (by omega) h1, e], by omega, h1, by omega⟩
    · rw [if_neg h1] at h; cases h
theorem atI_get {α : Type} {xs : List α} {i : Int} {v : α} (h : atI xs i = some v) : ∃ j, seqIndex? i xs.length = some j ∧ xs[j]? = some v ∧ j < xs.length ∧ -(xs.length : Int) ≤ i ∧ i < xs.length := by
  unfold atI at h
  cases e : ixN xs.length i with
  | none => rw [e] at h; cases h
  | some j =>
    rw [e] at h
    obtain ⟨h1, h2, h3, h4⟩ := ixN_seq e
    exact ⟨j, h1, h, h2, h3, h4⟩
theorem atI_nat {α : Type} {xs : List α} {j : Nat} {v : α} (h : xs[j]? = some v) : atI xs (j : Int) = some v := by
  have hj : j < xs.length := (List.getElem?_eq_some_iff.mp h).1
  have e : ixN xs.length (j : Int) = some j := by
    unfold ixN
    rw [if_pos (by omega), if_pos (by omega)]; simp
  unfold atI; rw [e]; exact h
/-! ### what may be subscripted -/
/-- what stands as an index of a plain subscript -/
def PlainIx (b : Expr) : Prop := ∀ o i, subscripted b false o i = operate [o, i] (getItem o i)
/-- a subscript by values -/
def IxR (X : Cx) (r : R2) : Prop :=
  ∀ (value slice : Expr) (pins : List (Addr × Obj)) (s : Shared) (σ : St) (H : Hp) (x y : V) (v u : Value) (Q : VK), Inv X pins σ H s → RelV x v → RelV y u → r x y H Q →
    subscripted slice false v u = operate [v, u] (getItem v u) → wpAny (model X.prog X.w) X.A (subscriptTail value slice v u) (EP X pins σ Q) X.xe s
/-- a call of a builtin's method by values: the receiver, the arguments -/
def MtR (X : Cx) (id : String) (r : V → List V → Hp → VK → Prop) : Prop :=
  ∀ (pins : List (Addr × Obj)) (s : Shared) (σ : St) (H : Hp) (x : V) (xs : List V) (v : Value) (us : List Value) (Q : VK), Inv X pins σ H s → RelV x v → Vals xs us → r x xs H Q →
    wpAny (model X.prog X.w) X.A (call (.builtin id) (v :: us)) (EP X pins σ Q) X.xe s
section
variable {X : Cx} {a b : Expr} {ta tb : TE} {pos : Pos}
/-- a[b] -/
theorem pe_ix {r : R2} (hr : IxR X r) (ha : PE X a ta) (hb : PE X b tb) (hs : PlainIx b) : PE X (.Subscript a b pos) (tOp r ta tb) := by
  intro pins s σ H Q I h
  exact Subscript_ (binT ha hb I h fun v u s2 x y H2 I2 rx ry q => hr a b pins s2 σ H2 x y v u Q I2 rx ry q (hs _ _))

def rIxL (K : PySem.W.Frag) : R2 := fun x y H Q => ∃ p xs i v, x = .ref p ∧ y = .int i ∧ SqL K H p xs ∧ atI xs i = some v ∧ Q v H
def rIxT (K : PySem.W.Frag) : R2 := fun x y H Q => ∃ p xs i v, x = .ref p ∧ y = .int i ∧ SqT K H p xs ∧ atI xs i = some v ∧ Q v H
def rIxS : R2 := fun x y H Q => ∃ z i c, x = .str z ∧ y = .int i ∧ z.length ≤ sizeLine ∧ atI z.cps.toList i = some c ∧ Q (.str ⟨#[c]⟩) H
theorem ix_list : IxR X (rIxL X.K) := by
  intro value slice pins s σ H x y v u Q I rx ry h hs
  obtain ⟨p, xs, i, z, rfl, rfl, hq, he, q⟩ := h
  cases rx
  obtain ⟨t, rfl⟩ := ry
  obtain ⟨its, r, pl, hz⟩ := I.list hq
  obtain ⟨j, h1, h2, h3, h4, h5⟩ := atI_get he
  obtain ⟨w, ew, rw'⟩ := r.get h2
  have hl := r.length
  have hn := line63
  have fin : EP X pins σ Q w s := ⟨z, H, I, rw', q⟩
  by_cases h0 : 0 ≤ i
  · have hj : i.toNat = j := by
      rw [seqIndex_of h0 h5] at h1
      exact Option.some.inj h1
    exact item_listR pl.isList h0 (by omega) (by rw [hj]; simpa using ew) fin hs
  · have hj : (i + (its.toArray.size : Int)).toNat = j := by
      rw [seqIndex_neg (by omega) h4] at h1
      rw [List.size_toArray, ← hl]
      exact Option.some.inj h1
    exact subscriptTail_builtinR (x := w) pl.isList.typeIs slot_list_getitem.lookup
      (wpAny_getItem_list_neg (Q := fun r s' => r = w ∧ EP X pins σ Q r s') pl.isList (by omega) (by rw [List.size_toArray] <;> omega) (by omega) (by rw [hj]; simpa using ew) ⟨rfl, fin⟩) hs
theorem ix_tup : IxR X (rIxT X.K) := by
  intro value slice pins s σ H x y v u Q I rx ry h hs
  obtain ⟨p, xs, i, z, rfl, rfl, hq, he, q⟩ := h
  cases rx
  obtain ⟨t, rfl⟩ := ry
  obtain ⟨its, r, pl, hz⟩ := I.tuple hq
  obtain ⟨j, h1, h2, h3, h4, h5⟩ := atI_get he
  obtain ⟨w, ew, rw'⟩ := r.get h2
  have hl := r.length
  have hn := line63
  have fin : EP X pins σ Q w s := ⟨z, H, I, rw', q⟩
  exact subscriptTail_builtinR (x := w) pl.typeIs slot_tuple_getitem.lookup
    (getItem_tuple (j := j) (Q := fun r s' => r = w ∧ EP X pins σ Q r s') pl (by omega) (by omega) (by rw [List.size_toArray, ← hl]; exact h1) (by simpa using ew) ⟨rfl, fin⟩) hs
/-- list, tuple or str -/
def rIx (K : PySem.W.Frag) : R2 := fun x y H Q => rIxL K x y H Q ∨ rIxT K x y H Q ∨ rIxS x y H Q
/-! ### xs[i] = v, any sign -/
def rSetL : V → V → V → Hp → (Hp → Prop) → Prop := fun o i v H Q => ∃ p xs k j, o = .ref p ∧ i = .int k ∧ H p = some (.lst xs) ∧ ixN xs.length k = some j ∧ Q (upd H p (.lst (xs.set j v)))
/-! ### slices -/
theorem slice_bounds (lo hi : Option Int) (n : Nat) : (sliceBounds lo hi none n).1 = ((HT.sIx n 0 lo : Nat) : Int) ∧ (sliceBounds lo hi none n).2.1 = ((HT.sIx n n hi : Nat) : Int) ∧ (sliceBounds lo hi none n).2.2 = 1 := by
  refine ⟨?_, ?_, rfl⟩
  · cases lo with
    | none => simp [sliceBounds, HT.sIx]
    | some i =>
      simp only [sliceBounds, HT.sIx, Option.getD_none, show (1 : Int) > 0 by decide, if_true]
      by_cases h : i < 0
      · simp only [h, if_true] <;> omega
      · simp only [h, if_false] <;> omega
  · cases hi with
    | none => simp [sliceBounds, HT.sIx]
    | some i =>
      simp only [sliceBounds, HT.sIx, Option.getD_none, show (1 : Int) > 0 by decide, if_true]
      by_cases h : i < 0
      · simp only [h, if_true] <;> omega
      · simp only [h, if_false] <;> omega
theorem slicePick_cut (its : List Value) (lo hi : Option Int) : slicePick its.toArray lo hi none = ((its.drop (HT.sIx its.length 0 lo)).take (HT.sIx its.length its.length hi - HT.sIx its.length 0 lo)).toArray := by
  obtain ⟨h1, h2, h3⟩ := slice_bounds lo hi its.toArray.size
  unfold slicePick
  rw [h1, h2, h3]
  simp only [sliceRange_one, pick_run, List.size_toArray] <;> rfl
/-- xs[lo:hi] of a list: a new list -/
def rSlL (K : PySem.W.Frag) : V → Option Int → Option Int → Hp → VK → Prop := fun x lo hi H Q => ∃ a xs, x = .ref a ∧ SqL K H a xs ∧ ∀ p, H p = none → Q (.ref p) (upd H p (.lst (cutV xs lo hi)))
theorem sl_list : SlR X (rSlL X.K) := by
  intro pins s σ H x v vl vu lo hi sl Q I rx hs pl pu h
  obtain ⟨a, xs, rfl, hx, q⟩ := h
  cases rx
  obtain ⟨its, r, ht, hz⟩ := I.list hx
  have hlen := r.length
  refine ⟨"list", _, slot_list_getitem.lookup, ht.isList.typeIs, ?_⟩
  refine wpAny_getItem_list_slice ht.isList hs pl pu .none (by simp) ?_ (by rw [List.size_toArray] <;> omega)
  rw [slicePick_cut, ← hlen]
  refine ⟨.ref s.heap.objs.size, _, I.laid (t' := s.toks) (o := .lst (cutV xs lo hi)) (fun b ob q => Heap.get?_push_of_some _ q) (Nat.le_refl _) ?_, rfl, q _ (I.hok.fresh (Nat.le_refl _))⟩
  exact ⟨Nat.le_trans (cutV_length xs lo hi) hz, _, 0, (r.drop (HT.sIx xs.length 0 lo)).take (HT.sIx xs.length xs.length hi - HT.sIx xs.length 0 lo), Heap.get?_push_size _ rfl⟩

/-! ### in, not in: flat items -/
def flatV : V → Bool
  | .non => true
  | .bl _ => true
  | .int _ => true
  | .str _ => true
  | _ => false
/-- == of flat values -/
def eqV : V → V → Bool
  | .non, .non => true
  | .bl a, .bl b => a == b
  | .bl a, .int b => (if a then 1 else 0) == b
  | .int a, .bl b => a == (if b then 1 else 0)
  | .int a, .int b => a == b
  | .str a, .str b => a == b
  | _, _ => false
theorem eqAt_V {A : Around} {s : Shared} {y x : V} {u v : Value} (ry : RelV y u) (rx : RelV x v) (fy : flatV y = true) (fx : flatV x = true) : SeqAt.EqAt A s u v (eqV y x) := by
  cases y with
  | non =>
    cases ry
    cases x with
    | non => cases rx; exact SeqAt.EqAt.same _
    | bl b => cases rx; exact SeqAt.EqAt.none_bool b
    | int b => obtain ⟨t, rfl⟩ := rx; exact SeqAt.EqAt.none_int b t
    | str b => obtain ⟨t, rfl⟩ := rx; exact SeqAt.EqAt.none_str b t
    | _ => exact absurd (show false = true from fx) Bool.false_ne_true
  | bl a =>
    cases ry
    cases x with
    | non => cases rx; exact SeqAt.EqAt.bool_none a
    | bl b => cases rx; exact SeqAt.EqAt.bool_bool a b
    | int b => obtain ⟨t, rfl⟩ := rx; exact SeqAt.EqAt.bool_int a b t
    | str b => obtain ⟨t, rfl⟩ := rx; exact SeqAt.EqAt.bool_str a b t
    | _ => exact absurd (show false = true from fx) Bool.false_ne_true
  | int a =>
    obtain ⟨t', rfl⟩ := ry
    cases x with
    | non => cases rx; exact SeqAt.EqAt.int_none a t'
    | bl b => cases rx; exact SeqAt.EqAt.int_bool a t' b
    | int b => obtain ⟨t, rfl⟩ := rx; exact SeqAt.EqAt.int_int a t' b t
    | str b => obtain ⟨t, rfl⟩ := rx; exact SeqAt.EqAt.int_str a t' b t
    | _ => exact absurd (show false = true from fx) Bool.false_ne_true
  | str a =>
    obtain ⟨t', rfl⟩ := ry
    cases x with
    | non => cases rx; exact SeqAt.EqAt.str_none a t'
    | bl b => cases rx; exact SeqAt.EqAt.str_bool a t' b
    | int b => obtain ⟨t, rfl⟩ := rx; exact SeqAt.EqAt.str_int a t' b t
    | str b => obtain ⟨t, rfl⟩ := rx; exact SeqAt.EqAt.str_str a t' b t
    | _ => exact absurd (show false = true from fx) Bool.false_ne_true
  | _ => exact absurd (show false = true from fy) Bool.false_ne_true
/-- the items' answers, read off the values (a value's own answer does not lean on its token) -/
def eqU (x : V) (u : Value) : Bool := match u with
  | .none => eqV .non x
  | .bool b => eqV (.bl b) x
  | .int i _ => eqV (.int i) x
  | .str z _ => eqV (.str z) x
  | _ => false
theorem eqU_of {x y : V} {u : Value} (r : RelV y u) (f : flatV y = true) : eqU x u = eqV y x := by
  cases y with
  | non => cases r; rfl
  | bl b => cases r; rfl
  | int i => obtain ⟨t, rfl⟩ := r; rfl
  | str z => obtain ⟨t, rfl⟩ := r; rfl
  | _ => exact absurd (show false = true from f) Bool.false_ne_true
theorem any_eqU {x : V} : ∀ {xs : List V} {us : List Value}, Vals xs us → xs.all flatV = true → us.any (eqU x) = xs.any fun y => eqV y x
  | _, _, .nil, _ => rfl
  | y :: xs, u :: us, .cons r t, f => by
    rw [List.all_cons, Bool.and_eq_true] at f
    rw [List.any_cons, List.any_cons, eqU_of r f.1, any_eqU t f.2]
theorem mem_eqAt {A : Around} {s : Shared} {x : V} {v : Value} (rx : RelV x v) (fx : flatV x = true) : ∀ {xs : List V} {us : List Value}, Vals xs us → xs.all flatV = true → ∀ u ∈ us, SeqAt.EqAt A s u v (eqU x u)
  | _, _, .nil, _ => fun u hu => by cases hu
  | y :: xs, u :: us, .cons r t, f => fun u' hu => by
    rw [List.all_cons, Bool.and_eq_true] at f
    rcases List.mem_cons.mp hu with rfl | hu
    · rw [eqU_of r f.1]; exact eqAt_V r rx f.1 fx
    · exact mem_eqAt rx fx t f.2 u' hu
def inV (x : V) (xs : List V) : Bool := xs.any fun y => eqV y x
/-- x in a list or tuple of flat items -/
def rIn (K : PySem.W.Frag) (neg : Bool) : R2 := fun x y H Q => ∃ p xs, y = .ref p ∧ (SqL K H p xs ∨ SqT K H p xs) ∧ flatV x = true ∧ xs.all flatV = true ∧ Q (.bl (if neg then !inV x xs else inV x xs)) H
theorem op_in_seq : OpR X (compareOp .In) (rIn X.K false) := by
  intro pins s σ H x y v u Q I rx ry h
  obtain ⟨p, xs, rfl, hq, fx, fs, q⟩ := h
  cases ry
  rcases hq with hq | hq
  · obtain ⟨its, r, pl, hz⟩ := I.list hq
    refine SeqAt.in_listAt (eqU x) pl.isList (fun w hw => mem_eqAt rx fx r fs w (by simpa using hw)) ⟨.bl _, H, I, rfl, ?_⟩
    rw [show its.toArray.any (eqU x) = its.any (eqU x) by simp, any_eqU r fs]
    exact q
  · obtain ⟨its, r, pl, hz⟩ := I.tuple hq
    refine SeqAt.in_tupleAt (eqU x) pl (fun w hw => mem_eqAt rx fx r fs w (by simpa using hw)) ⟨.bl _, H, I, rfl, ?_⟩
    rw [show its.toArray.any (eqU x) = its.any (eqU x) by simp, any_eqU r fs]
    exact q
/-! ### len, list(x), tuple(x) of any list or tuple that is read -/
theorem call_len_seq : CallR X (.builtin "len") (fun xs H Q => ∃ p ys, xs = [.ref p] ∧ (SqL X.K H p ys ∨ SqT X.K H p ys) ∧ Q (.int ys.length) H) := by
  intro pins s σ H xs us Q I r h
  obtain ⟨p, ys, rfl, hq, q⟩ := h
  obtain ⟨u, rfl, rx⟩ := vals1 r
  cases rx
  have hn := line63
  rcases hq with hq | hq
  · obtain ⟨its, r', pl, hz⟩ := I.list hq
    have hlen := r'.length
    exact Calls.call_len_list pl.isList (by simp only [List.size_toArray] <;> omega) ⟨.int ys.length, H, I.tok _, ⟨s.toks + 1, by rw [List.size_toArray, hlen]⟩, q⟩
  · obtain ⟨its, r', pl, hz⟩ := I.tuple hq
    have hlen := r'.length
    exact len_tuple pl (by simp only [List.size_toArray] <;> omega) ⟨.int ys.length, H, I.tok _, ⟨s.toks + 1, by rw [List.size_toArray, hlen]⟩, q⟩
theorem call_list_of : CallR X (.type "list") (fun xs H Q => ∃ p ys, xs = [.ref p] ∧ (SqL X.K H p ys ∨ SqT X.K H p ys) ∧ ∀ l, H l = none → Q (.ref l) (upd H l (.lst ys))) := by
  intro pins s σ H xs us Q I r h
  obtain ⟨p, ys, rfl, hq, q⟩ := h
  obtain ⟨u, rfl, rx⟩ := vals1 r
  cases rx
  have fin : ∀ (its : List Value), Vals ys its → ys.length ≤ sizeLine → ∀ (h' : Heap) (c' : Nat), (∀ b o', s.heap.get? b = some o' → h'.get? b = some o') →
      h'.get? s.heap.objs.size = some { cls := .type "list", dict := none, data := .seq its.toArray c', slots := #[] } → EP X pins σ Q (.ref s.heap.objs.size) { s with heap := h' } := fun its r' hz h' c' kp e =>
    ⟨.ref s.heap.objs.size, _, I.laid (t' := s.toks) kp (Nat.le_refl _) (show ObjOk X.prog X.w _ h' _ (.lst ys) from ⟨hz, its, c', r', e⟩), rfl, q _ (I.hok.fresh (Nat.le_refl _))⟩
  rcases hq with hq | hq
  · obtain ⟨its, r', pl, hz⟩ := I.list hq
    have hlen := r'.length
    obtain ⟨o, ho, hc, n, hd⟩ := pl.isList
    exact call_list_seq p (.inl rfl) ho hc hd (fun h' c' kp e => fin its r' hz h' c' kp e) (by simp only [List.size_toArray] <;> omega)
  · obtain ⟨its, r', pl, hz⟩ := I.tuple hq
    have hlen := r'.length
    obtain ⟨o, ho, hc, n, hd⟩ := pl
    exact call_list_seq p (.inr rfl) ho hc hd (fun h' c' kp e => fin its r' hz h' c' kp e) (by simp only [List.size_toArray] <;> omega)
/-! ### the call of a builtin's method: o.m(..) -/
/-- the value is of that builtin type -/
def tyV (K : PySem.W.Frag) (T : String) (x : V) (H : Hp) : Prop := match x with
  | .str _ => T = "str"
  | .int _ => T = "int"
  | .ref p => (T = "list" ∧ ∃ xs, SqL K H p xs) ∨ (T = "tuple" ∧ ∃ o, K.lookup p = some o ∧ o.cls = .type "tuple" ∧ o.dict = none) ∨
      (T = "dict" ∧ ((∃ kvs, H p = some (.dK kvs)) ∨ ∃ kvs, H p = some (.dT kvs))) ∨ (T = "set" ∧ ∃ S n, H p = some (.set S n))
  | _ => False
theorem tyV_is {pins : List (Addr × Obj)} {σ : St} {H : Hp} {s : Shared} {T : String} {x : V} {v : Value} (I : Inv X pins σ H s) (r : RelV x v) (ty : tyV X.K T x H) :
    s.TypeIs v T ∧ ∀ a, v = .ref a → ∃ ob, s.heap.get? a = some ob ∧ ob.dict = none := by
  cases x with
  | str z =>
    obtain ⟨t, rfl⟩ := r
    cases (show T = "str" from ty)
    exact ⟨typeIs_str s z t, fun _ e => nomatch e⟩
  | int i =>
    obtain ⟨t, rfl⟩ := r
    cases (show T = "int" from ty)
    exact ⟨typeIs_int s i t, fun _ e => nomatch e⟩
  | ref p =>
    cases r
    rcases ty with ⟨rfl, xs, hq⟩ | ⟨rfl, o, hk, hc, hd⟩ | ⟨rfl, hk⟩ | ⟨rfl, S, n, hk⟩
    · obtain ⟨its, _, pl, _⟩ := I.list hq
      refine ⟨pl.isList.typeIs, fun a e => ?_⟩
      cases e
      obtain ⟨o, n, e, c, hd, _⟩ := pl
      exact ⟨o, e, hd⟩
    · refine ⟨⟨o, I.kIn p o hk, hc⟩, fun a e => ?_⟩
      cases e
      exact ⟨o, I.kIn _ o hk, hd⟩
    · have z : ∃ o, s.heap.get? p = some o ∧ o.ExactDict := by
        rcases hk with ⟨kvs, hk⟩ | ⟨kvs, hk⟩
        · obtain ⟨_, _, _, _, o, _, _, e, ex, _⟩ := I.hok p _ hk
          exact ⟨o, e, ex⟩
        · obtain ⟨_, _, _, _, o, _, _, e, ex, _⟩ := I.hok p _ hk
          exact ⟨o, e, ex⟩
      obtain ⟨o, e, ex⟩ := z
      refine ⟨⟨o, e, ex.1⟩, fun a e2 => ?_⟩
      cases e2
      exact ⟨o, e, ex.2.1⟩
    · obtain ⟨o, _, _, _, e, ex, _⟩ := I.hok p _ hk
      refine ⟨⟨o, e, ex.1⟩, fun a e2 => ?_⟩
      cases e2
      exact ⟨o, e, ex.2.1⟩
  | _ => exact False.elim ty
def tBM0 (K : PySem.W.Frag) (T : String) (r : V → List V → Hp → VK → Prop) (to : TE) : TE := fun σ H Q => to σ H fun x H1 => tyV K T x H1 ∧ r x [] H1 Q
def tBM (K : PySem.W.Frag) (T : String) (r : V → List V → Hp → VK → Prop) (to : TE) (t : TA) : TE := fun σ H Q => to σ H fun x H1 => tyV K T x H1 ∧ t σ H1 fun xs H2 => r x xs H2 Q
variable {o e : Expr} {es : List Expr} {to : TE} {t : TA} {name : Str} {apos cpos : Pos} {T id : String} {r : V → List V → Hp → VK → Prop}
theorem pe_bm (pa : PlainAttrs T) (slot : Slot T name id) (hty : typeOf (.builtin id) = pure (.type "method_descriptor")) (hm : MtR X id r) (ho : PE X o to) (ha : PA X (e :: es) t)
    (hbase : attributeBase o name X.env (eval o X.env) = eval o X.env := by rfl)
    (hfew : ((backTo cpos (starEach (e :: es) X.env)).all (fun x => !x.1) && (backToKw cpos (keywordEach [] X.env)).all (fun x => x.1.isSome)
      && decide ((e :: es).length + ([] : List Keyword).length + (if ([] : List Keyword).isEmpty then 0 else 1) < 30)) = true := by rfl)
    (hline : (apos.endLine == cpos.line) = true := by rfl) (hs : starEach (e :: es) X.env = (false, eval e X.env) :: starEach es X.env := by rfl) (hplain : (backTo cpos (starEach es X.env)).any (·.1) = false := by rfl) :
    PE X (.Call (.Attribute o name apos) (e :: es) [] cpos) (tBM X.K T r to t) := by
  intro pins s σ H Q I h
  refine wpAny_Call_method_late hbase hfew hline rfl (thn (ho pins s σ H _ I h) fun v s1 ⟨x, H1, I1, r1, ty, q1⟩ => ?_)
  obtain ⟨h1, h2⟩ := tyV_is I1 r1 ty
  refine ⟨T, id, pa, slot, hty, h1, h2, ?_⟩
  have hA := ha cpos pins s1 σ H1 _ I1 q1
  rw [hs] at hA ⊢
  refine Calls.callWith_builtin (by show (false || (backTo cpos (starEach es X.env)).any (·.1)) = false; rw [hplain] <;> rfl) (Calls.evalArgs_plain ?_)
  exact thn hA fun us s2 ⟨vs, H2, I2, r2, q2⟩ => hm pins s2 σ H2 x vs v us Q I2 r1 r2 q2
/- xs.append(e), list.index on a module's tuple .. are MtR facts of 06m -/
end
end L2

namespace L2
open PySem PySem.Spec PyProof.Rows

def MtM (X : Cx) (id : String) (r : V → List V → Hp → VK → Prop) : Prop :=
  ∀ (pins : List (Addr × Obj)) (s : Shared) (σ : St) (H : Hp) (x : V) (xs : List V) (v : Value) (us : List Value) (Q : VK), Inv X pins σ H s → RelV x v → Vals xs us → r x xs H Q →
    wpAny (model X.prog X.w) X.A (call (.builtin id) (v :: us)) (EP X pins σ Q) X.xe s

/-! ### lists of values -/
theorem Vals.one : ∀ {x : V} {us : List Value}, Vals [x] us → ∃ u, us = [u] ∧ RelV x u
  | _, _, .cons r .nil => ⟨_, rfl, r⟩
theorem Vals.two : ∀ {x y : V} {us : List Value}, Vals [x, y] us → ∃ u v, us = [u, v] ∧ RelV x u ∧ RelV y v
  | _, _, _, .cons r (.cons q .nil) => ⟨_, _, rfl, r, q⟩
theorem Vals.reverse {xs : List V} {us : List Value} (h : Vals xs us) : Vals xs.reverse us.reverse := by
  induction h with
  | nil => exact .nil
  | cons r t ih => rw [List.reverse_cons, List.reverse_cons]; exact Vals.append ih (.cons r .nil)
section
variable {X : Cx} {pins : List (Addr × Obj)} {σ : St} {H : Hp} {s : Shared} {l b : Addr} {xs ys zs : List V}

/-! ### the two steps: a tracked list is rewritten, a new list is laid -/
theorem Inv.lset {its its' : List Value} {n : Nat} {f : Array Value → Array Value} {t' : Nat} (I : Inv X pins σ H s) (hH : H l = some (.lst xs))
    (e : s.heap.get? l = some { cls := .type "list", data := .seq its.toArray n }) (hf : f its.toArray = its'.toArray) (hv : Vals ys its') (hz : ys.length ≤ sizeLine) :
    Inv X pins σ (upd H l (.lst ys)) { s with heap := s.heap.update l (Obj.mapSeq f), toks := t' } := by
  have q := PySem.IsL.update e f
  rw [hf] at q
  refine I.write (x := l) (e := l) (by rw [hH]; exact trivial) (.inl rfl) (fun b' u hb hu => (Heap.get?_update_other s.heap (Obj.mapSeq f) (Ne.symm hb)).trans hu) ⟨_, q⟩ ?_
  exact ⟨hz, its', _, hv, q⟩
theorem Inv.lnew {its : List Value} {t' : Nat} (I : Inv X pins σ H s) (hv : Vals ys its) (hz : ys.length ≤ sizeLine) :
    Inv X pins σ (upd H s.heap.objs.size (.lst ys)) { s with heap := s.heap.push { cls := .type "list", data := .seq its.toArray }, toks := t' } :=
  I.laid (fun _ _ q => Heap.get?_push_of_some _ q) (Nat.le_refl _) ⟨hz, its, 0, hv, Heap.get?_push_size _ rfl⟩
theorem Inv.fresh (I : Inv X pins σ H s) : H s.heap.objs.size = none := I.hok.fresh (Nat.le_refl _)
theorem Inv.lstM (I : Inv X pins σ H s) (hH : H l = some (.lst xs)) : xs.length ≤ sizeLine ∧ ∃ (its : List Value) (n : Nat), Vals xs its ∧ xs.length = its.length ∧ s.heap.get? l = some { cls := .type "list", data := .seq its.toArray n } := by
  obtain ⟨z, its, n, r, e⟩ := I.hok l _ hH
  exact ⟨z, its, n, r, r.length, e⟩

theorem notLongL {n : Nat} (h : n ≤ sizeLine) : Builtin.List.listTooLong n = false := by
  unfold Builtin.List.listTooLong
  exact decide_eq_false (by omega)
end

section
variable {X : Cx}

/-! ### methods -/
def rAppend : V → List V → Hp → VK → Prop := fun x vs H Q => ∃ l xs y, x = .ref l ∧ vs = [y] ∧ H l = some (.lst xs) ∧ xs.length < sizeLine ∧ Q .non (upd H l (.lst (xs ++ [y])))
theorem mt_append : MtM X "list.append" rAppend := by
  intro pins s σ H x vs v us Q I rx rv h
  obtain ⟨l, xs, y, rfl, rfl, hH, hz, q⟩ := h
  cases rx
  obtain ⟨u, rfl, ru⟩ := rv.one
  obtain ⟨z, its, n, r, hl, e⟩ := I.lstM hH
  refine call_meets F.slot_list_append ⟨_, e, rfl⟩ F.entry_list_append (F.args_list_append_2 _ _) (PySem.list_append l its.toArray n u (by rw [List.size_toArray]; omega)) ⟨e, ?_⟩
  refine ⟨.non, _, I.lset (its' := its ++ [u]) hH e (by simp) (r.append (.cons ru .nil)) ?_, rfl, q⟩
  rw [List.length_append, List.length_singleton]
  omega

def rExtend : V → List V → Hp → VK → Prop := fun x vs H Q => ∃ l b xs zs, x = .ref l ∧ vs = [.ref b] ∧ H l = some (.lst xs) ∧ H b = some (.lst zs) ∧ xs.length + zs.length ≤ sizeLine ∧ Q .non (upd H l (.lst (xs ++ zs)))
theorem mt_extend : MtM X "list.extend" rExtend := by
  intro pins s σ H x vs v us Q I rx rv h
  obtain ⟨l, b, xs, zs, rfl, rfl, hH, hB, hz, q⟩ := h
  cases rx
  obtain ⟨u, rfl, ru⟩ := rv.one
  cases ru
  obtain ⟨z, its, n, r, hl, e⟩ := I.lstM hH
  obtain ⟨z2, its2, n2, r2, hl2, e2⟩ := I.lstM hB
  have hsz : its.toArray.size + its2.toArray.size ≤ sizeLine := by rw [List.size_toArray, List.size_toArray]; omega
  have hlong : ¬ (!its.toArray.isEmpty && Builtin.List.listTooLong (its.toArray.size + its2.toArray.size)) = true := by
    rw [notLongL hsz, Bool.and_false]
    exact Bool.false_ne_true
  refine call_meets F.slot_list_extend ⟨_, e, rfl⟩ F.entry_list_extend (F.args_list_extend_2 _ _)
    (AutoSeq1.list_extend_list_list_0 l its.toArray n b its2.toArray n2 hlong (by rw [List.size_toArray]; omega) (by omega)) ⟨e, e2, ?_⟩
  refine ⟨.non, _, I.lset (its' := its ++ its2) hH e (by simp) (r.append r2) ?_, rfl, q⟩
  rw [List.length_append]
  omega

def rPop : V → List V → Hp → VK → Prop := fun x vs H Q => ∃ l xs y, x = .ref l ∧ vs = [] ∧ H l = some (.lst xs) ∧ xs[xs.length - 1]? = some y ∧ Q y (upd H l (.lst xs.dropLast))
def rPopAt : V → List V → Hp → VK → Prop := fun x vs H Q => ∃ l xs i k y, x = .ref l ∧ vs = [.int i] ∧ H l = some (.lst xs) ∧ -(2 ^ 63) ≤ i ∧ i < 2 ^ 63 ∧ seqIndex? i xs.length = some k ∧ xs[k]? = some y ∧ Q y (upd H l (.lst (xs.eraseIdx k)))
def rReverse : V → List V → Hp → VK → Prop := fun x vs H Q => ∃ l xs, x = .ref l ∧ vs = [] ∧ H l = some (.lst xs) ∧ Q .non (upd H l (.lst xs.reverse))
def rClear : V → List V → Hp → VK → Prop := fun x vs H Q => ∃ l xs, x = .ref l ∧ vs = [] ∧ H l = some (.lst xs) ∧ Q .non (upd H l (.lst []))
/-! ### list + list, list += list, list * int -/
def rCat : R2 := fun x y H Q => ∃ l b xs zs, x = .ref l ∧ y = .ref b ∧ H l = some (.lst xs) ∧ H b = some (.lst zs) ∧ xs.length + zs.length ≤ sizeLine ∧ ∀ p, H p = none → Q (.ref p) (upd H p (.lst (xs ++ zs)))
theorem op_cat : OpR X (binaryOp .Add) rCat := by
  intro pins s σ H x y v u Q I rx ry h
  obtain ⟨l, b, xs, zs, rfl, rfl, hH, hB, hz, q⟩ := h
  cases rx
  cases ry
  obtain ⟨z, its, n, r, hl, e⟩ := I.lstM hH
  obtain ⟨z2, its2, n2, r2, hl2, e2⟩ := I.lstM hB
  refine PySem.P.add_list e e2 ?_ (by rw [List.size_toArray, List.size_toArray]; omega)
  have ea : its.toArray ++ its2.toArray = (its ++ its2).toArray := by simp
  rw [ea]
  exact ⟨.ref _, _, I.lnew (t' := s.toks) (r.append r2) (by rw [List.length_append]; omega), rfl, q _ I.fresh⟩
/-- a list times an int (a negative one is nothing) -/
def rRep : R2 := fun x y H Q => ∃ l k xs, x = .ref l ∧ y = .int k ∧ H l = some (.lst xs) ∧ -(2 ^ 63) ≤ k ∧ k < 2 ^ 63 ∧ xs.length * k.toNat ≤ sizeLine ∧
  ∀ p, H p = none → Q (.ref p) (upd H p (.lst (List.replicate k.toNat xs).flatten))
/-! ### del xs[i] -/
end

/-! ### xs[a:b] = ys -/
section
variable {prog : Program} {w : World} {A : Around} {E : Value → Shared → Prop} {s : Shared}
end

section
variable {X : Cx}
end
end L2

namespace Att
open PySem PySem.W PySem.Calls PyProof.Rows

/-! ### the script -/
theorem ints_of_wellAll {P : Params} {h : Heap} : ∀ (ns : List Int) (vs : List Value), WellAll P h vs (ns.map WData.int) → IntsAre vs ns := by
  intro ns
  induction ns with
  | nil =>
    intro vs w
    rw [List.map_nil] at w
    cases w
    exact .nil
  | cons n ns ih =>
    intro vs w
    rw [List.map_cons] at w
    cases w with
    | cons a b =>
      cases a
      exact .cons _ _ (ih _ b)

theorem script_of {l : OpenLaw} {n : Nat} (hn : l.most = some n) {P : Params} {h : Heap} {args : List WData} {vals : List Value}
    (hpre : l.row.toRowW.claim.pre args = true) (hwl : WellAll P h vals args) :
    ∃ a vs ns, vals = [Value.ref a] ∧ args = [WData.list (ns.map WData.int)] ∧ h.get? a = some { cls := .type "list", data := .seq vs.toArray } ∧ IntsAre vs ns ∧ ns.length ≤ n := by
  have hsh : WShape.hasAll [] args [.list .int] = true := (pre_splitW hpre).1
  have hc : l.pre.holds [] { args := args } = true := (pre_splitW hpre).2
  obtain ⟨d, r, rfl, h1, h2⟩ := hasAllW_cons hsh
  obtain rfl := hasAllW_nil h2
  obtain ⟨xs, rfl, h3⟩ := hasW_list h1
  obtain ⟨ns, rfl⟩ := items_int h3
  have hlen : ns.length ≤ n := by
    unfold OpenLaw.pre at hc
    have h4 : (WTm.not (.lt (.lit (.int (n : Int))) (.len (.arg 0)))).holds [] { args := [.list (ns.map .int)] } = true := by
      have h4 := (holds_andW hc).1
      rw [hn] at h4
      exact h4
    have h5 := condW_of h4 (w_not (w_lt w_lit (w_len_list (w_arg rfl))))
    rw [List.length_map] at h5
    refine Nat.le_of_not_lt fun q => ?_
    have q' : (n : Int) < ((ns.length : Nat) : Int) := by omega
    first
      | (rw [decide_eq_true q'] at h5; exact absurd h5 (by decide))
      | (simp at h5; omega)
  cases hwl with
  | cons w1 w2 =>
    cases w2
    cases w1 with
    | list ho hall => exact ⟨_, _, ns, rfl, rfl, ho, ints_of_wellAll ns _ hall, hlen⟩

theorem post_true (l : OpenLaw) (args : List WData) : l.row.toRowW.claim.post args (.bool true) args = true :=
  postW_of (r := l.row.toRowW) (X := (true == true))
    (show WShape.has [] (.bool true) .bool = true by first | rfl | decide | simp [WShape.has, WShape.arms, WShape.armsAll])
    (show (WTm.eq .res (.lit (.bool true))).value [] { args := args, res := some (.bool true), after := args } = some (.bool (true == true)) from w_eq_bool (w_res rfl) w_lit) rfl

/-! ### the attachment: holds_open's last premise (the goal 'hc' behind k_head) from a wpAny of the law's body -/
/-- the same from a codeAny of the CALL (for a layer whose function contracts speak of calls) -/
theorem attach_call {l : OpenLaw} {n : Nat} {q : Program} {loose : List Str} {XP : (Str → Option Value) → Heap → Prop} {YP : World → Heap → Prop} {d : DefRec}
    (hn : l.most = some n) (hdf : d.params.defaults = [])
    (call : ∀ (w : World) (s₀ s₁ : Shared) (mg mb : Str → Option Value) (fa : Addr) (o : Obj) (pm cd doc : Value) (a : Addr) (vs : List Value) (ns : List Int),
      Ground q loose [] XP w s₀ mg mb s₁.heap → YP w s₁.heap →
      s₁.heap.get? fa = some o → o.data = .func (docDef d.name d.params d.body d.scope pm cd doc) → s₁.heap.CodeRec cd d.name → mg d.name = some (.ref fa) →
      s₁.heap.get? a = some { cls := .type "list", data := .seq vs.toArray } → IntsAre vs ns → ns.length ≤ n → s₁.gens = #[] →
      codeAny (model l.prog w) callerA (.call (.ref fa) ⟨[.ref a], []⟩) (fun r s' => r = .ok (.ret (.bool true)) ∧ OldK s₁.heap s'.heap ∧ s'.os = s₁.os ∧ AllBare s'.gens) s₁) :
    WalkO q loose XP YP l.row.toRowW d [] (fun f vs => PySem.call f vs) := by
  intro w s₀ s₁ mg mb G Y fa o pm cd doc dV kV ho hd hcd hD hmg hg args vals as hpre hlay hrd hwl hlo
  obtain rfl : dV = .none := Dflts.none hD hdf
  obtain rfl : kV = .none := Dflts.noKw hD
  obtain ⟨a, vs, ns, rfl, rfl, hobj, hints, hlen⟩ := script_of hn hpre hwl
  refine enter_call (codeAny_mono (call w s₀ s₁ mg mb fa o pm cd doc a vs ns G Y ho (fd_plain hd) hcd hmg hobj hints hlen hg) fun r s' hq => ?_)
  obtain ⟨rfl, h2, h3, h4⟩ := hq
  exact ⟨.inl ⟨.bool true, .bool true, [], rfl, fun _ => rfl, .bool true, post_true l _, fun _ => ⟨List.Pairwise.nil, fun _ hm => (nomatch hm)⟩⟩, h2, h3, h4⟩

/-! ### rules over ANY heap (no ledger) from facts about the written part K: the library's own take a ledger (News) for what they write -/
section
variable {prog : Program} {w : World} {A : Around} {E : Value → Shared → Prop} {s : Shared} {K : Frag}

/-! the whole heap as the ledger: makes every rule that writes through a ledger a rule over any heap -/
def noObjs (h : Heap) : Heap := { h with objs := #[] }
def ledger (h : Heap) (L d : Addr) : List (Addr × Obj) := (List.range h.objs.size).filterMap fun a => if a = L ∨ a = d then none else (h.get? a).map fun o => (a, o)
end
end Att

namespace L2
open PySem PySem.Spec PyProof.Rows

theorem vals_ints : ∀ {vs : List Value} {ns : List Int}, IntsAre vs ns → Vals (ns.map V.int) vs
  | _, _, .nil => .nil
  | _, _, .cons n t h => .cons ⟨t, rfl⟩ (vals_ints h)

/-- nothing is tracked but the script, known to the object (or it is an object of the module) -/
def Only (H : Hp) : Prop := ∀ b, H b = none ∨ ∃ o xs, H b = some (.frz o (.lst xs))

/-- THE HEAD: the law's promise, at the heap behind the top. F, the promise of the law's def, may use that base is part of the heap (so K.In base, base.Ns mainGlobals mg stand in Mod) -/
theorem law_call {P : Program} {w : World} {K : PySem.W.Frag} {mg mb : Str → Option Value} {CX : CXT} {k : Nat} {fa a : Addr} {fd : FuncData} {x : Str} {sp : Sp} {s₁ : Shared} {vs : List Value} {ns : List Int}
    (KX : K.In s₁.heap) (hns : s₁.heap.Ns mainGlobals mg) (hb : s₁.heap.Ns builtinsNs mb) (hbb : ∀ x : Str, x ≠ "__name__" → mb x = bootBuiltins x) (hlim : s₁.heap.NoLimit) (hg : s₁.gens = #[])
    (ha : s₁.heap.get? a = some { cls := .type "list", data := .seq vs.toArray }) (hi : IntsAre vs ns) (hl : ns.length ≤ sizeLine) (hr : Room k callerA)
    (F : ∀ base : Heap, K.In base → base.Ns mainGlobals mg → FnOk P w K mg base CX k fa fd [x] sp) (hbind : ∀ (s : Shared) (u : Value), BindsTo s fd ⟨[u], []⟩ [(x, u)])
    (hsp : ∀ H : Hp, Only H → SqL K H a (ns.map V.int) → sp [.ref a] H (fun v _ => v = .bl true) fun _ _ _ => False)
    (hCX : ∀ H e s', CX [] H s₁ (fun _ _ _ => False) e s' → False) :
    codeAny (model P w) callerA (.call (.ref fa) ⟨[.ref a], []⟩) (fun r s' => r = .ok (.ret (.bool true)) ∧ OldK s₁.heap s'.heap ∧ s'.os = s₁.os ∧ AllBare s'.gens) s₁ := by
  have rv := vals_ints hi
  have lenV := hi.length
  -- from an abstract heap in which nothing but the script may be tracked
  have core : ∀ H : Hp, Only H → SqL K H a (ns.map V.int) → HOk P w H s₁.heap → (∀ b, H b ≠ none → b = a) → (H a ≠ none → K.lookup a = none) →
      codeAny (model P w) callerA (.call (.ref fa) ⟨[.ref a], []⟩) (fun r s' => r = .ok (.ret (.bool true)) ∧ OldK s₁.heap s'.heap ∧ s'.os = s₁.os ∧ AllBare s'.gens) s₁ := by
    intro H hO hS hok hA hK
    have base_of : ∀ {b : Addr} {o : Obj}, s₁.heap.get? b = some o → H b = none → (hidT s₁.heap H).get? b = some o := fun e n => hidT_get e n
    have noA : ∀ {b : Addr} {o : Obj} {es : Array DictEntry} {ep : Nat}, s₁.heap.get? b = some o → o.data = .dict es ep → H b = none := fun {b o es ep} e d => by
      cases q : H b with
      | none => rfl
      | some u =>
        have e' : b = a := hA b (by rw [q]; simp)
        subst e'
        rw [ha] at e; cases e
        have d' : Data.seq vs.toArray _ = Data.dict es ep := d
        cases d'
    have nsK : ∀ {b : Addr} {m : Str → Option Value}, s₁.heap.Ns b m → (hidT s₁.heap H).Ns b m := fun {b m} ⟨o, es, ep, e, d, r⟩ => ⟨o, es, ep, base_of e (noA e d), d, r⟩
    have hKb : K.In (hidT s₁.heap H) := fun b o e => base_of (KX b o e) (by
      cases q : H b with
      | none => rfl
      | some u =>
        have e' : b = a := hA b (by rw [q]; simp)
        subst e'
        rw [hK (by rw [q]; simp)] at e; cases e)
    have hM : Mod K mg (hidT s₁.heap H) := ⟨hKb, nsK hns, ⟨mb, nsK hb, hbb⟩, let ⟨mc, h1, h2⟩ := hlim; ⟨mc, nsK h1, h2⟩⟩
    have e0 : Env0 P w K mg (hidT s₁.heap H) callerA [] s₁ H := ⟨rfl, hM, fun b o e => of_hidT e, Nat.le_of_eq (hidT_size _ _), trivial, fun b hb => absurd (show b ∈ ([] : List Addr) from hb) (by simp), hok, .of_eq hg⟩
    refine codeAny_mono ((F _ hKb (nsK hns)).run callerA [] s₁ H ⟨[.ref a], []⟩ [.ref a] [.ref a] _ _ hr e0 (hbind s₁ (.ref a)) (.cons rfl .nil) (hsp H hO hS)) fun r s' h => ?_
    cases r with
    | error e => exact (hCX H e s' h).elim
    | ok fl =>
      cases fl with
      | next => exact False.elim h
      | brk => exact False.elim h
      | cont => exact False.elim h
      | ret u =>
        obtain ⟨v, H', os, bare, un, hok', r', q⟩ := h
        have q' : v = .bl true := q
        subst q'
        obtain rfl : u = Value.bool true := r'
        refine ⟨rfl, OldK.of_keep fun b o e => ?_, os, bare⟩
        cases q : H b with
        | none => exact un.keep b o e q (by intro z; exact absurd (show b ∈ ([] : List Addr) from z) (by simp)) (by simp)
        | some u =>
          rcases hO b with z | ⟨ob, xs, z⟩
          · rw [q] at z; cases z
          · have z2 := un.frzs b ob _ z
            obtain ⟨e1, _⟩ := hok b _ z
            obtain ⟨e2, _⟩ := hok' b _ z2
            rw [e] at e1; cases e1
            exact e2
  cases hk : K.lookup a with
  | some o =>
    -- the script is one of the module's own objects
    have e := KX a o hk
    rw [ha] at e
    cases e
    refine core (fun _ => none) (fun _ => .inl rfl) (.inr ⟨_, vs.toArray, _, hk, rfl, rfl, rfl, by rw [List.size_toArray, lenV]; exact hl, by simpa using rv⟩) (fun b u z => by have z' : (none : Option HO) = some u := z; cases z') (fun b z => absurd rfl z) fun z => absurd rfl z
  | none =>
    refine core (fun b => if b = a then some (.frz { cls := .type "list", data := .seq vs.toArray } (.lst (ns.map V.int))) else none) (fun b => ?_) (.inl (.inr ⟨{ cls := .type "list", data := .seq vs.toArray }, if_pos rfl⟩)) (fun b u z => ?_) (fun b z => ?_) fun _ => hk
    · by_cases hb : b = a
      · exact .inr ⟨_, _, if_pos hb⟩
      · exact .inl (if_neg hb)
    · by_cases hb : b = a
      · have z' := (if_pos hb).symm.trans z
        cases z'
        subst hb
        exact ⟨ha, by rw [List.length_map]; exact hl, vs, _, rv, ha⟩
      · have z' := (if_neg hb).symm.trans z
        cases z'
    · by_cases hb : b = a
      · exact hb
      · exact absurd (if_neg hb) z
end L2

namespace L2
open PySem PySem.Spec PyProof.Rows

abbrev KOf {K : PySem.W.Frag} {h : Heap} (_ : K.In h) : PySem.W.Frag := K

/-- the goal that k_head leaves (case hc), from the law's promise. F gives the function object fd (K's own) once, then the promise over every base -/
theorem walk_of {l : PySem.W.OpenLaw} {n k : Nat} {q : Program} {loose : List Str} {XP : (Str → Option Value) → Heap → Prop} {YP : World → Heap → Prop} {d : DefRec} {K : Params → PySem.W.Frag} {CX : World → CXT} {sp : World → Sp} {x : Str}
    (hn : l.most = some n) (hn2 : n ≤ sizeLine) (hdf : d.params.defaults = []) (hr : Room k callerA)
    (hY : ∀ (w : World) (h : Heap), YP w h → (K w.params).In h)
    (F : ∀ (w : World) (mg : Str → Option Value) (fa : Addr) (h : Heap), (K w.params).In h → h.Ns mainGlobals mg → mg d.name = some (.ref fa) →
      ∃ fd : FuncData, (∀ (s : Shared) (u : Value), BindsTo s fd ⟨[u], []⟩ [(x, u)]) ∧
        ∀ base : Heap, (K w.params).In base → base.Ns mainGlobals mg → FnOk l.prog w (K w.params) mg base (CX w) k fa fd [x] (sp w))
    (hsp : ∀ (w : World) (H : Hp) (a : Addr) (ns : List Int), ns.length ≤ n → Only H → SqL (K w.params) H a (ns.map V.int) → sp w [.ref a] H (fun v _ => v = .bl true) fun _ _ _ => False)
    (hCX : ∀ (w : World) (H : Hp) (s : Shared) (e : Value) (s' : Shared), CX w [] H s (fun _ _ _ => False) e s' → False) :
    PySem.W.WalkO q loose XP YP l.row.toRowW d [] (fun f vs => PySem.call f vs) := by
  refine Att.attach_call hn hdf fun w s₀ s₁ mg mb fa o pm cd doc a vs ns G Y ho hd hcd hmg hobj hints hlen hg => ?_
  have KX := hY w _ Y
  obtain ⟨fd, hb, hF⟩ := F w mg fa _ KX G.T.g hmg
  exact law_call KX G.T.g G.T.b G.T.builtins G.T.nolimit hg hobj hints (Nat.le_trans hlen hn2) hr hF hb (fun H hO hS => hsp w H a ns hlen hO hS) fun H e s' => hCX w H s₁ e s'
end L2



/-! SHORT WORDS over the layer: a def of the text, its body, what a loop and a test want. -/
namespace L2
open PySem PySem.Spec PyProof.Rows

/-! ### the text by places -/
/-- the j-th statement of a class's body -/
def inClass (s : Stmt) (j : Nat) : Stmt := match s with
  | .ClassDef _ _ _ body _ _ _ _ _ _ _ => body.getD j (.Pass ⟨0, 0, 0, 0⟩)
  | _ => .Pass ⟨0, 0, 0, 0⟩
def defArgs (s : Stmt) : Arguments := match s with
  | .FunctionDef _ a _ _ _ _ _ _ _ _ => a
  | _ => { posonlyargs := [], args := [], vararg := none, kwonlyargs := [], kw_defaults := [], kwarg := none, defaults := [] }
def defBody (s : Stmt) : List Stmt := match s with
  | .FunctionDef _ _ b _ _ _ _ _ _ _ => b
  | _ => []
def defScope (s : Stmt) : Scope := match s with
  | .FunctionDef _ _ _ _ _ _ sc _ _ _ => sc
  | _ => { kind := .function, names := [], isGenerator := false, isCoroutine := false }

/-! ### no exception leaves a def -/
abbrev CX0 : CXT := fun _ _ _ _ _ _ => False
abbrev E0 : XK := fun _ _ _ => False
theorem pass0 {X : Cx} : Passes CX0 X E0 := fun _ _ _ _ _ _ _ h => h.elim

/-! ### a def (or method) of the text as it stands behind the top -/
structure Fun (K : PySem.W.Frag) (x qual : Str) (st : Stmt) (f : Addr) (fd : FuncData) : Prop where
  ex : ∃ (oc : Value) (od : Option Addr) (kV doc pm : Value) (an : Option Addr) (cdv ct : Value) (osl : Array (Option Value)),
    fd = PySem.W.fnOf x qual (defArgs st) (defBody st) (defScope st) .none kV doc pm an cdv ct ∧ K.lookup f = some ⟨oc, od, .func fd, osl⟩ ∧ PySem.W.codeIn K cdv qual = true
  kp : PySem.W.keepIn K (.ref f) = true
section
variable {P : Program} {w : World} {K : PySem.W.Frag} {mg : Str → Option Value} {base : Heap}
/-- THE RULE for a def: its body as a term of rules, and the reading of that term -/
theorem Fun.ok {x qual : Str} {st : Stmt} {f : Addr} {fd : FuncData} {N ps : List Str} {k : Nat} {sp : Sp} (F : Fun K x qual st f fd) (S : FnScope N ps (defScope st)) (len : ∀ vs H Q E, sp vs H Q E → vs.length = ps.length)
    (hbody : ∀ (cdv : Value) (A : Around) (outer : List Env) (s : Shared) (H : Hp) (vs : List V) (Q : VK) (E : XK), Room k (A.deeper (envOfC qual (defScope st) s.heap.objs.size f cdv)) → sp vs H Q E →
      ∃ t, PSs (cxOf CX0 P w K mg base N qual (defScope st) f cdv A outer s H E).nox (defBody st) t ∧ t { nx := fun _ H' => Q .non H', rt := Q } (start N vs) H) : FnOk P w K mg base CX0 (k + 1) f fd ps sp := by
  obtain ⟨oc, od, kV, doc, pm, an, cdv, ct, osl, rfl, lk, hcd⟩ := F.ex
  refine fn_of lk hcd S len fun A outer s H vs Q E hr hsp => ?_
  obtain ⟨t, h, q⟩ := hbody cdv A outer s H vs Q E hr hsp
  exact ⟨t, h.nox, q⟩
/-- how its arguments bind (no defaults): h is «fun _ _ _ _ _ _ us hl => match us, hl with | [_, _], _ => rfl», one _ a parameter -/
theorem Fun.binds {x qual : Str} {st : Stmt} {f : Addr} {fd : FuncData} {ps : List Str} (F : Fun K x qual st f fd)
    (h : ∀ (kV doc pm : Value) (an : Option Addr) (cdv ct : Value) (us : List Value), us.length = ps.length → bindArgs (PySem.W.fnOf x qual (defArgs st) (defBody st) (defScope st) .none kV doc pm an cdv ct) ⟨us, []⟩ = pure (ps.zip us)) : Binds K fd ps [] := by
  obtain ⟨oc, od, kV, doc, pm, an, cdv, ct, osl, rfl, lk, hcd⟩ := F.ex
  exact .all (h kV doc pm an cdv ct)
theorem fun_mk {x qual : Str} {st : Stmt} {f : Addr} {oc : Value} {od an : Option Addr} {osl : Array (Option Value)} {kV doc pm cdv ct : Value} (l : K.lookup f = some ⟨oc, od, .func (PySem.W.fnOf x qual (defArgs st) (defBody st) (defScope st) .none kV doc pm an cdv ct), osl⟩)
    (c : PySem.W.codeIn K cdv qual = true) (k : PySem.W.keepIn K (.ref f) = true) : Fun K x qual st f (PySem.W.fnOf x qual (defArgs st) (defBody st) (defScope st) .none kV doc pm an cdv ct) := ⟨⟨oc, od, kV, doc, pm, an, cdv, ct, osl, rfl, l, c⟩, k⟩
end
theorem small1000 {n : Nat} (h : n ≤ 1000) : n < sizeLine := Nat.lt_of_le_of_lt h (by decide)

/-! ### expressions in short: the name that stands in the i-th slot -/
section
variable {X : Cx}
theorem pv (i : Nat) {x : Str} {pos : Pos} (hN : X.N[i]? = some x := by rfl) (hv : Vis X.env.scope x := by first | exact Or.inl rfl | exact Or.inr (Or.inl rfl) | exact Or.inr (Or.inr rfl)) (hd : (x == ("__debug__" : Str)) = false := by decide)
    (hcd : (x == ("__classdict__" : Str)) = false := by decide) : PE X (.Name x pos) (tVar i) := pe_var hN hv hd hcd
end

/-! ### tests -/
theorem iteF {A B : Prop} (h : B) : if false = true then A else B := by
  rw [if_neg Bool.false_ne_true]
  exact h
theorem iteT {A B : Prop} (h : A) : if true = true then A else B := by
  rw [if_pos rfl]
  exact h
theorem ite2 {c A B : Prop} [Decidable c] (h1 : c → A) (h2 : ¬ c → B) : if c then A else B := by
  by_cases h : c
  · rw [if_pos h]
    exact h1 h
  · rw [if_neg h]
    exact h2 h
/-! ### heaps -/
/-- all that was tracked is as it was -/
def Same (H H' : Hp) : Prop := ∀ b o, H b = some o → H' b = some o
theorem Same.refl (H : Hp) : Same H H := fun _ _ h => h
theorem Same.trans {H H1 H2 : Hp} (a : Same H H1) (b : Same H1 H2) : Same H H2 := fun c o h => b c o (a c o h)
theorem Same.free {H H' : Hp} (e : Same H H') {l : Addr} (h : H' l = Option.none) : H l = Option.none := by
  cases q : H l with
  | none => rfl
  | some o =>
    rw [e l o q] at h
    cases h
theorem Same.seq {K : PySem.W.Frag} {H H' : Hp} {a : Addr} {xs : List V} (e : Same H H') (h : SqL K H a xs) : SqL K H' a xs := by
  rcases h with (h | ⟨o, h⟩) | h
  · exact .inl (.inl (e _ _ h))
  · exact .inl (.inr ⟨o, e _ _ h⟩)
  · exact .inr h

end L2

namespace L2
open PySem PySem.Spec PyProof.Rows

/-! ### a list comprehension of one clause: its block is a context of its own -/
theorem compLoop_any {prog : Program} {w : World} {A : Around} {R : Result → Shared → Prop} {s : Shared} {elt target iter : Expr} {ifs : List Expr} {scope : Scope} {pos : Pos} {it acc : Value} {env : Env} (I : Nat → Shared → Prop)
    (turn : ∀ n s, I n s → wpAny (model prog w) A (pyNext it) (fun r s1 => match r with
      | none => R (.ok .next) s1
      | some v => wpAny (model prog w) A (letOwnedTupleGo target it v) (fun _ s1' => wpAny (model prog w) A (assign target env v) (fun _ s2 =>
          wpAny (model prog w) A (forIn ifs true fun c r => if r = true then do let ok ← isTrue c env (eval c env); pure (ForInStep.yield ok) else pure (ForInStep.yield r)) (fun ok s3 =>
            if ok = true then wpAny (model prog w) A (eval elt env) (fun x s4 =>
              wpAny (model prog w) A (call (.builtin "list.append") [acc, x]) (fun _ s5 => ∃ m, m < n ∧ I m s5) (fun _ _ => False) s4) (fun _ _ => False) s3
            else ∃ m, m < n ∧ I m s3) (fun _ _ => False) s2) (fun _ _ => False) s1') (fun _ _ => False) s1) (fun _ _ => False) s)
    (n : Nat) (h : I n s) : codeAny (model prog w) A (.compLoop (.ListComp elt [⟨target, iter, ifs, 0⟩] scope pos) 0 it acc env) R s := by
  refine codeAny_loop rfl I (fun n s hI => ?_) n h
  show wpAny _ A ((compTurn (.ListComp elt [⟨target, iter, ifs, 0⟩] scope pos) 0 it acc env).onRaise (fun x => do noteFrame x env; theTreesLotGoes x)) _ _ s
  refine wpAny_noted (wpAny_mono (Q := _) (E := fun _ _ => False) ?_ (fun _ _ x => x) fun _ _ x => x.elim)
  rw [compTurn_list]
  refine wpAny_bind (wpAny_standAt (wpAny_bind (thn (turn n s hI) (fun r s1 h1 => ?_))))
  cases r with
  | none => exact wpAny_pure h1
  | some v =>
    refine wpAny_bind (thn h1 fun _ s1' h1' => wpAny_bind (thn h1' fun _ s2 h2 => wpAny_bind (thn h2 fun ok s3 h3 => ?_)))
    cases ok with
    | false => exact wpAny_pure ⟨rfl, h3⟩
    | true => exact wpAny_bind (wpAny_bind (thn h3 fun x s4 h4 => wpAny_bind (thn h4 fun _ s5 h5 => wpAny_pure (wpAny_pure ⟨rfl, h5⟩))))

theorem forIn_free {env : Env} : ∀ (names : List (Str × NameKind)) (cs : List (Str × Addr)), (∀ n, (n, NameKind.free) ∈ names → ∃ c, env.cells.lookup n = some c) →
    ∃ cl : List (Str × Addr), (forIn names cs (fun (x : Str × NameKind) (cs : List (Str × Addr)) => (do
      if (x.2 == NameKind.free) = true then do let a ← cellOf env x.1; pure (ForInStep.yield ((x.1, a) :: cs))
      else pure (ForInStep.yield cs) : Sem (ForInStep (List (Str × Addr)))))) = (pure cl : Sem (List (Str × Addr))) ∧
      (∀ p ∈ cl, p ∈ cs ∨ env.cells.lookup p.1 = some p.2) ∧ (∀ p ∈ cs, p ∈ cl) ∧ (∀ n, (n, NameKind.free) ∈ names → ∃ c, (n, c) ∈ cl)
  | [], cs, _ => ⟨cs, rfl, fun p hp => .inl hp, fun p hp => hp, fun n hn => nomatch hn⟩
  | (n, k) :: r, cs, h => by
    by_cases hk : k = .free
    · subst hk
      obtain ⟨c, hc⟩ := h n List.mem_cons_self
      obtain ⟨cl, e, h1, h2, h3⟩ := forIn_free (env := env) r ((n, c) :: cs) fun m hm => h m (List.mem_cons_of_mem _ hm)
      refine ⟨cl, ?_, fun p hp => ?_, fun p hp => h2 p (List.mem_cons_of_mem _ hp), fun m hm => ?_⟩
      · rw [List.forIn_cons]
        have z : cellOf env n = pure c := by unfold cellOf; rw [hc]
        simp only [beq_self_eq_true, if_true, z]
        exact e
      · rcases h1 p hp with q | q
        · rcases List.mem_cons.mp q with q | q
          · subst q; exact .inr hc
          · exact .inl q
        · exact .inr q
      · rcases List.mem_cons.mp hm with q | q
        · have q1 : m = n := by cases q; rfl
          subst q1
          exact ⟨c, h2 _ List.mem_cons_self⟩
        · exact h3 m q
    · obtain ⟨cl, e, h1, h2, h3⟩ := forIn_free (env := env) r cs fun m hm => h m (List.mem_cons_of_mem _ hm)
      refine ⟨cl, ?_, h1, h2, fun m hm => ?_⟩
      · rw [List.forIn_cons]
        have z : (k == NameKind.free) = false := by simpa using hk
        simp only [z, Bool.false_eq_true, if_false]
        exact e
      · rcases List.mem_cons.mp hm with q | q
        · cases q; exact absurd rfl hk
        · exact h3 m q

theorem mem_lookup {cl : List (Str × Addr)} {x : Str} {c : Addr} (h : (x, c) ∈ cl) : ∃ c', cl.lookup x = some c' := by
  induction cl with
  | nil => cases h
  | cons p r ih =>
    obtain ⟨y, d⟩ := p
    by_cases e : x = y
    · subst e; exact ⟨d, by simp⟩
    · have e' : (x == y) = false := by simpa using e
      rcases List.mem_cons.mp h with q | q
      · cases q; exact absurd rfl e
      · obtain ⟨c', q'⟩ := ih q
        exact ⟨c', by rw [List.lookup_cons, e']; exact q'⟩

theorem closure_ok {env : Env} {scope : Scope} (h : ∀ n, (n, NameKind.free) ∈ scope.names → ∃ c, env.cells.lookup n = some c) :
    ∃ cl, closureFor scope env = pure cl ∧ (∀ x c, cl.lookup x = some c → env.cells.lookup x = some c) ∧ (∀ n, (n, NameKind.free) ∈ scope.names → ∃ c, cl.lookup n = some c) := by
  obtain ⟨cl, e, h1, _, h3⟩ := forIn_free (env := env) scope.names [] h
  refine ⟨cl, ?_, fun x c q => ?_, fun n hn => ?_⟩
  · unfold closureFor
    refine Eq.trans ?_ e
    first
      | rfl
      | (simp only [bind_pure]; rfl)
      | simp only [bind_pure]
  · rcases h1 _ (PySem.mem_of_lookup q) with z | z
    · cases z
    · exact z
  · obtain ⟨c, q⟩ := h3 n hn
    exact mem_lookup q

theorem relabel_lookup {scope : Scope} {env : Env} {x : Str} {k' : NameKind} (h : (relabel scope env).names.lookup x = some k') : ∃ k, scope.names.lookup x = some k ∧ (k' = k ∨ (k = .free ∧ k' = .cell)) := by
  have go : ∀ names : List (Str × NameKind), (names.map fun (n, k) => if (k == NameKind.free && env.scope.kind == .function && env.kindOf n == some .cell) then (n, NameKind.cell) else (n, k)).lookup x = some k' →
      ∃ k, names.lookup x = some k ∧ (k' = k ∨ (k = .free ∧ k' = .cell)) := by
    intro names
    induction names with
    | nil => intro h; cases h
    | cons p r ih =>
      obtain ⟨n, k⟩ := p
      intro h
      rw [List.map_cons] at h
      by_cases hc : (k == NameKind.free && env.scope.kind == .function && env.kindOf n == some .cell) = true
      · simp only [hc, if_true] at h
        cases hx : x == n with
        | true =>
          rw [List.lookup_cons, hx] at h
          have hk : k = .free := by
            cases k <;> first | rfl | (simp at hc)
          exact ⟨k, by rw [List.lookup_cons, hx], .inr ⟨hk, by cases h; rfl⟩⟩
        | false =>
          rw [List.lookup_cons, hx] at h
          obtain ⟨k2, q1, q2⟩ := ih h
          exact ⟨k2, by rw [List.lookup_cons, hx]; exact q1, q2⟩
      · have hc' : (k == NameKind.free && env.scope.kind == .function && env.kindOf n == some .cell) = false := by simpa using hc
        simp only [hc', Bool.false_eq_true, if_false] at h
        cases hx : x == n with
        | true =>
          rw [List.lookup_cons, hx] at h
          exact ⟨k, by rw [List.lookup_cons, hx], .inl (by cases h; rfl)⟩
        | false =>
          rw [List.lookup_cons, hx] at h
          obtain ⟨k2, q1, q2⟩ := ih h
          exact ⟨k2, by rw [List.lookup_cons, hx]; exact q1, q2⟩
  exact go _ h

/-- the context of a comprehension's block: its own names first, then the names at the places js of the frame around -/
def Cx.comp (X : Cx) (scope : Scope) (own : List Str) (js : List Nat) (cl : List (Str × Addr)) (s : Shared) (H : Hp) (C : Addr) (fp : List Addr) : Cx :=
  { prog := X.prog, w := X.w, K := X.K, mg := X.mg, base := X.base, A := X.A, N := own ++ js.map (fun j => X.N.getD j ""), s₀ := s, H₀ := H, env := compEnvC scope cl C X.env, outer := X.stack, stack := X.stack, ex := fp,
    fn := fun _ => false, calm := X.calm, pn := [], xe := fun _ _ => False }
def pick (n : Nat) (js : List Nat) (σ : St) : St := List.replicate n none ++ js.map fun j => (σ[j]?).join
def Wk (σ σ' : St) : Prop := σ.length = σ'.length ∧ ∀ (i : Nat) v, σ[i]? = some (some v) → σ'[i]? = some (some v)
theorem Wk.refl (σ : St) : Wk σ σ := ⟨rfl, fun _ _ h => h⟩
theorem Wk.set {n : Nat} {js : List Nat} {σ σ' : St} {i : Nat} {v : Option V} (h : Wk (pick n js σ) σ') (hi : i < n) : Wk (pick n js σ) (σ'.set i v) := by
  refine ⟨by rw [List.length_set]; exact h.1, fun j u q => ?_⟩
  by_cases e : i = j
  · subst e
    unfold pick at q
    rw [List.getElem?_append_left (by simpa using hi), List.getElem?_replicate] at q
    split at q <;> cases q
  · rw [List.getElem?_set_ne e]; exact h.2 j u q

/-- what the scope table of the comprehension must say (all by decide) -/
structure CompScopeN (sc : Scope) (N : List Str) (scope : Scope) (js : List Nat) : Prop where
  kind : scope.kind = .function
  cell : ∀ x ∈ scope.names, x.2 ≠ .cell
  names : ∀ x ∈ scope.names, x.2 = .local → scope.names.lookup x.1 = some .local
  free : ∀ x ∈ scope.names, x.2 = .free → sc.names.lookup x.1 = some .cell ∨ sc.names.lookup x.1 = some .free
  js : ∀ j ∈ js, scope.names.lookup (N.getD j "") ≠ some .local
structure CompScope (X : Cx) (scope : Scope) (own : List Str) (js : List Nat) : Prop where
  kind : scope.kind = .function
  cell : ∀ x ∈ scope.names, x.2 ≠ .cell
  names : ∀ x ∈ scope.names, x.2 = .local → scope.names.lookup x.1 = some .local
  free : ∀ x ∈ scope.names, x.2 = .free → X.env.kindOf x.1 = some .cell ∨ X.env.kindOf x.1 = some .free
  js : ∀ j ∈ js, scope.names.lookup (X.N.getD j "") ≠ some .local

section
variable {X : Cx} {scope : Scope} {own : List Str} {js : List Nat}
theorem CompScopeN.cs {sc : Scope} {N : List Str} (S : CompScopeN sc N scope js) (h1 : X.env.scope = sc) (h2 : X.N = N) : CompScope X scope own js := by
  subst h1 h2
  exact ⟨S.kind, S.cell, S.names, S.free, S.js⟩

theorem comp_start {pins : List (Addr × Obj)} {σ : St} {H : Hp} {s : Shared} {cl : List (Str × Addr)} {fp : List Addr} {h1 : Heap} {C : Addr} {m : Str → Option Value} {o : Obj} {t1 : Nat} (S : CompScope X scope own js) (I : Inv X pins σ H s)
    (hf : ∀ b ∈ fp, FpOk X pins H b ∧ b < s.heap.objs.size)
    (hcl : ∀ x c, cl.lookup x = some c → X.env.cells.lookup x = some c) (hcl2 : ∀ n, (n, NameKind.free) ∈ scope.names → ∃ c, cl.lookup n = some c)
    (hC : @Eq Nat C (s.heap.objs.size + 1)) (hns : h1.Ns C m) (hk : ∀ b o, s.heap.get? b = some o → h1.get? b = some o) (hn : h1.get? s.heap.objs.size = some { cls := .type "list", dict := none, data := .seq ([] : List Value).toArray }) :
    Inv (X.comp scope own js cl s H C fp) [] (pick own.length js σ) (upd H s.heap.objs.size (.lst [])) { s with heap := h1, toks := t1 } := by
  have below : ∀ b, b < s.heap.objs.size → b ≠ C ∧ b ≠ s.heap.objs.size := fun b hb => ⟨Nat.ne_of_lt (Nat.lt_of_lt_of_eq (Nat.lt_succ_of_lt hb) hC.symm), Nat.ne_of_lt hb⟩
  have kinds : ∀ x, ((X.comp scope own js cl s H C fp).env.kindOf x = some .cell ∨ (X.comp scope own js cl s H C fp).env.kindOf x = some .free) → (x, NameKind.free) ∈ scope.names := fun x hx => by
    have hx : (relabel scope X.env).names.lookup x = some .cell ∨ (relabel scope X.env).names.lookup x = some .free := hx
    rcases hx with hx | hx
    · obtain ⟨k, q1, q2⟩ := relabel_lookup hx
      rcases q2 with q2 | ⟨q2, _⟩
      · exact absurd q2.symm (S.cell _ (PySem.mem_of_lookup q1))
      · exact q2 ▸ PySem.mem_of_lookup q1
    · obtain ⟨k, q1, q2⟩ := relabel_lookup hx
      rcases q2 with q2 | ⟨_, q2⟩
      · exact q2 ▸ PySem.mem_of_lookup q1
      · cases q2
  have hCle : s.heap.objs.size ≤ C := Nat.le_of_lt (Nat.lt_of_lt_of_eq (Nat.lt_succ_self _) hC.symm)
  have hCne : C ≠ s.heap.objs.size := Nat.ne_of_gt (Nat.lt_of_lt_of_eq (Nat.lt_succ_self _) hC.symm)
  have accn : H s.heap.objs.size = none := I.hok.fresh (Nat.le_refl _)
  refine ⟨⟨I.ok.mod, S.kind, I.ok.glob, I.ok.blt, ?_, fun x y c e1 e2 => I.ok.inj x y c (hcl x c e1) (hcl y c e2), fun x hx => hcl2 x (kinds x hx), fun x c e => ?_, I.ok.hd, I.ok.frames, .inl rfl, fun b hb => ?_, I.bs, Nat.le_trans I.ok.bsz I.sz, fun b o e hb => ?_, fun b hb => ?_, I.stack, I.stkFree⟩,
    rfl, I.bare, ?_, ⟨m, hns, fun i x v e1 e2 e3 => ?_⟩, fun x c e => ?_, ?_, fun x c e => ?_, fun p hp => absurd (show p ∈ ([] : List (Addr × Obj)) from hp) (by simp), ?_, ?_⟩
  · exact hCle
  · cases e
  · obtain ⟨⟨f0, f1, f2, f3, f4, f5⟩, lt⟩ := hf b hb
    exact ⟨(below b lt).1, fun x c e => f4 x c (hcl x c e)⟩
  · obtain ⟨⟨f0, f1, f2, f3, f4, f5⟩, lt⟩ := hf b hb
    rcases f3 with z | z
    · exact I.ok.noex b o e z
    · exact Nat.lt_irrefl _ (Nat.lt_of_lt_of_le (Heap.lt_size e) (Nat.le_trans I.ok.bsz z))
  · obtain ⟨⟨f0, f1, f2, f3, f4, f5⟩, lt⟩ := hf b hb
    exact fun z => (List.mem_cons.mp (I.stkSub b z)).elim f1 f2
  · exact Un.laid hk (Nat.le_refl _) accn
  · -- a visible name of the frame around
    have hi : ¬ i < own.length := fun hi => by
      unfold pick at e2
      rw [List.getElem?_append_left (by simpa using hi), List.getElem?_replicate] at e2
      split at e2 <;> cases e2
    unfold pick at e2
    rw [List.getElem?_append_right (by simpa using hi), List.length_replicate] at e2
    have e1 : (own ++ js.map (fun j => X.N.getD j ""))[i]? = some x := e1
    rw [List.getElem?_append_right (by omega)] at e1
    rw [List.getElem?_map] at e1 e2
    cases ej : js[i - own.length]? with
    | none => rw [ej] at e1; cases e1
    | some j =>
      rw [ej] at e1 e2
      have e1 : X.N.getD j "" = x := Option.some.inj e1
      have e2 : (σ[j]?).join = some v := Option.some.inj e2
      have e2' : σ[j]? = some (some v) := by
        cases q : σ[j]? with
        | none => rw [q] at e2; cases e2
        | some o => rw [q] at e2; have : o = some v := e2; rw [this]
      have hj : j < X.N.length := by
        have := (List.getElem?_eq_some_iff.mp e2').1
        rw [I.len] at this; exact this
      have e1' : X.N[j]? = some x := by
        rw [← e1, List.getD_eq_getElem?_getD, List.getElem?_eq_getElem hj]; rfl
      have e3 : Vis (relabel scope X.env) x := e3
      have hfr : (x, NameKind.free) ∈ scope.names := by
        rcases e3 with e3 | e3 | e3
        · obtain ⟨k, q1, q2⟩ := relabel_lookup e3
          rcases q2 with q2 | ⟨_, q2⟩
          · subst q2
            exact absurd (e1 ▸ q1) (S.js j (List.mem_of_getElem? ej))
          · cases q2
        · exact kinds x (.inl e3)
        · exact kinds x (.inr e3)
      have hkind := S.free _ hfr rfl
      obtain ⟨m0, hn0, hl0⟩ := I.loc
      have hv : Vis X.env.scope x := by
        rcases hkind with z | z
        · exact .inr (.inl z)
        · exact .inr (.inr z)
      obtain ⟨u, r, lk⟩ := hl0 j x v e1' e2' hv
      refine ⟨u, r, ?_⟩
      rcases lk with ⟨z, _⟩ | ⟨_, c, ec, hc⟩
      · rcases hkind with q | q <;> (rw [z] at q; cases q)
      · obtain ⟨c', ec'⟩ := hcl2 x hfr
        have : c' = c := by have := hcl x c' ec'; rw [ec] at this; cases this; rfl
        subst this
        refine .inr ⟨?_, c', ec', ?_⟩
        · rcases e3 with e3 | e3 | e3
          · obtain ⟨k, q1, q2⟩ := relabel_lookup e3
            rcases q2 with q2 | ⟨_, q2⟩
            · subst q2
              exact absurd (e1 ▸ q1) (S.js j (List.mem_of_getElem? ej))
            · cases q2
          · exact .inl e3
          · exact .inr e3
        · obtain ⟨oc, hoc, hd⟩ := hc
          exact ⟨oc, hk _ _ hoc, hd⟩
  · obtain ⟨v, oc, hoc, hd⟩ := I.cell x c (hcl x c e)
    exact ⟨v, oc, hk _ _ hoc, hd⟩
  · show upd H s.heap.objs.size (.lst []) C = none
    rw [upd_ne hCne]
    exact I.hok.fresh hCle
  · obtain ⟨v, oc, hoc, hd⟩ := I.cell x c (hcl x c e)
    rw [upd_ne (below c (Heap.lt_size hoc)).2]
    exact I.freeC x c (hcl x c e)
  · refine I.hok.laid hk (Nat.le_refl _) ⟨by show 0 ≤ sizeLine; exact Nat.zero_le _, [], 0, .nil, ?_⟩
    exact hn
  · unfold pick
    show _ = (own ++ js.map (fun j => X.N.getD j "")).length
    rw [List.length_append, List.length_append, List.length_replicate, List.length_map, List.length_map]
end
end L2

namespace L2
open PySem PySem.Spec PyProof.Rows

/-- the tests of a clause -/
def PIfs (X : Cx) (ifs : List Expr) (t : TT) : Prop :=
  ∀ (pins : List (Addr × Obj)) (s : Shared) (σ : St) (H : Hp) (Q : Bool → Hp → Prop), Inv X pins σ H s → t σ H Q →
    wpAny (model X.prog X.w) X.A (forIn ifs true fun c r => if r = true then do let ok ← isTrue c X.env (eval c X.env); pure (ForInStep.yield ok) else pure (ForInStep.yield r)) (TP X pins σ Q) X.xe s
def tYes : TT := fun _ H Q => Q true H
theorem pifs_nil {X : Cx} : PIfs X [] tYes := fun _ _ _ H _ I h => wpAny_tests_nil ⟨H, I, h⟩
theorem pifs_one {X : Cx} {c : Expr} {t : TT} (h : PT X c t) : PIfs X [c] t := fun pins s σ H Q I hw => wpAny_tests_one (h pins s σ H Q I hw)

/-- the reading of a comprehension; acc: the new list; W: by the turn and a measure -/
def tCompR (n : Nat) (js : List Nat) (g : TG) (c : TT) (te : TE) (J : It) (σ : St) (H1 : Hp) (Q : VK) : Prop :=
  ∀ acc, H1 acc = none → ∃ W : Nat → Nat → Hp → Prop, (∃ m, W 0 m (upd H1 acc (.lst []))) ∧ ∀ i m H, W i m H →
    (J.stop i H ∧ Q (.ref acc) H) ∨
    (J.go i H ∧ ∀ x H', J.yld i H x H' → g x (pick n js σ) H' fun σ2 H2 => Wk (pick n js σ) σ2 ∧ c σ2 H2 fun b H3 =>
      if b = true then te σ2 H3 fun y H4 => ∃ ys, H4 acc = some (.lst ys) ∧ ys.length < sizeLine ∧ ∃ m', m' < m ∧ W (i + 1) m' (upd H4 acc (.lst (ys ++ [y])))
      else ∃ m', m' < m ∧ W (i + 1) m' H3)
def tComp (n : Nat) (js : List Nat) (wi : TI) (g : TG) (c : TT) (te : TE) : TE := fun σ H Q => wi σ H fun J H1 => tCompR n js g c te J σ H1 Q

section
variable {X : Cx} {scope : Scope} {own : List Str} {js : List Nat} {tg iter elt : Expr} {ifs : List Expr} {pos : Pos} {wi : TI} {g : TG} {c : TT} {te : TE}

/-- behind the block: the frame around again -/
theorem comp_leave {pins : List (Addr × Obj)} {σ σ' : St} {H H' : Hp} {s s' : Shared} {cl : List (Str × Addr)} {fp : List Addr} {C : Addr} (I : Inv X pins σ H s) (hf : ∀ b ∈ fp, FpOk X pins H b)
    (J : Inv (X.comp scope own js cl s H C fp) [] σ' H' s') : Inv X pins σ H' s' :=
  I.call' (ch := fp) J.os J.base J.hok J.bare fun b hb => by
    obtain ⟨f0, f1, f2, f3, f4, f5⟩ := hf b hb
    exact ⟨f3, f1, f4, f5⟩
theorem comp_gone {pins : List (Addr × Obj)} {σ σ1 : St} {H H' : Hp} {s s' : Shared} {C : Addr} {h' : Heap} (I : Inv X pins σ H s) (hC : s.heap.objs.size ≤ C) (J : Inv X pins σ1 H' s') (hn : H' C = none) (hs : Heap.SameBut C s'.heap h') : Inv X pins σ1 H' { s' with heap := h' } := by
  obtain ⟨f0, f1, f2, f3, f4, f5⟩ := I.fpOk hC hn
  exact J.turned (t' := s'.toks) (fun b o hb e => (hs.2 b hb).trans e) f0 f1 f3 f4 f5

theorem comp_core {pins : List (Addr × Obj)} {σ : St} {H : Hp} {s : Shared} {cl : List (Str × Addr)} {fp : List Addr} {it : Addr} {tn : Nat → Heap → Prop} {J : It} {Q : VK} {E : Value → Shared → Prop} {RR : Value → Addr → Result → Shared → Prop}
    (hc : X.calm = true) (S : CompScope X scope own js) (I : Inv X pins σ H s) (T : Turn X.prog X.w X.K tg J fp it tn) (t0 : tn 0 s.heap) (hf : ∀ b ∈ fp, FpOk X pins H b)
    (hcl : ∀ x c, cl.lookup x = some c → X.env.cells.lookup x = some c) (hcl2 : ∀ n, (n, NameKind.free) ∈ scope.names → ∃ c, cl.lookup n = some c)
    (hg : ∀ cl s H C fp, PG (X.comp scope own js cl s H C fp) tg g) (hi : ∀ cl s H C fp, PIfs (X.comp scope own js cl s H C fp) ifs c) (he : ∀ cl s H C fp, PE (X.comp scope own js cl s H C fp) elt te)
    (q : tCompR own.length js g c te J σ H Q)
    (hRR : ∀ acc C H' s', s.heap.objs.size ≤ C → Inv (X.comp scope own js cl s H C fp) [] (pick own.length js σ) H' s' → Q (.ref acc) H' → RR (.ref acc) C (.ok .next) s') :
    wpAny (model X.prog X.w) X.A (newList []) (fun acc s3 => wpAny (model X.prog X.w) X.A (newFunctionEnv scope X.env.globals cl [] X.env.qual none .none (some X.env)) (fun cenv s4 =>
      codeAny (model X.prog X.w) X.A (.compStart (.ListComp elt [⟨tg, iter, ifs, 0⟩] scope pos) 0 (.ref it) acc { cenv with scope := relabel scope X.env }) (RR acc cenv.locals) s4) E s3) E s := by
  refine wpAny_newObj_type (wpAny_newFunctionEnv S.cell (by intro y hy; simp at hy) (fun h1 hns1 hsb1 => ?_) S.kind)
  dsimp only at hns1 hsb1 ⊢
  generalize hH2 : s.heap.push { cls := .type "list", dict := none, data := .seq ([] : List Value).toArray } = H2 at hns1 hsb1 ⊢
  have hC : @Eq Nat H2.objs.size (s.heap.objs.size + 1) := by rw [← hH2, Heap.size_push]
  have hDC : s.heap.objs.size ≠ H2.objs.size := by rw [hC]; exact Nat.ne_of_lt (Nat.lt_succ_self _)
  have hCle : s.heap.objs.size ≤ H2.objs.size := by rw [hC]; exact Nat.le_succ _
  have old : ∀ b o, s.heap.get? b = some o → h1.get? b = some o := fun b o e => hsb1.extBut b o (by
    have := Heap.lt_size e
    exact Nat.ne_of_lt (Nat.lt_of_lt_of_le this hCle)) (Heap.get?_push_of_some _ (hH2 ▸ Heap.get?_push_of_some _ e))
  have hacc : h1.get? s.heap.objs.size = some { cls := .type "list", dict := none, data := .seq ([] : List Value).toArray } := hsb1.extBut _ _ hDC (Heap.get?_push_of_some _ (hH2 ▸ Heap.get?_push_size _ rfl))
  have hfl : ∀ b ∈ fp, FpOk X pins H b ∧ b < s.heap.objs.size := fun b hb => ⟨hf b hb, by
    obtain ⟨o, e, _⟩ := T.obj 0 s.heap t0 b hb
    exact Heap.lt_size e⟩
  obtain ⟨W, ⟨m0, w0⟩, turn⟩ := q s.heap.objs.size (I.hok.fresh (Nat.le_refl _))
  have I1 := comp_start (t1 := s.toks + ([] : List (Str × Value)).length) (o := { cls := .type "list" , data := .seq #[] }) S I hfl hcl hcl2 hC hns1 old hacc
  have t1 : tn 0 h1 := T.keep 0 s.heap h1 t0 fun b _ o e => old b o e
  have stat : ∀ {pins' : List (Addr × Obj)} {H' : Hp}, (∀ b ∈ fp, H' b = none) → (∀ p ∈ pins', p.1 ∉ fp) → ∀ b ∈ fp, FpOk (X.comp scope own js cl s H H2.objs.size fp) pins' H' b := fun hn hp b hb => by
    obtain ⟨⟨f0, f1, f2, f3, f4, f5⟩, lt⟩ := hfl b hb
    exact ⟨hn b hb, Nat.ne_of_lt (Nat.lt_of_lt_of_le lt hCle), fun z => (List.mem_cons.mp (I.stkSub b z)).elim f1 f2, .inl hb, fun x c e => f4 x c (hcl x c e), fun p hp' z => hp p hp' (z ▸ hb)⟩
  have fr0 : ∀ b ∈ fp, (upd H s.heap.objs.size (.lst [])) b = none := fun b hb => by
    obtain ⟨⟨f0, _⟩, lt⟩ := hfl b hb
    rw [upd_ne (Nat.ne_of_lt lt)]; exact f0
  have loop : ∀ s3 : Shared, s3 = { s with heap := h1, toks := s.toks + ([] : List (Str × Value)).length } →
      codeAny (model X.prog X.w) X.A (.compLoop (.ListComp elt [⟨tg, iter, ifs, 0⟩] scope pos) 0 (.ref it) (.ref s.heap.objs.size) (compEnvC scope cl H2.objs.size X.env)) (RR (.ref s.heap.objs.size) H2.objs.size) s3 := by
    rintro s3 rfl
    refine compLoop_any (fun n s' => ∃ i H', Inv (X.comp scope own js cl s H H2.objs.size fp) [] (pick own.length js σ) H' s' ∧ tn i s'.heap ∧ (∀ b ∈ fp, H' b = none) ∧ W i n H') ?_ m0 ⟨0, _, I1, t1, fr0, w0⟩
    rintro n s4 ⟨i, H4, I4, st4, fr4, w4⟩
    have noP : ∀ p ∈ ([] : List (Addr × Obj)), p.1 ∉ fp := fun p hp => nomatch hp
    rcases turn i n H4 w4 with ⟨stop, qn⟩ | ⟨go, step⟩
    · refine thn (T.done (X.comp scope own js cl s H H2.objs.size fp) rfl rfl rfl hc i [] s4 _ H4 (fun _ _ => False) I4 (stat fr4 noP) st4 stop) fun r s5 ⟨hr, I5⟩ => ?_
      subst hr
      exact hRR _ _ H4 s5 hCle I5 qn
    · refine thn (T.item (X.comp scope own js cl s H H2.objs.size fp) rfl rfl rfl hc i [] s4 _ H4 (fun _ _ => False) I4 (stat fr4 noP) st4 go) fun r s5 ⟨u, hr, h5⟩ => ?_
      subst hr
      refine thn h5 fun _ s6 ⟨x, H6, I6, r6, y6, st6, fr6⟩ => ?_
      have I6' := I6.pinned (stat fr6 noP) (T.obj _ _ st6)
      have again : ∀ {σ7 : St} {H7 : Hp} {s7 : Shared} {m' : Nat}, Wk (pick own.length js σ) σ7 → Inv (X.comp scope own js cl s H H2.objs.size fp) ([] ++ pinsAt fp s6.heap) σ7 H7 s7 → m' < n → W (i + 1) m' H7 →
          ∃ m, m < n ∧ ∃ i H', Inv (X.comp scope own js cl s H H2.objs.size fp) [] (pick own.length js σ) H' s7 ∧ tn i s7.heap ∧ (∀ b ∈ fp, H' b = none) ∧ W i m H' := fun {σ7 H7 s7 m'} wk I7 hm w7 => by
        refine ⟨m', hm, i + 1, H7, (I7.unpinned).weak wk.1 wk.2, T.keep _ _ _ st6 fun b hb o e => (I7.pin (b, o) (List.mem_append_right _ (List.mem_append_right _ (mem_pinsAt hb e)))).1, fun b hb => ?_, w7⟩
        obtain ⟨o, e, d⟩ := T.obj _ _ st6 b hb
        exact (I7.pin (b, o) (List.mem_append_right _ (List.mem_append_right _ (mem_pinsAt hb e)))).2.1
      refine thn (hg cl s H H2.objs.size fp _ s6 _ H6 x u _ I6' r6 (step x H6 y6)) fun _ s7 ⟨σ7, H7, I7, wk7, q7⟩ => ?_
      refine thn (hi cl s H H2.objs.size fp _ s7 σ7 H7 _ I7 q7) fun ok s8 ⟨H8, I8, q8⟩ => ?_
      cases ok with
      | false =>
        obtain ⟨m', hm, w8⟩ := (show ∃ m', m' < n ∧ W (i + 1) m' H8 from by simpa using q8)
        exact again wk7 I8 hm w8
      | true =>
        have q8 : te σ7 H8 fun y H4 => ∃ ys, H4 s.heap.objs.size = some (.lst ys) ∧ ys.length < sizeLine ∧ ∃ m', m' < n ∧ W (i + 1) m' (upd H4 s.heap.objs.size (.lst (ys ++ [y]))) := by simpa using q8
        refine thn (he cl s H H2.objs.size fp _ s8 σ7 H8 _ I8 q8) fun yv s9 ⟨y, H9, I9, r9, ys, hy, hz, m', hm, w9⟩ => ?_
        refine thn (mt_append (X := X.comp scope own js cl s H H2.objs.size fp) _ s9 σ7 H9 (.ref s.heap.objs.size) [y] (.ref s.heap.objs.size) [yv] (fun _ H' => W (i + 1) m' H') I9 rfl (.cons r9 .nil) ⟨_, ys, y, rfl, rfl, hy, hz, w9⟩) fun _ s10 ⟨_, H10, I10, _, w10⟩ => ?_
        exact again wk7 I10 hm w10
  exact codeAny_compStart_list (loop _ rfl) (T.self X.A 0 _ _ _ t1 (loop _ rfl))

theorem pe_comp {sc : Scope} {N : List Str} (own : List Str) (js : List Nat) (hsc : X.env.scope = sc) (hNN : X.N = N) (S0 : CompScopeN sc N scope js) (hc : X.calm = true) (hit : PI X tg iter wi)
    (hg : ∀ cl s H C fp, PG (X.comp scope own js cl s H C fp) tg g) (hi : ∀ cl s H C fp, PIfs (X.comp scope own js cl s H C fp) ifs c) (he : ∀ cl s H C fp, PE (X.comp scope own js cl s H C fp) elt te)
    (hs : ∀ x, foldedSetIterable iter X.env x = pure x := by intro _; rfl) : PE X (.ListComp elt [⟨tg, iter, ifs, 0⟩] scope pos) (tComp own.length js wi g c te) := by
  intro pins s σ H Q I h
  have S : CompScope X scope own js := S0.cs hsc hNN
  obtain ⟨cl, hcl0, hcl, hcl2⟩ := closure_ok (env := X.env) (scope := scope) fun n hn => I.ok.has n (S.free _ hn rfl)
  rw [eval_ListComp]
  refine wpAny_comprehension_free (use := none) rfl hs hcl0 S.kind S.names (thn (hit pins s σ H _ I h) fun xv s1 h1 => thn h1 fun itv s2 h2 => ?_)
  obtain ⟨it, fp, tn, J, H2, e, I2, T, st2, f2, q2⟩ := h2
  subst e
  refine comp_core (RR := fun acc C => compPost (model X.prog X.w) X.A X.xe none (EP X pins σ Q) acc C) hc S I2 T st2 f2 hcl hcl2 hg hi he q2 fun acc C H' s' hC J' q' => ?_
  obtain ⟨m, hn, _⟩ := J'.loc
  exact ⟨m, hn, fun h' hs' => ⟨.ref acc, H', comp_gone I2 hC (comp_leave I2 f2 J') J'.free hs', rfl, q'⟩⟩

end
end L2

namespace L2
open PySem PySem.Spec PyProof.Rows

/-! ### enumerate over a list, its pairs taken apart by the target -/
def Ite (K : PySem.W.Frag) (a : Addr) : It :=
  ⟨fun i H => ∃ xs x, SqL K H a xs ∧ xs[i]? = some x, fun i H x H' => ∃ p v, x = .ref p ∧ H p = none ∧ H' = upd H p (.tup [.int (i : Nat), v]) ∧ ∀ xs, SqL K H a xs → xs[i]? = some v, fun i H => ∃ xs, SqL K H a xs ∧ xs.length ≤ i⟩
theorem turn_enum {P : Program} {w : World} {K : PySem.W.Frag} {es : List Expr} {k : _} {pos : Pos} (a e it : Addr) (hne : e ≠ it) : Turn P w K (.Tuple es k pos) (Ite K a) [e, it] e (fun i h => (∃ old, IsEnum h e it (i : Nat) old) ∧ h.IsListIter it a i) where
  mem := by simp
  obj := fun i h st b hb => by
    obtain ⟨⟨old, he⟩, o, e1, c, d⟩ := st
    rcases List.mem_cons.mp hb with q | q
    · subst q
      exact ⟨_, he, fun v z => by
        have z' : Data.fields _ = Data.cell v := z
        cases z'⟩
    · have q : b = it := by simpa using q
      subst q
      exact ⟨o, e1, fun v z => by rw [d] at z; cases z⟩
  keep := fun i h h' st k => ⟨by obtain ⟨⟨old, he⟩, _⟩ := st; exact ⟨old, k e (by simp) _ he⟩, st.2.at fun o q => k it (by simp) o q⟩
  item := by
    intro X hP hw hK hc i pins s σ H E I hf st hg
    subst hP hw hK
    obtain ⟨xs, x, hq, hx⟩ := hg
    obtain ⟨its, rv, p, hz⟩ := I.list hq
    obtain ⟨u, hu, ru⟩ := rv.get hx
    obtain ⟨⟨old, he⟩, hit⟩ := st
    refine wpAny_pyNext_enum_item he hit p.isList (x := u) (by simpa using hu) hne fun h' ho hit' ht hsz hk => ?_
    refine ⟨_, rfl, wpAny_letOwnedTupleGo_enum ho fun h2 he2 hs2 => ?_⟩
    have hTe : s.heap.objs.size ≠ e := Nat.ne_of_gt (Heap.lt_size he)
    have hk2 : ∀ b o, b ∉ [e, it] → s.heap.get? b = some o → h2.get? b = some o := fun b o hb q => (hs2.2 b (fun z => hb (by simp [z]))).trans (hk b o (fun z => hb (by simp [z])) (fun z => hb (by simp [z])) q)
    have hT : h2.get? s.heap.objs.size = some { cls := .type "tuple", data := .seq #[.int i s.toks, u] } := (hs2.2 _ hTe).trans ht
    have hTn : H s.heap.objs.size = none := I.hok.fresh (Nat.le_refl _)
    have ne : ∀ b o, H b = some o → b ≠ s.heap.objs.size := fun b o q z => by rw [z, hTn] at q; cases q
    have nch : ∀ b o, H b = some o → b ∉ [e, it] := fun b o q z => by rw [(hf b z).1] at q; cases q
    have up : ∀ b o, H b = some o → upd H s.heap.objs.size (.tup [.int (i : Nat), x]) b = some o := fun b o q => by rw [upd_ne (ne b o q)]; exact q
    have I1 : Inv X pins σ (upd H s.heap.objs.size (.tup [.int (i : Nat), x])) { s with heap := h2, toks := s.toks + 1 } := by
      refine I.step (g' := s.gens) (d' := s.drawn) (ch := [e, it]) (fun b hb => ?_) (fun b o _ _ hb q _ => hk2 b o hb q) (fun b o _ _ hb q _ => ⟨o.slots, hk2 b o hb q⟩) (fun b o hb q n => ?_) (fun b o hb q => ⟨o, hk2 b o hb q⟩)
        (fun b xs q => up b _ q) (fun b o u q => up b _ q) (fun b ps q => ⟨#[], by rw [up b _ q]; simp⟩) (fun m hm => ?_) (fun b u q => ?_) I.bare
      · obtain ⟨f0, f1, f2, f3, f4, f5⟩ := hf b hb
        exact ⟨f3, f1, f4, f5⟩
      · rw [upd_ne (Nat.ne_of_lt (Heap.lt_size q))]; exact n
      · obtain ⟨o, es, ep, ho, r⟩ := hm
        exact ⟨o, es, ep, hk2 _ o (fun z => (hf _ z).2.1 rfl) ho, r⟩
      · by_cases hb : b = s.heap.objs.size
        · subst hb
          rw [upd_same] at q
          cases q
          exact ⟨by show 2 ≤ sizeLine; decide, [.int i s.toks, u], .cons ⟨_, rfl⟩ (.cons ru .nil), _, hT, rfl, 0, rfl⟩
        · rw [upd_ne hb] at q
          refine (I.hok b u q).stay (fun c v hc q' => hk2 c v ?_ q') (fun c q' => up c _ q') fun c xs q' => up c _ q'
          rcases hc with z | z
          · subst z; exact nch _ _ q
          · exact nch _ _ z
    refine ⟨.ref s.heap.objs.size, _, I1, rfl, ⟨_, x, rfl, hTn, rfl, fun ys hy => by rw [I.list_inj hy hq]; exact hx⟩, ⟨⟨u, by simpa using he2⟩, ?_⟩, fun b hb => ?_⟩
    · exact hit'.extBut hs2.extBut (Ne.symm hne)
    · have hb' : b ≠ s.heap.objs.size := by
        rcases List.mem_cons.mp hb with q | q
        · rw [q]; exact hTe.symm
        · have q : b = it := by simpa using q
          obtain ⟨o, q1, _⟩ := hit
          rw [q]; exact Nat.ne_of_lt (Heap.lt_size q1)
      rw [upd_ne hb']; exact (hf b hb).1
  done := by
    intro X hP hw hK hc i pins s σ H E I hf st hg
    subst hP hw hK
    obtain ⟨xs, hq, hx⟩ := hg
    obtain ⟨its, rv, p, hz⟩ := I.list hq
    obtain ⟨⟨old, he⟩, hit⟩ := st
    obtain ⟨f0, f1, f2, f3, f4, f5⟩ := hf it (by simp)
    have hl := rv.length
    exact wpAny_pyNext_enum_end (I.ok.hd hc) he hit p.isList (by simp; omega) fun h' eb => ⟨rfl, I.turned (t' := s.toks) (fun b o hb e => eb b o hb e) f0 f1 f3 f4 f5⟩
  self := fun _ _ _ _ _ st h => by
    obtain ⟨⟨old, he⟩, _⟩ := st
    exact wpAny_pyIter_enum he h

section
variable {X : Cx}
def iEnum (K : PySem.W.Frag) (ta : TA) : TI := fun σ H R => ta σ H fun vs H1 => ∃ a, vs = [.ref a] ∧ (∃ xs, SqL K H1 a xs) ∧ R (Ite K a) H1
theorem pi_enum {es : List Expr} {k : _} {tpos : Pos} {a : Expr} {ta : TA} {p pos : Pos} (hg : Gl X "enumerate") (hm : X.mg "enumerate" = none) (ha : PA X [a] ta) (hs : starEach [a] X.env = [(false, eval a X.env)] := by rfl) : PI X (.Tuple es k tpos) (.Call (.Name "enumerate" p) [a] [] pos) (iEnum X.K ta) := by
  intro pins s σ H R I h
  refine Call_ (ld_blt I hg hm boot_enumerate (PyProof.Rows.callWith_type1 (thn (ha pos pins s σ H _ I h) fun us s1 ⟨vs, H1, I1, r1, q1⟩ => ?_) hs rfl))
  obtain ⟨l, e, ⟨xs, hq⟩, q⟩ := q1
  subst e
  obtain ⟨u, rfl, ru⟩ := r1.one
  cases ru
  obtain ⟨its, rv, pl, hz⟩ := I1.list hq
  refine call_enumerate_list pl.isList fun h' he hit hsz hk => wpAny_pyIter_enum (i := 0) (old := .none) (by simpa using he) ?_
  have I2 : Inv X pins σ H1 { s1 with heap := h' } := I1.kept (t' := s1.toks) hk
  refine ⟨s1.heap.objs.size + 1, [s1.heap.objs.size + 1, s1.heap.objs.size], _, _, H1, rfl, I2, turn_enum l _ _ (Nat.succ_ne_self _), ⟨⟨.none, by simpa using he⟩, hit⟩, fun b hb => ?_, q⟩
  have hb' : s1.heap.objs.size ≤ b := by
    rcases List.mem_cons.mp hb with q | q
    · rw [q]; exact Nat.le_succ _
    · have q : b = s1.heap.objs.size := by simpa using q
      rw [q]; exact Nat.le_refl _
  exact I1.fpOk hb' (I1.hok.fresh hb')

/-! ### range(lo, hi, 2) and the like -/
def Itr3 (lo c : Int) (n : Nat) : It := ⟨fun i _ => i < n, fun i H x H' => H' = H ∧ x = .int (lo + i * c), fun i _ => n ≤ i⟩
theorem turn_range3 {P : Program} {w : World} {K : PySem.W.Frag} {tg : Expr} (it : Addr) (lo c : Int) (n : Nat) : Turn P w K tg (Itr3 lo c n) [it] it (fun i h => IsRangeIter h it (lo + (i : Nat) * c) ((n : Int) - (i : Nat)) c) where
  mem := by simp
  obj := fun i h st b hb => by
    have e : b = it := by simpa using hb
    subst e
    exact ⟨_, st, fun v z => by
      have z' : Data.fields _ = Data.cell v := z
      cases z'⟩
  keep := fun i h h' st k => k it (by simp) _ st
  item := by
    intro X hP hw hK hc i pins s σ H E I hf st hg
    subst hP hw hK
    obtain ⟨f0, f1, f2, f3, f4, f5⟩ := hf it (by simp)
    have W := Walks.range (prog := X.prog) (w := X.w) (I.ok.hd hc) it lo c n
    refine W.item i s _ _ hg st fun v h' tk hv st' kk => ?_
    obtain ⟨t, rfl⟩ := hv
    have I1 : Inv X pins σ H { s with heap := h', toks := tk } := I.turned (fun b o hb e => kk b o (by simpa using hb) e) f0 f1 f3 f4 f5
    exact ⟨_, rfl, go_of (s := { s with heap := h', toks := tk }) (n := "range_iterator") st' rfl rfl (by decide) ⟨.int (lo + i * c), H, I1, ⟨t, rfl⟩, ⟨rfl, rfl⟩, st', fun b hb => (hf b hb).1⟩⟩
  done := by
    intro X hP hw hK hc i pins s σ H E I hf st hg
    subst hP hw hK
    obtain ⟨f0, f1, f2, f3, f4, f5⟩ := hf it (by simp)
    exact wpAny_pyNext_range_end (I.ok.hd hc) st (by have : n ≤ i := hg; omega) fun h' eb => ⟨rfl, I.turned (t' := s.toks) (fun b o hb e => eb b o hb e) f0 f1 f3 f4 f5⟩
  self := fun _ _ _ _ _ st h => wpAny_pyIter_rangeiter st h
def iRng3 (ta : TA) : TI := fun σ H R => ta σ H fun vs H1 => ∃ (i j c : Int), vs = [.int i, .int j, .int c] ∧ (c ≠ 0 ∧ c.natAbs < 1073741824) ∧ Builtin.Range.small i j c = true ∧ 0 ≤ Builtin.Range.rangeSize i j c ∧ R (Itr3 i c (Builtin.Range.rangeSize i j c).toNat) H1
theorem pi_range3 {tg a b c : Expr} {ta : TA} {p pos : Pos} (hg : Gl X "range") (hm : X.mg "range" = none) (ha : PA X [a, b, c] ta) (hs : starEach [a, b, c] X.env = [(false, eval a X.env), (false, eval b X.env), (false, eval c X.env)] := by rfl) (hs2 : starEach [b, c] X.env = [(false, eval b X.env), (false, eval c X.env)] := by rfl) :
    PI X tg (.Call (.Name "range" p) [a, b, c] [] pos) (iRng3 ta) := by
  intro pins s σ H R I h
  refine Call_ (ld_blt I hg hm boot_range (PyProof.Rows.callWith_type1 (thn (ha pos pins s σ H _ I h) fun us s1 ⟨vs, H1, I1, r1, q1⟩ => ?_) (by rw [hs, hs2]) (by rw [hs2]; rfl)))
  obtain ⟨i, j, c, e, ⟨hc0, hcs⟩, hsm, hrs, q⟩ := q1
  subst e
  cases r1 with
  | cons r rr =>
    cases rr with
    | cons r' rr =>
      cases rr with
      | cons r'' rr =>
        cases rr
        obtain ⟨t, rfl⟩ := r
        obtain ⟨t', rfl⟩ := r'
        obtain ⟨t'', rfl⟩ := r''
        refine call_range_3 hc0 ?_ (.inl (PyProof.noPylong_small hcs))
        refine wpAny_pyIter_range (IsRange.new ..) hsm ?_
        have I2 : Inv X pins σ H1 { s1 with heap := s1.heap.push { cls := .type "range", data := .fields #[.int i t, .int j t', .int c t''] }, toks := s1.toks } := I1.kept fun b o e => Heap.get?_push_of_some _ e
        refine ⟨(s1.heap.push { cls := .type "range", data := .fields #[.int i t, .int j t', .int c t''] }).objs.size, [(s1.heap.push { cls := .type "range", data := .fields #[.int i t, .int j t', .int c t''] }).objs.size], _, _, H1, rfl,
          I2.kept (t' := s1.toks) fun b o e => Heap.get?_push_of_some _ e, turn_range3 _ i c (Builtin.Range.rangeSize i j c).toNat, ?_, fun b hb => ?_, q⟩
        · have e1 : i + ((0 : Nat) : Int) * c = i := by simp
          have e2 : (((Builtin.Range.rangeSize i j c).toNat : Nat) : Int) - ((0 : Nat) : Int) = Builtin.Range.rangeSize i j c := by omega
          show IsRangeIter _ _ (i + ((0 : Nat) : Int) * c) ((((Builtin.Range.rangeSize i j c).toNat : Nat) : Int) - ((0 : Nat) : Int)) c
          rw [e1, e2]
          exact Heap.get?_push_size _ rfl
        · have e : b = (s1.heap.push { cls := .type "range", data := .fields #[.int i t, .int j t', .int c t''] }).objs.size := by simpa using hb
          subst e
          exact I2.fpOk (Nat.le_refl _) (I2.hok.fresh (Nat.le_refl _))

/-! ### data: what a value is, to its depth -/
mutual
inductive DR (K : PySem.W.Frag) (H : Hp) : V → PyData → Prop
  | non : DR K H .non .none
  | bl (b : Bool) : DR K H (.bl b) (.bool b)
  | int (i : Int) : DR K H (.int i) (.int i)
  | str (x : Str) : DR K H (.str x) (.str x)
  | lst {a : Addr} {xs : List V} {ds : List PyData} : SqL K H a xs → DRs K H xs ds → DR K H (.ref a) (.list ds)
  | tup {a : Addr} {xs : List V} {ds : List PyData} : SqT K H a xs → DRs K H xs ds → DR K H (.ref a) (.tuple ds)
inductive DRs (K : PySem.W.Frag) (H : Hp) : List V → List PyData → Prop
  | nil : DRs K H [] []
  | cons {x : V} {d : PyData} {xs : List V} {ds : List PyData} : DR K H x d → DRs K H xs ds → DRs K H (x :: xs) (d :: ds)
end
mutual
theorem DR.reads {pins : List (Addr × Obj)} {σ : St} {H : Hp} {s : Shared} (I : Inv X pins σ H s) : ∀ {x : V} {d : PyData} {u : Value}, DR X.K H x d → RelV x u → ∃ as, Reads s.heap u d as
  | _, _, _, .non, r => by cases (show _ = Value.none from r); exact ⟨_, .none⟩
  | _, _, _, .bl b, r => by cases (show _ = Value.bool b from r); exact ⟨_, .bool b⟩
  | _, _, _, .int i, r => by obtain ⟨t, rfl⟩ := r; exact ⟨_, .int i t⟩
  | _, _, _, .str x, r => by obtain ⟨t, rfl⟩ := r; exact ⟨_, .str x t⟩
  | _, _, _, .lst (a := a) h hs, r => by
    cases (show _ = Value.ref a from r)
    obtain ⟨its, rv, p, hz⟩ := I.list h
    obtain ⟨o, h1, h2, n, h3⟩ := p.isList
    obtain ⟨as, ra⟩ := DRs.reads I hs rv
    exact ⟨_, .list h1 h2 h3 (by simpa using ra)⟩
  | _, _, _, .tup (a := a) h hs, r => by
    cases (show _ = Value.ref a from r)
    obtain ⟨its, rv, p, hz⟩ := I.tuple h
    obtain ⟨o, h1, h2, n, h3⟩ := p
    obtain ⟨as, ra⟩ := DRs.reads I hs rv
    exact ⟨_, .tuple h1 h2 h3 (by simpa using ra)⟩
theorem DRs.reads {pins : List (Addr × Obj)} {σ : St} {H : Hp} {s : Shared} (I : Inv X pins σ H s) : ∀ {xs : List V} {ds : List PyData} {us : List Value}, DRs X.K H xs ds → Vals xs us → ∃ as, ReadsAll s.heap us ds as
  | _, _, _, .nil, r => by cases r; exact ⟨_, .nil⟩
  | _, _, _, .cons h hs, r => by
    cases r with
    | cons r1 r2 =>
      obtain ⟨as, ra⟩ := DR.reads I h r1
      obtain ⟨bs, rb⟩ := DRs.reads I hs r2
      exact ⟨_, .cons ra rb⟩
end
open PySem.SeqAt in
def rEqD (K : PySem.W.Frag) (neg : Bool) : R2 := fun x y H Q => ∃ d e, DR K H x d ∧ DR K H y e ∧ shaped d = true ∧ shaped e = true ∧ Q (.bl (if neg then !PyData.eqv d e else PyData.eqv d e)) H
theorem op_eqD {k : Nat} (hr : Room k X.A) : OpR X (compareOp .Eq) (rEqD X.K false) := by
  intro pins s σ H x y v u Q I rx ry h
  obtain ⟨d, e, h1, h2, s1, s2, q⟩ := h
  obtain ⟨as, ra⟩ := h1.reads I rx
  obtain ⟨bs, rb⟩ := h2.reads I ry
  exact eq_dataH ra rb s1 s2 hr.units ⟨.bl (PyData.eqv d e), H, I, rfl, q⟩
theorem op_neD {k : Nat} (hr : Room k X.A) : OpR X (compareOp .NotEq) (rEqD X.K true) := by
  intro pins s σ H x y v u Q I rx ry h
  obtain ⟨d, e, h1, h2, s1, s2, q⟩ := h
  obtain ⟨as, ra⟩ := h1.reads I rx
  obtain ⟨bs, rb⟩ := h2.reads I ry
  exact ne_dataH ra rb s1 s2 hr.units ⟨.bl (!PyData.eqv d e), H, I, rfl, q⟩

/-! ### isinstance(x, T), T a built-in type -/
def rIsI (K : PySem.W.Frag) : List V → Hp → VK → Prop := fun xs H Q => ∃ x t T b, xs = [x, .ty T] ∧ TyOf K H x t ∧ PySem.W.kitOne K t (.type T) = some b ∧ Q (.bl b) H
theorem call_isinst : CallR X (.builtin "isinstance") (rIsI X.K) := by
  intro pins s σ H xs us Q I r h
  obtain ⟨x, t, T, b, rfl, ty, e, q⟩ := h
  obtain ⟨u, w', rfl, r1, r2⟩ := vals2 r
  cases (show w' = Value.type T from r2)
  exact isinst_ok I r1 ty e fun tk => ⟨.bl b, H, I.tok _, rfl, q⟩
theorem kit_ll (K : PySem.W.Frag) : PySem.W.kitOne K (.type "list") (.type "list") = some true := rfl
/-! ### all(xs), xs a list of truths -/
def rAll (K : PySem.W.Frag) : List V → Hp → VK → Prop := fun xs H Q => ∃ (p : Addr) (bs : List Bool), xs = [.ref p] ∧ SqL K H p (bs.map V.bl) ∧ Q (.bl (bs.all id)) H
theorem call_allB (hc : X.calm = true) : CallR X (.builtin "all") (rAll X.K) := by
  intro pins s σ H xs us Q I r h
  obtain ⟨p, bs, rfl, hq, q⟩ := h
  obtain ⟨u, rfl, ru⟩ := vals1 r
  cases (show u = Value.ref p from ru)
  obtain ⟨its, rv, pl, hz⟩ := I.list hq
  have hlen := rv.length
  rw [List.length_map] at hlen
  refine call_all_walk (wpAny_pyIter_list pl.isList ?_)
  have pne : p ≠ s.heap.objs.size := by
    obtain ⟨o, h1, _⟩ := pl.isList
    exact Nat.ne_of_lt (Heap.lt_size h1)
  have hI : (s.heap.push { cls := .type "list_iterator", data := .fields #[.ref p, .int 0 0] }).IsList p its.toArray := by
    obtain ⟨o, h1, h2⟩ := pl.isList
    exact ⟨o, Heap.get?_push_of_some _ h1, h2⟩
  refine ⟨_, _, _, its.toArray.size, _, _, fun i => bs.getD i false, rfl, Walks.list (A := X.A.in1) (I.ok.hd hc) s.heap.objs.size p pne its.toArray, ⟨⟨_, Heap.get?_push_size _ rfl, rfl, rfl⟩, hI⟩, ?_, fun h' tk hk => ?_⟩
  · intro i v s' Q' E' hv hQ'
    have hv' : its[i]? = some v := by simpa using hv
    have hi : i < its.length := (List.getElem?_eq_some_iff.mp hv').1
    obtain ⟨b, hb⟩ : ∃ b, bs[i]? = some b := ⟨bs[i]'(by omega), List.getElem?_eq_getElem (by omega)⟩
    have hm : (bs.map V.bl)[i]? = some (.bl b) := by rw [List.getElem?_map, hb]; rfl
    obtain ⟨u, hu, ru⟩ := rv.get hm
    rw [hv'] at hu
    cases hu
    cases (show v = Value.bool b from ru)
    have e : bs.getD i false = b := by rw [List.getD_eq_getElem?_getD, hb]; rfl
    have hQ2 : Q' (bs.getD i false) s' := hQ'
    rw [e] at hQ2
    exact wpAny_truthy_bool hQ2
  · have e : ((List.range its.toArray.size).all fun i => bs.getD i false) = bs.all id := by
      rw [List.size_toArray, ← hlen]
      rw [Bool.eq_iff_iff, List.all_eq_true, List.all_eq_true]
      constructor
      · intro z b hb
        obtain ⟨i, hi, e⟩ := List.mem_iff_getElem.mp hb
        have := z i (List.mem_range.mpr hi)
        rw [List.getD_eq_getElem?_getD, List.getElem?_eq_getElem hi, e] at this
        exact this
      · intro z i hi
        have hi := List.mem_range.mp hi
        rw [List.getD_eq_getElem?_getD, List.getElem?_eq_getElem hi]
        exact z _ (List.getElem_mem hi)
    rw [e]
    refine ⟨.bl (bs.all id), H, ?_, rfl, q⟩
    have I1 : Inv X pins σ H { s with heap := s.heap.push { cls := .type "list_iterator", data := .fields #[.ref p, .int 0 0] }, toks := s.toks } := I.kept fun b o e => Heap.get?_push_of_some _ e
    obtain ⟨f0, f1, f2, f3, f4, f5⟩ := I.fpOk (Nat.le_refl s.heap.objs.size) (I.hok.fresh (Nat.le_refl _))
    exact I1.turned (fun b o hb e => hk b o (by simpa using hb) e) f0 f1 f3 f4 f5
end

theorem Same.tup {K : PySem.W.Frag} {H H' : Hp} {a : Addr} {xs : List V} (e : Same H H') (h : SqT K H a xs) : SqT K H' a xs := by
  rcases h with (h | ⟨o, h⟩) | h
  · exact .inl (.inl (e _ _ h))
  · exact .inl (.inr ⟨o, e _ _ h⟩)
  · exact .inr h
mutual
theorem DR.same {K : PySem.W.Frag} {H H' : Hp} (e : Same H H') : ∀ {x : V} {d : PyData}, DR K H x d → DR K H' x d
  | _, _, .non => .non
  | _, _, .bl b => .bl b
  | _, _, .int i => .int i
  | _, _, .str x => .str x
  | _, _, .lst h hs => .lst (e.seq h) (DRs.same e hs)
  | _, _, .tup h hs => .tup (e.tup h) (DRs.same e hs)
theorem DRs.same {K : PySem.W.Frag} {H H' : Hp} (e : Same H H') : ∀ {xs : List V} {ds : List PyData}, DRs K H xs ds → DRs K H' xs ds
  | _, _, .nil => .nil
  | _, _, .cons h hs => .cons (DR.same e h) (DRs.same e hs)
end
theorem DRs.ints {K : PySem.W.Frag} {H : Hp} : ∀ ns : List Int, DRs K H (ns.map V.int) (ns.map PyData.int)
  | [] => .nil
  | n :: ns => .cons (.int n) (DRs.ints ns)
theorem same_new {H : Hp} {p : Addr} (h : H p = none) (o : HO) : Same H (upd H p o) := fun b u q => by rw [upd_ne (ne_of_none q h)]; exact q
end L2

namespace L2
open PySem PySem.Spec PyProof.Rows

/-! ### a def of the text with its promise, in one word -/
structure Dfn (P : Program) (w : World) (K : PySem.W.Frag) (mg : Str → Option Value) (base : Heap) (k : Nat) (x : Str) (ps : List Str) (sp : Sp) : Prop where
  ex : ∃ f fd, FnOk P w K mg base CX0 k f fd ps sp ∧ Binds K fd ps [] ∧ PySem.W.keepIn K (.ref f) = true ∧ mg x = some (.ref f)
section
variable {P : Program} {w : World} {K : PySem.W.Frag} {mg : Str → Option Value} {base : Heap}
theorem Dfn.mono {j k : Nat} {x : Str} {ps : List Str} {sp : Sp} (D : Dfn P w K mg base j x ps sp) (h : j ≤ k) : Dfn P w K mg base k x ps sp := by
  obtain ⟨f, fd, F, b, kp, m⟩ := D.ex
  exact ⟨f, fd, F.mono h, b, kp, m⟩
theorem Dfn.of {k : Nat} {x qual : Str} {st : Stmt} {f : Addr} {fd : FuncData} {N ps : List Str} {sp : Sp} (F : Fun K x qual st f fd) (b : Binds K fd ps []) (m : mg x = some (.ref f)) (S : FnScope N ps (defScope st)) (len : ∀ vs H Q E, sp vs H Q E → vs.length = ps.length)
    (hbody : ∀ (cdv : Value) (A : Around) (outer : List Env) (s : Shared) (H : Hp) (vs : List V) (Q : VK) (E : XK), Room k (A.deeper (envOfC qual (defScope st) s.heap.objs.size f cdv)) → sp vs H Q E →
      ∃ t, PSs (cxOf CX0 P w K mg base N qual (defScope st) f cdv A outer s H E).nox (defBody st) t ∧ t { nx := fun _ H' => Q .non H', rt := Q } (start N vs) H) : Dfn P w K mg base (k + 1) x ps sp :=
  ⟨f, fd, F.ok S len hbody, b, F.kp, m⟩
end
theorem pe_def {X : Cx} {k j : Nat} {x : Str} {ps : List Str} {sp : Sp} {e : Expr} {es : List Expr} {t : TA} {p pos : Pos} (D : Dfn X.prog X.w X.K X.mg X.base k x ps sp) (hr : Room j X.A) (hj : k ≤ j) (hg : Gl X x) (ha : PA X (e :: es) t)
    (hdb : (x == ("__debug__" : Str)) = false := by decide) (he : starEach (e :: es) X.env = (false, eval e X.env) :: starEach es X.env := by rfl) (hpl : (backTo pos (starEach es X.env)).any (·.1) = false := by rfl) :
    PE X (.Call (.Name x p) (e :: es) [] pos) (tCall sp [] E0 t) := by
  obtain ⟨f, fd, F, b, kp, m⟩ := D.ex
  exact pe_call F (hr.mono hj) hg m kp b .nil pass0 ha hdb he hpl

/-! ### comprehensions by what they come to: F i is the list behind i turns, nothing else changes but what is new -/
def CW (n : Nat) (acc : Addr) (Pv : Nat → List V → Hp → Prop) : Nat → Nat → Hp → Prop := fun i m H => m = n - i ∧ i ≤ n ∧ ∃ ys, H acc = some (.lst ys) ∧ Pv i ys H
def CSkip (n : Nat) (acc : Addr) (Pv : Nat → List V → Hp → Prop) (i : Nat) (H : Hp) : Prop := ∃ m', m' < n - i ∧ CW n acc Pv (i + 1) m' H
def CPut (n : Nat) (acc : Addr) (Pv : Nat → List V → Hp → Prop) (i : Nat) (y : V) (H : Hp) : Prop := ∃ ys, H acc = some (.lst ys) ∧ ys.length < sizeLine ∧ ∃ m', m' < n - i ∧ CW n acc Pv (i + 1) m' (upd H acc (.lst (ys ++ [y])))
def CP (H1 : Hp) (F : Nat → List V) : Nat → List V → Hp → Prop := fun i ys H => Same H1 H ∧ ys = F i
section
variable {n i : Nat} {acc : Addr} {H1 H H' : Hp} {F : Nat → List V} {y : V}
theorem cput (hlt : i < n) (hacc : H1 acc = none) (S : Same H1 H) (h0 : H acc = some (.lst (F i))) (s : Same H H') (e : F (i + 1) = F i ++ [y]) (hz : (F i).length < sizeLine) : CPut n acc (CP H1 F) i y H' :=
  ⟨F i, s acc _ h0, hz, n - (i + 1), by omega, rfl, hlt, F i ++ [y], upd_same, fun b o q => by
    rw [upd_ne (ne_of_none q hacc)]; exact s b o (S b o q), e.symm⟩
theorem cskip (hlt : i < n) (S : Same H1 H) (h0 : H acc = some (.lst (F i))) (s : Same H H') (e : F (i + 1) = F i) : CSkip n acc (CP H1 F) i H' :=
  ⟨n - (i + 1), by omega, rfl, hlt, F i, s acc _ h0, S.trans s, e.symm⟩
end
section
variable {K : PySem.W.Frag} {m : Nat} {js : List Nat} {g : TG} {c : TT} {te : TE} {σ : St} {H1 : Hp} {Q : VK}
theorem comp_list {a : Addr} {xs : List V} (hx : SqL K H1 a xs) (F : Nat → List V) (hF : F 0 = [])
    (turn : ∀ acc i x H, H1 acc = none → i < xs.length → xs[i]? = some x → Same H1 H → H acc = some (.lst (F i)) → g x (pick m js σ) H fun σ2 H2 => Wk (pick m js σ) σ2 ∧ c σ2 H2 fun b H3 => if b = true then te σ2 H3 fun y H4 => CPut xs.length acc (CP H1 F) i y H4 else CSkip xs.length acc (CP H1 F) i H3)
    (hQ : ∀ acc H, H1 acc = none → Same H1 H → H acc = some (.lst (F xs.length)) → Q (.ref acc) H) : tCompR m js g c te (Itl K a) σ H1 Q := by
  intro acc hacc
  refine ⟨CW xs.length acc (CP H1 F), ⟨_, rfl, Nat.zero_le _, [], upd_same, same_new hacc _, hF.symm⟩, ?_⟩
  rintro i m' H ⟨rfl, hi, ys, h0, S, rfl⟩
  have q := S.seq hx
  by_cases hlt : i < xs.length
  · refine .inr ⟨⟨xs, xs[i], q, by simp [hlt]⟩, fun x H' y => ?_⟩
    obtain ⟨e, y⟩ := y
    subst e
    exact turn acc i x _ hacc hlt (y xs q) S h0
  · have e : i = xs.length := by omega
    subst e
    exact .inl ⟨⟨xs, q, Nat.le_refl _⟩, hQ acc H hacc S h0⟩
theorem comp_enum {a : Addr} {xs : List V} (hx : SqL K H1 a xs) (F : Nat → List V) (hF : F 0 = [])
    (turn : ∀ acc i x p H, H1 acc = none → i < xs.length → xs[i]? = some x → Same H1 H → H acc = some (.lst (F i)) → H p = none → g (.ref p) (pick m js σ) (upd H p (.tup [.int (i : Nat), x])) fun σ2 H2 => Wk (pick m js σ) σ2 ∧ c σ2 H2 fun b H3 => if b = true then te σ2 H3 fun y H4 => CPut xs.length acc (CP H1 F) i y H4 else CSkip xs.length acc (CP H1 F) i H3)
    (hQ : ∀ acc H, H1 acc = none → Same H1 H → H acc = some (.lst (F xs.length)) → Q (.ref acc) H) : tCompR m js g c te (Ite K a) σ H1 Q := by
  intro acc hacc
  refine ⟨CW xs.length acc (CP H1 F), ⟨_, rfl, Nat.zero_le _, [], upd_same, same_new hacc _, hF.symm⟩, ?_⟩
  rintro i m' H ⟨rfl, hi, ys, h0, S, rfl⟩
  have q := S.seq hx
  by_cases hlt : i < xs.length
  · refine .inr ⟨⟨xs, xs[i], q, by simp [hlt]⟩, fun x H' y => ?_⟩
    obtain ⟨p, v, e, hp, e2, y⟩ := y
    subst e e2
    exact turn acc i v p _ hacc hlt (y xs q) S h0 hp
  · have e : i = xs.length := by omega
    subst e
    exact .inl ⟨⟨xs, q, Nat.le_refl _⟩, hQ acc H hacc S h0⟩
theorem comp_range {lo : Int} {n : Nat} (F : Nat → List V) (hF : F 0 = [])
    (turn : ∀ acc i H, H1 acc = none → i < n → Same H1 H → H acc = some (.lst (F i)) → g (.int (lo + (i : Nat))) (pick m js σ) H fun σ2 H2 => Wk (pick m js σ) σ2 ∧ c σ2 H2 fun b H3 => if b = true then te σ2 H3 fun y H4 => CPut n acc (CP H1 F) i y H4 else CSkip n acc (CP H1 F) i H3)
    (hQ : ∀ acc H, H1 acc = none → Same H1 H → H acc = some (.lst (F n)) → Q (.ref acc) H) : tCompR m js g c te (Itr lo n) σ H1 Q := by
  intro acc hacc
  refine ⟨CW n acc (CP H1 F), ⟨_, rfl, Nat.zero_le _, [], upd_same, same_new hacc _, hF.symm⟩, ?_⟩
  rintro i m' H ⟨rfl, hi, ys, h0, S, rfl⟩
  by_cases hlt : i < n
  · refine .inr ⟨hlt, fun x H' y => ?_⟩
    obtain ⟨e, y⟩ := y
    subst e y
    exact turn acc i _ hacc hlt S h0
  · have e : i = n := by omega
    subst e
    exact .inl ⟨Nat.le_refl _, hQ acc H hacc S h0⟩
end
theorem for_range3 {lo c : Int} {n : Nat} {g : TG} {tb : TS} {D : Ends} {σ : St} {H : Hp} (Pv : Nat → St → Hp → Prop) (h0 : Pv 0 σ H)
    (hs : ∀ i σ H, i < n → Pv i σ H → g (.int (lo + (i : Nat) * c)) σ H fun σ2 H2 => tb { D with nx := Pv (i + 1), ct := Pv (i + 1), bk := D.nx } σ2 H2) (hd : ∀ σ H, Pv n σ H → D.nx σ H) :
    ∃ W : Nat → Nat → St → Hp → Prop, (∃ m, W 0 m σ H) ∧ ∀ i m σ H, W i m σ H →
      ((Itr3 lo c n).stop i H ∧ D.nx σ H) ∨ ((Itr3 lo c n).go i H ∧ ∃ N : St → Hp → Prop, (∀ σ' H', N σ' H' → ∃ m', m' < m ∧ W (i + 1) m' σ' H') ∧ ∀ x H', (Itr3 lo c n).yld i H x H' → g x σ H' fun σ2 H2 => tb { D with nx := N, ct := N, bk := D.nx } σ2 H2) := by
  refine ⟨fun i m σ H => m = n - i ∧ i ≤ n ∧ Pv i σ H, ⟨n, by simp, Nat.zero_le _, h0⟩, ?_⟩
  rintro i m σ H ⟨rfl, hi, p⟩
  by_cases hlt : i < n
  · refine .inr ⟨hlt, Pv (i + 1), fun σ' H' p' => ⟨n - (i + 1), by omega, rfl, hlt, p'⟩, fun x H' y => ?_⟩
    obtain ⟨e, y⟩ := y
    subst e y
    exact hs i σ _ hlt p
  · have e : i = n := by omega
    subst e
    exact .inl ⟨Nat.le_refl _, hd σ H p⟩

/-! ### small things -/
theorem int_eq {i j : Int} : decide (V.int i = V.int j) = (i == j) := dec_int
theorem atI_int {ns : List Int} {k : Int} (h0 : 0 ≤ k) (h : k < (ns.length : Int)) : atI (ns.map V.int) k = some (.int (ns.getD k.toNat 0)) := by
  have hk : k.toNat < ns.length := by omega
  have ek : k = ((k.toNat : Nat) : Int) := by omega
  have q : atI (ns.map V.int) ((k.toNat : Nat) : Int) = some (.int ns[k.toNat]) := atI_nat (by rw [List.getElem?_map, List.getElem?_eq_getElem hk] <;> rfl)
  rw [← ek] at q
  rw [q, List.getD_eq_getElem?_getD, List.getElem?_eq_getElem hk]; rfl
theorem ints_get {ns : List Int} {i : Nat} {x : V} (h : (ns.map V.int)[i]? = some x) : x = .int (ns.getD i 0) := by
  rw [List.getElem?_map] at h
  cases e : ns[i]? with
  | none => rw [e] at h; cases h
  | some n => rw [e] at h; cases h; rw [List.getD_eq_getElem?_getD, e]; rfl
theorem small {n : Nat} (h : n ≤ 1000) : n ≤ sizeLine := Nat.le_of_lt (small1000 h)
/-- a book: a tuple of how many things and the list of the baskets -/
def Bk (K : PySem.W.Frag) (H : Hp) (b : Addr) (many : Int) (bs : List Int) : Prop := ∃ l, SqT K H b [.int many, .ref l] ∧ SqL K H l (bs.map V.int)
theorem Bk.same {K : PySem.W.Frag} {H H' : Hp} {b : Addr} {many : Int} {bs : List Int} (e : Same H H') (h : Bk K H b many bs) : Bk K H' b many bs := by
  obtain ⟨l, h1, h2⟩ := h
  exact ⟨l, e.tup h1, e.seq h2⟩
theorem Bk.dr {K : PySem.W.Frag} {H : Hp} {b : Addr} {many : Int} {bs : List Int} (h : Bk K H b many bs) : DR K H (.ref b) (.tuple [.int many, .list (bs.map PyData.int)]) := by
  obtain ⟨l, h1, h2⟩ := h
  exact .tup h1 (.cons (.int _) (.cons (.lst h2 (DRs.ints bs)) .nil))
theorem lay_ints : ∀ ns : List Int, PyData.canLayAll0 (ns.map PyData.int) = true
  | [] => rfl
  | n :: ns => by
    show (PyData.canLay0 (.int n) && PyData.canLayAll0 (ns.map PyData.int)) = true
    rw [lay_ints ns]; rfl
theorem depth_ints : ∀ ns : List Int, PyData.depthAll (ns.map PyData.int) = 0
  | [] => rfl
  | n :: ns => by
    show max (PyData.depth (.int n)) (PyData.depthAll (ns.map PyData.int)) = 0
    rw [depth_ints ns]; rfl
theorem shaped_ints (ns : List Int) : PySem.SeqAt.shaped (.list (ns.map PyData.int)) = true := by
  unfold PySem.SeqAt.shaped
  rw [show PyData.canLay0 (.list (ns.map PyData.int)) = true from lay_ints ns]
  rw [show PyData.depth (.list (ns.map PyData.int)) = 0 + 1 from by rw [← depth_ints ns]; rfl]
  rfl
theorem shaped_bk (many : Int) (bs : List Int) : PySem.SeqAt.shaped (.tuple [.int many, .list (bs.map PyData.int)]) = true := by
  unfold PySem.SeqAt.shaped
  have h1 : PyData.canLay0 (.tuple [.int many, .list (bs.map PyData.int)]) = true := by
    show (true && (PyData.canLayAll0 (bs.map PyData.int) && true)) = true
    rw [lay_ints]; rfl
  have h2 : PyData.depth (.tuple [.int many, .list (bs.map PyData.int)]) = 2 := by
    show max 0 (max (PyData.depthAll (bs.map PyData.int) + 1) 0) + 1 = 2
    rw [depth_ints]; rfl
  rw [h1, h2]; rfl
theorem eqv_ints : ∀ ns ms : List Int, PyData.eqvAll (ns.map PyData.int) (ms.map PyData.int) = decide (ns = ms) := PySem.W.ked_eqvAll
end L2
namespace L2
open PySem PySem.Spec PyProof.Rows
/-! ### two ways meet behind a statement: what holds there is said once -/
def tMid (t u : TS) : TS := fun D σ H => ∃ R : St → Hp → Prop, t { D with nx := R } σ H ∧ ∀ σ' H', R σ' H' → u D σ' H'
theorem pss_mid {X : Cx} {st : Stmt} {rest : List Stmt} {t u : TS} (h1 : PS X st t) (h2 : PSs X rest u) : PSs X (st :: rest) (tMid t u) := by
  intro pins s σ H D I h
  obtain ⟨R, q1, q2⟩ := h
  refine wpAny_execs_cons (thn (h1 pins s σ H { D with nx := R } I q1) fun f s1 q => ?_)
  cases f with
  | next =>
    obtain ⟨σ', H', I', q⟩ := q
    exact h2 pins s1 σ' H' D I' (q2 σ' H' q)
  | ret v => exact q
  | brk => exact q
  | cont => exact q
/-- a test that only makes new things -/
def LookT (t : TT) (σ : St) (H : Hp) (c : Bool) : Prop := ∀ Q : Bool → Hp → Prop, (∀ H', Same H H' → Q c H') → t σ H Q
theorem LookT.pure {t : TT} {σ : St} {H : Hp} {c : Bool} (h : ∀ Q : Bool → Hp → Prop, Q c H → t σ H Q) : LookT t σ H c := fun Q q => h Q (q H (Same.refl H))
theorem lookAnd {t u : TT} {σ : St} {H : Hp} {c d : Bool} (h1 : LookT t σ H c) (h2 : c = true → ∀ H1, Same H H1 → LookT u σ H1 d) : LookT (tAnd t u) σ H (c && d) := fun Q h => by
  refine h1 _ fun H1 S1 => ?_
  cases c with
  | true => exact iteT (h2 rfl H1 S1 Q fun H2 S2 => h H2 (S1.trans S2))
  | false => exact iteF (h H1 S1)
theorem lookOr {t u : TT} {σ : St} {H : Hp} {c d : Bool} (h1 : LookT t σ H c) (h2 : c = false → ∀ H1, Same H H1 → LookT u σ H1 d) : LookT (tOr t u) σ H (c || d) := fun Q h => by
  refine h1 _ fun H1 S1 => ?_
  cases c with
  | true => exact iteT (h H1 S1)
  | false => exact iteF (h2 rfl H1 S1 Q fun H2 S2 => h H2 (S1.trans S2))
/-- all that was tracked but at l is as it was -/
def SameB (l : Addr) (H H' : Hp) : Prop := ∀ b o, b ≠ l → H b = some o → H' b = some o
theorem Same.b {l : Addr} {H H' : Hp} (h : Same H H') : SameB l H H' := fun b o _ e => h b o e
theorem SameB.trans {l : Addr} {H H1 H2 : Hp} (a : SameB l H H1) (b : SameB l H1 H2) : SameB l H H2 := fun c o n h => b c o n (a c o n h)
theorem sameB_upd {l : Addr} {H : Hp} {o : HO} : SameB l H (upd H l o) := fun b u n e => by rw [upd_ne n]; exact e
theorem SameB.same {l : Addr} {H0 H H' : Hp} (h : SameB l H H') (h0 : Same H0 H) (hn : H0 l = none) : Same H0 H' := fun b o e => h b o (ne_of_none e hn) (h0 b o e)
theorem SameB.seq {K : PySem.W.Frag} {l : Addr} {H H' : Hp} {a : Addr} {xs : List V} (e : SameB l H H') (n : a ≠ l) (h : SqL K H a xs) : SqL K H' a xs := by
  rcases h with (h | ⟨o, h⟩) | h
  · exact .inl (.inl (e _ _ n h))
  · exact .inl (.inr ⟨o, e _ _ n h⟩)
  · exact .inr h
/-- slices of lists of ints -/
def cutI (ds : List Int) (lo hi : Option Int) : List Int := (ds.drop (HT.sIx ds.length 0 lo)).take (HT.sIx ds.length ds.length hi - HT.sIx ds.length 0 lo)
theorem cut_ints (ds : List Int) (lo hi : Option Int) : cutV (ds.map V.int) lo hi = (cutI ds lo hi).map V.int := by
  unfold cutV cutI
  rw [List.length_map, List.map_take, List.map_drop]
theorem cutI_len (ds : List Int) (a c : Nat) : (cutI ds (some (a : Int)) (some (c : Int))).length ≤ c - a := by
  unfold cutI
  rw [List.length_take, List.length_drop, HT.sIx_nat, HT.sIx_nat]
  omega
end L2
namespace L2
open PySem PySem.Spec PyProof.Rows
/-! ### the same rules where the context is a comprehension's: K is said -/
section
variable {X : Cx} (K : PySem.W.Frag) (hK : X.K = K)
include hK
theorem pg_tupK {pos : Pos} {es : List Expr} {k : Nat} {t : TGs} {n : Nat} (hc : X.calm = true) (h : PGs X es t) (hn : (assignEach es X.env).length = n := by rfl) (hst : (assignEach es X.env).findIdx? (·.1) = none := by rfl) : PG X (.Tuple es k pos) (gTup K n t) := by
  subst hK; exact pg_tup hc h hn hst
theorem ix_tupK : IxR X (rIxT K) := by subst hK; exact ix_tup
theorem op_eqDK {k : Nat} (hr : Room k X.A) : OpR X (compareOp .Eq) (rEqD K false) := by subst hK; exact op_eqD hr
end
end L2

namespace OL
open PySem L2

/-! ### what the program's defs answer, over plain lists -/
def hasF (x y : Int) : Bool := Builtin.bitAnd x y == y
def topF (n : Int) : Int := 1 * 2 ^ n.toNat - 1
def hold (bs : List Int) (lot : Int) (n : Nat) : List Int := ((List.range n).filter fun i => hasF (bs.getD i 0) lot).map fun (i : Nat) => (i : Int)
def holdF (bs : List Int) (lot : Int) : List Int := hold bs lot bs.length
def commonF (many : Int) (bs ps : List Int) : Int := ps.foldl (fun acc p => Builtin.bitAnd acc (bs.getD p.toNat 0)) (topF many)
def closeF (many : Int) (bs : List Int) (lot : Int) : Int := commonF many bs (holdF bs lot)
/-- the law's own closing -/
def closeL (many : Int) (bs : List Int) (lot : Int) : Int := bs.foldl (fun acc b => if hasF b lot then Builtin.bitAnd acc b else acc) (topF many)

theorem hold_yes {bs : List Int} {lot : Int} {n : Nat} (h : hasF (bs.getD n 0) lot = true) : hold bs lot (n + 1) = hold bs lot n ++ [(n : Int)] := by
  unfold hold
  rw [List.range_succ, List.filter_append, List.map_append, List.filter_cons, if_pos h]
  rfl
theorem hold_no {bs : List Int} {lot : Int} {n : Nat} (h : hasF (bs.getD n 0) lot = false) : hold bs lot (n + 1) = hold bs lot n := by
  unfold hold
  rw [List.range_succ, List.filter_append, List.map_append, List.filter_cons, if_neg (by rw [h]; decide)]
  exact List.append_nil _
theorem hold_len (bs : List Int) (lot : Int) (n : Nat) : (hold bs lot n).length ≤ n := by
  unfold hold
  rw [List.length_map]
  have h := List.length_filter_le (fun i => hasF (bs.getD i 0) lot) (List.range n)
  rw [List.length_range] at h
  exact h
theorem hold_mem {bs : List Int} {lot : Int} {n : Nat} {p : Int} (h : p ∈ hold bs lot n) : 0 ≤ p ∧ p < n := by
  unfold hold at h
  obtain ⟨i, hi, e⟩ := List.mem_map.mp h
  have := List.mem_range.mp (List.mem_filter.mp hi).1
  omega
theorem close_upto (many : Int) (bs : List Int) (lot : Int) : ∀ n, n ≤ bs.length → commonF many bs (hold bs lot n) = (bs.take n).foldl (fun acc b => if hasF b lot then Builtin.bitAnd acc b else acc) (topF many)
  | 0, _ => rfl
  | n + 1, h => by
    have ih := close_upto many bs lot n (by omega)
    have hn : n < bs.length := by omega
    have e : bs.take (n + 1) = bs.take n ++ [bs.getD n 0] := by
      rw [List.getD_eq_getElem?_getD, List.getElem?_eq_getElem hn]
      exact List.take_succ_eq_append_getElem hn
    rw [e, List.foldl_append, ← ih]
    cases hh : hasF (bs.getD n 0) lot with
    | true =>
      rw [hold_yes hh]
      unfold commonF
      rw [List.foldl_append]
      simp only [List.foldl_cons, List.foldl_nil, hh, if_true, Int.toNat_natCast]
    | false =>
      rw [hold_no hh]
      simp only [List.foldl_cons, List.foldl_nil, hh, Bool.false_eq_true, if_false]
theorem close_eq (many : Int) (bs : List Int) (lot : Int) : closeF many bs lot = closeL many bs lot := by
  have h := close_upto many bs lot bs.length (Nat.le_refl _)
  rw [List.take_length] at h
  exact h

/-! ### promises -/
def spHas : Sp := fun vs H Q _ => ∃ x y, vs = [.int x, .int y] ∧ Q (.bl (hasF x y)) H
def spTop : Sp := fun vs H Q _ => ∃ n : Int, vs = [.int n] ∧ 0 ≤ n ∧ n ≤ 64 ∧ Q (.int (topF n)) H
def spHold (K : PySem.W.Frag) : Sp := fun vs H Q _ => ∃ (b : Addr) (many : Int) (bs : List Int) (lot : Int), vs = [.ref b, .int lot] ∧ Bk K H b many bs ∧ bs.length ≤ 500 ∧
  ∀ (r : Addr) (H' : Hp), Same H H' → H r = none → H' r = some (.lst ((holdF bs lot).map V.int)) → Q (.ref r) H'
def spCommon (K : PySem.W.Frag) : Sp := fun vs H Q _ => ∃ (b p : Addr) (many : Int) (bs ps : List Int), vs = [.ref b, .ref p] ∧ Bk K H b many bs ∧ SqL K H p (ps.map V.int) ∧ 0 ≤ many ∧ many ≤ 64 ∧ (∀ q ∈ ps, 0 ≤ q ∧ q < bs.length) ∧ Q (.int (commonF many bs ps)) H
def spClose (K : PySem.W.Frag) (f : Int → List Int → Int → V) : Sp := fun vs H Q _ => ∃ (b : Addr) (many : Int) (bs : List Int) (lot : Int), vs = [.ref b, .int lot] ∧ Bk K H b many bs ∧ bs.length ≤ 500 ∧ 0 ≤ many ∧ many ≤ 64 ∧ ∀ H', Same H H' → Q (f many bs lot) H'
/-! ### books that a law draws -/
def InB (many : Int) (x : Int) : Prop := 0 ≤ x ∧ x < 2 ^ many.toNat
theorem InB.and {many x y : Int} (hx : InB many x) (hy : InB many y) : InB many (Builtin.bitAnd x y) := by
  obtain ⟨h1, h2⟩ := hx
  obtain ⟨h3, h4⟩ := hy
  rw [PyProof.Rows.bitAnd_pp h1 h3]
  refine ⟨Int.natCast_nonneg _, ?_⟩
  have h5 : x.toNat &&& y.toNat ≤ x.toNat := Nat.and_le_left
  have h6 : ((x.toNat &&& y.toNat : Nat) : Int) ≤ x := by omega
  exact Int.lt_of_le_of_lt h6 h2
structure BookOk (many : Int) (bs : List Int) (most top : Int) : Prop where
  lo : 1 ≤ many
  hi : many ≤ most
  len : (bs.length : Int) ≤ top
  bas : ∀ x ∈ bs, InB many x
def spBook : Sp := fun vs H Q _ => ∃ (c most tp : Int), vs = [.int c, .int most, .int tp] ∧ 1 ≤ most ∧ most ≤ 12 ∧ 0 ≤ tp ∧ tp ≤ 20 ∧
  ∀ (b l : Addr) (H' : Hp) (many : Int) (bs : List Int), Same H H' → H b = none → H l = none → H' b = some (.tup [.int many, .ref l]) → H' l = some (.lst (bs.map V.int)) → BookOk many bs most tp → Q (.ref b) H'
def spWhole : Sp := fun vs H Q _ => ∃ i : Int, vs = [.int i] ∧ Q (.bl true) H
theorem getD_mem {ds : List Int} {i : Nat} (h : i < ds.length) : ds.getD i 0 ∈ ds := by
  rw [List.getD_eq_getElem?_getD, List.getElem?_eq_getElem h]; exact List.getElem_mem h
theorem two_pow_pos (n : Int) : (0 : Int) < 1 * 2 ^ n.toNat := by
  have : (0 : Int) < 2 ^ n.toNat := Int.pow_pos (by decide)
  omega
theorem mod_InB (d many : Int) : InB many (d % (1 * 2 ^ many.toNat)) := by
  have h := two_pow_pos many
  have h1 := Int.emod_nonneg d (show (1 * 2 ^ many.toNat : Int) ≠ 0 by omega)
  have h2 := Int.emod_lt_of_pos d h
  rw [Int.one_mul] at h1 h2 ⊢
  exact ⟨h1, h2⟩
end OL

namespace OL
open PySem L2
/-- a test that looks and changes nothing -/
def PureT (t : TT) (σ : St) (H : Hp) (c : Bool) : Prop := ∀ Q : Bool → Hp → Prop, Q c H → t σ H Q
theorem pureAnd {t u : TT} {σ : St} {H : Hp} {c d : Bool} (h1 : PureT t σ H c) (h2 : c = true → PureT u σ H d) : PureT (tAnd t u) σ H (c && d) := fun Q h => by
  refine h1 _ ?_
  cases c with
  | true => exact iteT (h2 rfl Q h)
  | false => exact iteF h
theorem common_succ {many : Int} {bs ps : List Int} {i : Nat} (h : i < ps.length) : commonF many bs (ps.take (i + 1)) = Builtin.bitAnd (commonF many bs (ps.take i)) (bs.getD (ps.getD i 0).toNat 0) := by
  have e : ps.take (i + 1) = ps.take i ++ [ps.getD i 0] := by
    rw [List.getD_eq_getElem?_getD, List.getElem?_eq_getElem h]
    exact List.take_succ_eq_append_getElem h
  unfold commonF
  rw [e, List.foldl_append]; rfl
theorem mod_ok (a : Int) {m : Int} (h0 : 0 < m) (h1 : m < 2 ^ 64) : -(2 ^ 64) < a % m ∧ a % m < 2 ^ 64 := by
  have g0 := Int.emod_nonneg a (show m ≠ 0 by omega)
  have g1 := Int.emod_lt_of_pos a h0
  omega
def cellF (ns : List Int) (k : Int) : Int := ns.getD k.toNat 0
def spCell (K : PySem.W.Frag) : Sp := fun vs H Q _ => ∃ (a : Addr) (ns : List Int) (k : Int), vs = [.ref a, .int k] ∧ SqL K H a (ns.map V.int) ∧ 0 ≤ k ∧ Q (.int (cellF ns k)) H
def spDraws : Sp := fun vs H Q _ => ∃ (c m b : Int), vs = [.int c, .int m, .int b] ∧ 0 ≤ m ∧ m ≤ 100 ∧ 0 < b ∧ b < 1073741824 ∧
  ∀ (r : Addr) (H' : Hp) (ds : List Int), Same H H' → H r = none → H' r = some (.lst (ds.map V.int)) → (ds.length : Int) = m → (∀ d ∈ ds, 0 ≤ d ∧ d < b) → Q (.ref r) H'
end OL
namespace OL
open PySem L2
theorem atI_map {ns : List Int} {k : Int} (h0 : 0 ≤ k) (h : k < ((ns.map V.int).length : Int)) : atI (ns.map V.int) k = some (.int (ns.getD k.toNat 0)) := atI_int h0 (by rwa [List.length_map] at h)
theorem ne_nil {bs : List Int} (h : (!PyData.eqv (.list (bs.map PyData.int)) (.list [])) = true) : bs ≠ [] := by
  intro e
  subst e
  exact absurd h (by decide)
theorem pos_len {bs : List Int} (h : bs ≠ []) : (0 : Int) < ((bs.map V.int).length : Int) := by
  rw [List.length_map]
  have := List.length_pos_iff.mpr h
  omega
theorem emod_in {bs : List Int} (d : Int) (h : bs ≠ []) : 0 ≤ d % ((bs.map V.int).length : Int) ∧ d % ((bs.map V.int).length : Int) < ((bs.map V.int).length : Int) := by
  have h1 := pos_len h
  exact ⟨Int.emod_nonneg _ (by omega), Int.emod_lt_of_pos _ h1⟩
theorem getD_in {bs : List Int} (d : Int) (h : bs ≠ []) : bs.getD (d % ((bs.map V.int).length : Int)).toNat 0 ∈ bs := by
  have h1 := emod_in d h
  rw [List.length_map] at h1
  refine getD_mem ?_
  rw [List.length_map]
  omega
end OL
namespace OL
open PySem L2
theorem small_two {b : Int} (h0 : 0 ≤ b) (h1 : b < 2 ^ 60) : Builtin.Range.small 0 b 2 = true ∧ 0 ≤ Builtin.Range.rangeSize 0 b 2 := by
  have e : Builtin.Range.rangeSize 0 b 2 = if 0 < b then (b - 1) / 2 + 1 else 0 := by
    unfold Builtin.Range.rangeSize
    rw [if_pos (by decide), Int.sub_zero]
  unfold Builtin.Range.small
  rw [e]
  simp only [Builtin.Range.rangeFitsLong, Bool.and_eq_true, Bool.or_eq_true, decide_eq_true_eq, beq_iff_eq, show (2 : Int) > 0 by decide, if_true]
  split <;> omega
def spLaw (K : PySem.W.Frag) : Sp := fun vs H Q _ => ∃ (a : Addr) (ns : List Int), vs = [.ref a] ∧ SqL K H a (ns.map V.int) ∧ ns.length ≤ 63 ∧ ∀ H', Q (.bl true) H'
theorem bk_eqv (many : Int) (bs : List Int) : PyData.eqv (.tuple [.int many, .list (bs.map PyData.int)]) (.tuple [.int many, .list (bs.map PyData.int)]) = true := by
  show ((many == many) && (PyData.eqvAll (bs.map PyData.int) (bs.map PyData.int) && true)) = true
  rw [eqv_ints]; simp
theorem yes_of {σ : St} {H : Hp} {A B : Hp → Prop} (h : A H) : tYes σ H fun b H3 => if b = true then A H3 else B H3 := by
  show if true = true then A H else B H
  exact iteT h
theorem seq_if {c : TT} {t u v : TS} {D : Ends} {σ : St} {H : Hp} {b : Bool} (h : LookT c σ H b) (k : ∀ H', Same H H' → if b = true then t { D with nx := v D } σ H' else u { D with nx := v D } σ H') : tSeq (tIfS c t u) v D σ H := h _ k
theorem one_if {c : TT} {t u : TS} {D : Ends} {σ : St} {H : Hp} {b : Bool} (h : LookT c σ H b) (k : ∀ H', Same H H' → if b = true then t D σ H' else u D σ H') : tIfS c t u D σ H := h _ k
theorem take_get {cs : List Int} {i : Nat} (h : i < cs.length) : cs.take (i + 1) = cs.take i ++ [cs.getD i 0] := by
  rw [List.getD_eq_getElem?_getD, List.getElem?_eq_getElem h]
  exact List.take_succ_eq_append_getElem h
end OL

namespace OL
open PySem L2
def countF (bs : List Int) (lot : Int) : Int := ((holdF bs lot).length : Int)
def spLot (K : PySem.W.Frag) : Sp := fun vs H Q _ => ∃ (b : Addr) (many : Int) (bs : List Int) (c : Int), vs = [.ref b, .int c] ∧ Bk K H b many bs ∧ (∀ x ∈ bs, InB many x) ∧ 0 ≤ many ∧ many ≤ 64 ∧ ∀ (H' : Hp) (lot : Int), Same H H' → InB many lot → Q (.int lot) H'
theorem rs_two {b : Int} (h0 : 0 ≤ b) (h1 : b ≤ 60) : (Builtin.Range.rangeSize 0 b 2).toNat ≤ 60 := by
  have e : Builtin.Range.rangeSize 0 b 2 = if 0 < b then (b - 1) / 2 + 1 else 0 := by
    unfold Builtin.Range.rangeSize
    rw [if_pos (by decide), Int.sub_zero]
  rw [e]
  split <;> omega
end OL
namespace L2
open PySem PySem.Spec PyProof.Rows
end L2

namespace OL
open PySem L2
/-! ### lots as sets of things -/
def Th (x : Int) (i : Nat) : Prop := x.toNat.testBit i = true
theorem th_and {x y : Int} (hx : 0 ≤ x) (hy : 0 ≤ y) (i : Nat) : Th (Builtin.bitAnd x y) i ↔ Th x i ∧ Th y i := by
  unfold Th
  rw [PyProof.Rows.bitAnd_pp hx hy, Int.toNat_natCast, Nat.testBit_and, Bool.and_eq_true]
theorem th_ext {x y : Int} (hx : 0 ≤ x) (hy : 0 ≤ y) (h : ∀ i, Th x i ↔ Th y i) : x = y := by
  have e : x.toNat = y.toNat := Nat.eq_of_testBit_eq fun i => by
    have := h i
    unfold Th at this
    cases h1 : x.toNat.testBit i <;> cases h2 : y.toNat.testBit i <;> simp_all
  omega
theorem and_nn {x y : Int} (hx : 0 ≤ x) (hy : 0 ≤ y) : 0 ≤ Builtin.bitAnd x y := by
  rw [PyProof.Rows.bitAnd_pp hx hy]; exact Int.natCast_nonneg _
theorem has_iff {x y : Int} (hx : 0 ≤ x) (hy : 0 ≤ y) : hasF x y = true ↔ ∀ i, Th y i → Th x i := by
  unfold hasF
  rw [beq_iff_eq]
  constructor
  · intro h i hi
    rw [← h] at hi
    exact ((th_and hx hy i).mp hi).1
  · intro h
    exact th_ext (and_nn hx hy) hy fun i => by
      rw [th_and hx hy]
      exact ⟨fun z => z.2, fun z => ⟨h i z, z⟩⟩
theorem th_top (many : Int) (i : Nat) : Th (topF many) i ↔ i < many.toNat := by
  unfold Th topF
  have e : (1 * 2 ^ many.toNat - 1 : Int).toNat = 2 ^ many.toNat - 1 := by
    have : (2 : Int) ^ many.toNat = ((2 ^ many.toNat : Nat) : Int) := by push_cast; rfl
    rw [Int.one_mul, this]; omega
  rw [e, Nat.testBit_two_pow_sub_one, decide_eq_true_eq]
theorem top_nn (many : Int) : 0 ≤ topF many := by
  unfold topF
  have := two_pow_pos many
  omega
theorem top_in (many : Int) : InB many (topF many) := ⟨top_nn many, by unfold topF; rw [Int.one_mul]; omega⟩
theorem InB.th {many x : Int} (h : InB many x) {i : Nat} (hi : Th x i) : i < many.toNat := by
  unfold Th at hi
  have h1 : x.toNat < 2 ^ many.toNat := by
    have : (2 : Int) ^ many.toNat = ((2 ^ many.toNat : Nat) : Int) := by push_cast; rfl
    have := h.2
    have := h.1
    omega
  by_cases hlt : i < many.toNat
  · exact hlt
  · have := Nat.testBit_lt_two_pow (Nat.lt_of_lt_of_le h1 (Nat.pow_le_pow_right (by decide) (Nat.le_of_not_lt hlt)))
    rw [this] at hi
    cases hi
theorem InB.of_th {many x : Int} (h0 : 0 ≤ x) (h : ∀ i, Th x i → i < many.toNat) : InB many x := by
  refine ⟨h0, ?_⟩
  have h1 : x.toNat < 2 ^ many.toNat := Nat.lt_pow_two_of_testBit _ fun i hi => by
    cases e : x.toNat.testBit i with
    | false => rfl
    | true => exact absurd (h i e) (Nat.not_lt.mpr hi)
  have : (2 : Int) ^ many.toNat = ((2 ^ many.toNat : Nat) : Int) := by push_cast; rfl
  omega
theorem or_pp {x y : Int} (hx : 0 ≤ x) (hy : 0 ≤ y) : Builtin.bitOr x y = ((x.toNat ||| y.toNat : Nat) : Int) := by
  have nn : ∀ z : Int, 0 ≤ z → ¬ 0 ≤ Builtin.bitNot z := fun z hz => by unfold Builtin.bitNot; omega
  have bb : ∀ z : Int, Builtin.bitNot (Builtin.bitNot z) = z := fun z => by unfold Builtin.bitNot; omega
  unfold Builtin.bitOr
  rw [PyProof.Rows.bitAnd_nn (nn x hx) (nn y hy), bb, bb, bb]
theorem th_or {x y : Int} (hx : 0 ≤ x) (hy : 0 ≤ y) (i : Nat) : Th (Builtin.bitOr x y) i ↔ Th x i ∨ Th y i := by
  unfold Th
  rw [or_pp hx hy, Int.toNat_natCast, Nat.testBit_or, Bool.or_eq_true]
theorem or_nn {x y : Int} (hx : 0 ≤ x) (hy : 0 ≤ y) : 0 ≤ Builtin.bitOr x y := by rw [or_pp hx hy]; exact Int.natCast_nonneg _
theorem th_pow (n i : Nat) : Th (1 * 2 ^ n) i ↔ i = n := by
  unfold Th
  have e : (1 * 2 ^ n : Int).toNat = 2 ^ n := by
    have : (2 : Int) ^ n = ((2 ^ n : Nat) : Int) := by push_cast; rfl
    rw [Int.one_mul, this]; exact Int.toNat_natCast _
  rw [e, Nat.testBit_two_pow, decide_eq_true_eq]
  exact eq_comm
/-! ### closings -/
structure BasOk (many : Int) (bs : List Int) : Prop where
  bas : ∀ x ∈ bs, InB many x
theorem close_fold {many lot : Int} : ∀ (bs : List Int) (acc : Int), (∀ x ∈ bs, InB many x) → InB many acc →
    InB many (bs.foldl (fun acc b => if hasF b lot then Builtin.bitAnd acc b else acc) acc) ∧ ∀ i, Th (bs.foldl (fun acc b => if hasF b lot then Builtin.bitAnd acc b else acc) acc) i ↔ Th acc i ∧ ∀ b ∈ bs, hasF b lot = true → Th b i
  | [], acc, _, ha => ⟨ha, fun i => ⟨fun h => ⟨h, fun b hb => nomatch hb⟩, fun h => h.1⟩⟩
  | b :: r, acc, hb, ha => by
    have hb0 := hb b List.mem_cons_self
    have hr : ∀ x ∈ r, InB many x := fun x hx => hb x (List.mem_cons_of_mem _ hx)
    rw [List.foldl_cons]
    cases hh : hasF b lot with
    | true =>
      simp only [if_true]
      obtain ⟨h1, h2⟩ := close_fold (lot := lot) r (Builtin.bitAnd acc b) hr (ha.and hb0)
      refine ⟨h1, fun i => ?_⟩
      rw [h2, th_and ha.1 hb0.1]
      constructor
      · rintro ⟨⟨a1, a2⟩, a3⟩
        refine ⟨a1, fun c hc h => ?_⟩
        rcases List.mem_cons.mp hc with rfl | z
        · exact a2
        · exact a3 c z h
      · rintro ⟨a1, a2⟩
        exact ⟨⟨a1, a2 b List.mem_cons_self hh⟩, fun c hc h => a2 c (List.mem_cons_of_mem _ hc) h⟩
    | false =>
      simp only [Bool.false_eq_true, if_false]
      obtain ⟨h1, h2⟩ := close_fold (lot := lot) r acc hr ha
      refine ⟨h1, fun i => ?_⟩
      rw [h2]
      constructor
      · rintro ⟨a1, a3⟩
        refine ⟨a1, fun c hc h => ?_⟩
        rcases List.mem_cons.mp hc with rfl | z
        · rw [hh] at h; cases h
        · exact a3 c z h
      · rintro ⟨a1, a2⟩
        exact ⟨a1, fun c hc h => a2 c (List.mem_cons_of_mem _ hc) h⟩
section
variable {many : Int} {bs : List Int} (hb : ∀ x ∈ bs, InB many x)
include hb
theorem close_in (lot : Int) : InB many (closeF many bs lot) := by
  rw [close_eq]; exact (close_fold bs _ hb (top_in many)).1
theorem th_close (lot : Int) (i : Nat) : Th (closeF many bs lot) i ↔ i < many.toNat ∧ ∀ b ∈ bs, hasF b lot = true → Th b i := by
  rw [close_eq]
  unfold closeL
  rw [(close_fold bs _ hb (top_in many)).2, th_top]
theorem close_has {lot : Int} (hl : InB many lot) : hasF (closeF many bs lot) lot = true := by
  rw [has_iff (close_in hb lot).1 hl.1]
  intro i hi
  rw [th_close hb]
  exact ⟨hl.th hi, fun b hm h => (has_iff (hb b hm).1 hl.1).mp h i hi⟩
theorem close_mono {l1 l2 : Int} (h1 : InB many l1) (h2 : InB many l2) (h : ∀ i, Th l1 i → Th l2 i) : hasF (closeF many bs l2) (closeF many bs l1) = true := by
  rw [has_iff (close_in hb _).1 (close_in hb _).1]
  intro i hi
  rw [th_close hb] at hi ⊢
  refine ⟨hi.1, fun b hm hh => hi.2 b hm ?_⟩
  rw [has_iff (hb b hm).1 h1.1]
  rw [has_iff (hb b hm).1 h2.1] at hh
  exact fun j hj => hh j (h j hj)
end
theorem filter_lt {α : Type} {p q : α → Bool} : ∀ {l : List α}, (∀ x ∈ l, p x = true → q x = true) → (∃ x ∈ l, q x = true ∧ p x = false) → (l.filter p).length < (l.filter q).length
  | [], _, ⟨x, hx, _⟩ => nomatch hx
  | y :: r, h, hx => by
    have hr : ∀ x ∈ r, p x = true → q x = true := fun x hx => h x (List.mem_cons_of_mem _ hx)
    have le : ∀ l : List α, (∀ x ∈ l, p x = true → q x = true) → (l.filter p).length ≤ (l.filter q).length := by
      intro l
      induction l with
      | nil => intro _; exact Nat.le_refl _
      | cons z s ih =>
        intro hz
        have i1 := ih fun x hx => hz x (List.mem_cons_of_mem _ hx)
        rw [List.filter_cons, List.filter_cons]
        cases hp : p z with
        | true => rw [hz z List.mem_cons_self hp]; simpa using i1
        | false =>
          cases q z with
          | true => simp; omega
          | false => simpa using i1
    obtain ⟨x, hm, h1, h2⟩ := hx
    rw [List.filter_cons, List.filter_cons]
    rcases List.mem_cons.mp hm with rfl | z
    · rw [h1, h2]
      have := le r hr
      simp; omega
    · have ih := filter_lt hr ⟨x, z, h1, h2⟩
      cases hp : p y with
      | true => rw [h y List.mem_cons_self hp]; simpa using ih
      | false =>
        cases q y with
        | true => simp; omega
        | false => simpa using ih
end OL
namespace OL
open PySem L2
theorem flat_ints : ∀ ns : List Int, (ns.map V.int).all flatV = true
  | [] => rfl
  | n :: ns => by
    rw [List.map_cons, List.all_cons, flat_ints ns]; rfl
end OL

namespace L2
open PySem PySem.Spec PyProof.Rows
section
variable {X : Cx}
/-! ### range(n) as a value, and its list -/
theorem call_rngV : CallR X (.type "range") (fun xs H Q => ∃ n : Int, xs = [.int n] ∧ ∀ p, H p = none → Q (.ref p) (upd H p (.rng 0 n))) := by
  intro pins s σ H xs us Q I r h
  obtain ⟨n, rfl, q⟩ := h
  obtain ⟨u, rfl, ⟨t, rfl⟩⟩ := vals1 r
  refine call_range_1 ⟨.ref s.heap.objs.size, _, I.laid (o := .rng 0 n) (fun b ob e => Heap.get?_push_of_some _ e) (Nat.le_refl _) ?_, rfl, q _ I.fresh⟩
  exact ⟨_, _, _, Heap.get?_push_size _ rfl⟩
def rangeI (n : Nat) : List Int := (List.range n).map fun (i : Nat) => (i : Int)
theorem rangeI_length (n : Nat) : (rangeI n).length = n := by unfold rangeI; rw [List.length_map, List.length_range]
theorem rangeI_get {n i : Nat} (h : i < n) : (rangeI n)[i]? = some (i : Int) := by
  unfold rangeI; rw [List.getElem?_map, List.getElem?_range h]; rfl
theorem rangeI_getD {n i : Nat} (h : i < n) : (rangeI n).getD i 0 = (i : Int) := by
  rw [List.getD_eq_getElem?_getD, rangeI_get h]; rfl
theorem vals_of_get : ∀ (xs : List V) (us : List Value), xs.length = us.length → (∀ (i : Nat) x u, xs[i]? = some x → us[i]? = some u → RelV x u) → Vals xs us
  | [], [], _, _ => .nil
  | x :: xs, u :: us, hl, h => .cons (h 0 x u rfl rfl) (vals_of_get xs us (by simpa using hl) fun i y v h1 h2 => h (i + 1) y v (by simpa using h1) (by simpa using h2))
theorem call_listRng (hc : X.calm = true) : CallR X (.type "list") (fun xs H Q => ∃ (p : Addr) (n : Int), xs = [.ref p] ∧ H p = some (.rng 0 n) ∧ 0 ≤ n ∧ n ≤ 100000 ∧ ∀ l, H l = none → Q (.ref l) (upd H l (.lst ((rangeI n.toNat).map V.int)))) := by
  intro pins s σ H xs us Q I r h
  obtain ⟨p, n, rfl, hp, n0, n1, q⟩ := h
  obtain ⟨u, rfl, ru⟩ := vals1 r
  cases (show u = Value.ref p from ru)
  obtain ⟨t1, t2, t3, e⟩ := (show ObjOk X.prog X.w H s.heap p (.rng 0 n) from I.hok p _ hp)
  have hn : Builtin.Range.rangeSize 0 n 1 = (n.toNat : Nat) := by rw [rangeSize_one]; split <;> omega
  refine call_list_range (n := n.toNat) (I.ok.hd hc) e (small_one (by omega) (by omega) (by omega) (by omega)) hn (by omega) fun h' tk acc c' hk hS hacc => ?_
  have hlen : ((rangeI n.toNat).map V.int).length = acc.toList.length := by rw [List.length_map, rangeI_length]; have := hacc.1; simp [this]
  refine ⟨.ref s.heap.objs.size, _, I.laid (o := .lst ((rangeI n.toNat).map V.int)) hk (Nat.le_refl _) ?_, rfl, q _ I.fresh⟩
  refine ⟨?_, acc.toList, c', vals_of_get _ _ hlen fun i x u h1 h2 => ?_, by simpa using hS⟩
  · rw [List.length_map, rangeI_length]
    have : (100000 : Nat) ≤ sizeLine := by decide
    omega
  · have h2' : acc[i]? = some u := by simpa using h2
    obtain ⟨t, rfl⟩ := hacc.2 i u h2'
    have hi : i < n.toNat := by
      have := (List.getElem?_eq_some_iff.mp h1).1
      rwa [List.length_map, rangeI_length] at this
    have hx := ints_get h1
    rw [rangeI_getD hi] at hx
    subst hx
    exact ⟨t, by simp⟩
end
/-! ### rows: lists of tuples of two ints -/
def Row (H : Hp) (x : V) (r : Int × Int) : Prop := ∃ p, x = .ref p ∧ H p = some (.tup [.int r.1, .int r.2])
def Rows (H : Hp) : List V → List (Int × Int) → Prop := Paired (Row H)
def TSame (H H' : Hp) : Prop := ∀ b xs, H b = some (.tup xs) → H' b = some (.tup xs)
theorem Same.t {H H' : Hp} (h : Same H H') : TSame H H' := fun b xs e => h b _ e
theorem TSame.trans {H H1 H2 : Hp} (a : TSame H H1) (b : TSame H1 H2) : TSame H H2 := fun c xs h => b c xs (a c xs h)
theorem tsame_upd {H : Hp} {l : Addr} {xs : List V} {o : HO} (h : H l = some (.lst xs)) : TSame H (upd H l o) := fun b ys e => by
  rw [upd_ne (ne_of e h (by intro z; cases z))]; exact e
theorem Row.same {H H' : Hp} {x : V} {r : Int × Int} (h : Row H x r) (S : TSame H H') : Row H' x r := by
  obtain ⟨p, rfl, e⟩ := h
  exact ⟨p, rfl, S _ _ e⟩
theorem Rows.same {H H' : Hp} {xs : List V} {rs : List (Int × Int)} (h : Rows H xs rs) (S : TSame H H') : Rows H' xs rs := Paired.imp' (fun _ _ z => z.same S) h
theorem Rows.length {H : Hp} {xs : List V} {rs : List (Int × Int)} (h : Rows H xs rs) : xs.length = rs.length := Paired.length h
theorem Rows.snoc {H : Hp} {xs : List V} {rs : List (Int × Int)} {x : V} {r : Int × Int} (h : Rows H xs rs) (z : Row H x r) : Rows H (xs ++ [x]) (rs ++ [r]) := Paired.snoc h z
def dRow (r : Int × Int) : PyData := .tuple [.int r.1, .int r.2]
theorem Rows.dr {K : PySem.W.Frag} {H : Hp} : ∀ {xs : List V} {rs : List (Int × Int)}, Rows H xs rs → DRs K H xs (rs.map dRow)
  | _, _, .nil => .nil
  | _, _, .cons h t => by
    obtain ⟨p, rfl, e⟩ := h
    exact .cons (.tup (SqT.of e) (.cons (.int _) (.cons (.int _) .nil))) (Rows.dr t)
theorem lay_rows : ∀ rs : List (Int × Int), PyData.canLayAll0 (rs.map dRow) = true
  | [] => rfl
  | r :: rs => by
    show (PyData.canLay0 (dRow r) && PyData.canLayAll0 (rs.map dRow)) = true
    rw [lay_rows rs]; rfl
theorem depth_rows : ∀ rs : List (Int × Int), PyData.depthAll (rs.map dRow) ≤ 1
  | [] => by show 0 ≤ 1; decide
  | r :: rs => by
    show max (PyData.depth (dRow r)) (PyData.depthAll (rs.map dRow)) ≤ 1
    have h1 : PyData.depth (dRow r) = 1 := rfl
    have h2 := depth_rows rs
    omega
theorem shaped_rows (rs : List (Int × Int)) : PySem.SeqAt.shaped (.list (rs.map dRow)) = true := by
  unfold PySem.SeqAt.shaped
  rw [show PyData.canLay0 (.list (rs.map dRow)) = true from lay_rows rs]
  have h : PyData.depth (.list (rs.map dRow)) ≤ 64 := by
    show PyData.depthAll (rs.map dRow) + 1 ≤ 64
    have := depth_rows rs
    omega
  simp [h]
theorem eqv_rows : ∀ rs : List (Int × Int), PyData.eqvAll (rs.map dRow) (rs.map dRow) = true
  | [] => rfl
  | r :: rs => by
    show (PyData.eqv (dRow r) (dRow r) && PyData.eqvAll (rs.map dRow) (rs.map dRow)) = true
    rw [eqv_rows rs, Bool.and_true]
    show ((r.1 == r.1) && ((r.2 == r.2) && true)) = true
    simp
theorem rows_eqv (rs : List (Int × Int)) : PyData.eqv (.list (rs.map dRow)) (.list (rs.map dRow)) = true := eqv_rows rs
/-! ### comprehensions that come to rows -/
def CPR (H1 : Hp) (R : Nat → List (Int × Int)) : Nat → List V → Hp → Prop := fun i ys H => Same H1 H ∧ Rows H ys (R i)
section
variable {n i : Nat} {acc : Addr} {H1 H H' : Hp} {R : Nat → List (Int × Int)} {ys : List V} {p : Addr} {r : Int × Int}
end
section
variable {K : PySem.W.Frag} {m : Nat} {js : List Nat} {g : TG} {c : TT} {te : TE} {σ : St} {H1 : Hp} {Q : VK}
end
end L2

namespace OL
open PySem L2
def oftenV (many : Int) (bs : List Int) (least lot : Int) : V := if countF bs lot < least then .non else .int (closeF many bs lot)
def isRow (many : Int) (bs : List Int) (least lot : Int) : Bool := decide (least ≤ countF bs lot) && (closeF many bs lot == lot)
def rowsU (many : Int) (bs : List Int) (least : Int) (n : Nat) : List (Int × Int) := ((List.range n).filter fun (i : Nat) => isRow many bs least (i : Int)).map fun (i : Nat) => ((i : Int), countF bs (i : Int))
def rowsF (many : Int) (bs : List Int) (least : Int) : List (Int × Int) := rowsU many bs least (2 ^ many.toNat)
def spAll : Sp := fun vs H Q _ => ∃ n : Int, vs = [.int n] ∧ 0 ≤ n ∧ n ≤ 12 ∧ ∀ (r : Addr) (H' : Hp), Same H H' → H r = none → H' r = some (.lst ((rangeI (2 ^ n.toNat)).map V.int)) → Q (.ref r) H'
def spOften (K : PySem.W.Frag) : Sp := fun vs H Q _ => ∃ (b : Addr) (many : Int) (bs : List Int) (least lot : Int), vs = [.ref b, .int least, .int lot] ∧ Bk K H b many bs ∧ bs.length ≤ 500 ∧ 0 ≤ many ∧ many ≤ 64 ∧ ∀ H', Same H H' → Q (oftenV many bs least lot) H'
def spClosed (K : PySem.W.Frag) : Sp := fun vs H Q _ => ∃ (b : Addr) (many : Int) (bs : List Int) (least : Int), vs = [.ref b, .int least] ∧ Bk K H b many bs ∧ bs.length ≤ 500 ∧ 0 ≤ many ∧ many ≤ 12 ∧ ∀ (r : Addr) (xs : List V) (H' : Hp), Same H H' → H r = none → H' r = some (.lst xs) → Rows H' xs (rowsF many bs least) → Q (.ref r) H'
theorem pow12 {n : Int} (h : n ≤ 12) : (2 : Nat) ^ n.toNat ≤ 4096 := by
  have : (2 : Nat) ^ n.toNat ≤ 2 ^ 12 := Nat.pow_le_pow_right (by decide) (by omega)
  exact this
theorem pow_cast (n : Nat) : (2 : Int) ^ n = ((2 ^ n : Nat) : Int) := by push_cast; rfl
theorem small4096 {n : Nat} (h : n ≤ 5000) : n < sizeLine := Nat.lt_of_le_of_lt h (by decide)
end OL
namespace L2
open PySem PySem.Spec PyProof.Rows
end L2
namespace OL
open PySem L2
def lotsU (many : Int) (bs : List Int) (n : Nat) : List Int := ((List.range n).filter fun (i : Nat) => closeF many bs (i : Int) == (i : Int)).map fun (i : Nat) => (i : Int)
/-- one entry of an early list of rows -/
def PairR (H : Hp) (e : Addr) (x : V) : Prop := ∃ (p t d : Addr) (xs ys : List V) (rs : List (Int × Int)), x = .ref p ∧ t ≠ e ∧ d ≠ e ∧ H p = some (.tup [.ref t, .ref d]) ∧ H t = some (.lst xs) ∧ H d = some (.lst ys) ∧ Rows H xs rs ∧ Rows H ys rs
theorem rep_succ (i : Nat) : List.replicate (i + 1) (V.bl true) = List.replicate i (V.bl true) ++ [V.bl true] := List.replicate_succ'
theorem rep_all (n : Nat) : (List.replicate n true).all id = true := by
  rw [List.all_eq_true]; intro x hx; rw [List.eq_of_mem_replicate hx]; rfl
theorem one_pow_toNat (n : Nat) : (1 * 2 ^ n : Int).toNat = 2 ^ n := by rw [Int.one_mul, pow_cast]; exact Int.toNat_natCast _
theorem one_pow_le {many : Int} (h : many ≤ 12) : (1 * 2 ^ many.toNat : Int) < 2 ^ 62 := by
  have := pow12 h
  rw [Int.one_mul, pow_cast]; omega
end OL

namespace OL
open PySem L2
def spMixed : Sp := fun vs H Q _ => ∃ (c k : Int), vs = [.int c, .int k] ∧ ∀ y : Int, 0 ≤ y → Q (.int y) H
def spPile (K : PySem.W.Frag) : Sp := fun vs H Q _ => ∃ (a : Addr) (ns : List Int) (k : Int), vs = [.ref a, .int k] ∧ SqL K H a (ns.map V.int) ∧ 0 ≤ k ∧ ∀ (r : Addr) (H' : Hp) (x y z : Int), Same H H' → H r = none → H' r = some (.lst [.int x, .int y, .int z]) → Q (.ref r) H'
def spTake : Sp := fun vs H Q _ => ∃ (p : Addr) (m x y z : Int), vs = [.ref p, .int m] ∧ 0 < m ∧ m < 1073741824 ∧ H p = some (.lst [.int x, .int y, .int z]) ∧ ∀ (d x' y' z' : Int) (H' : Hp), 0 ≤ d → d < m → SameB p H H' → H' p = some (.lst [.int x', .int y', .int z']) → Q (.int d) H'
structure BookP (many : Int) (bs : List Int) : Prop where
  lo : 1 ≤ many
  hi : many ≤ 8
  len : bs.length ≤ 14
  bas : ∀ x ∈ bs, InB many x
def spBookP (K : PySem.W.Frag) : Sp := fun vs H Q _ => ∃ (a : Addr) (ns : List Int) (k : Int), vs = [.ref a, .int k] ∧ SqL K H a (ns.map V.int) ∧ 0 ≤ k ∧
  ∀ (b l : Addr) (H' : Hp) (many : Int) (bs : List Int), Same H H' → H b = none → H l = none → H' b = some (.tup [.int many, .ref l]) → H' l = some (.lst (bs.map V.int)) → BookP many bs → Q (.ref b) H'
end OL

namespace OL
open PySem L2
def spMeet : Sp := fun vs H Q _ => ∃ x y : Int, vs = [.int x, .int y] ∧ Q (.int (Builtin.bitAnd x y)) H
def spJoin (K : PySem.W.Frag) : Sp := fun vs H Q _ => ∃ (b : Addr) (many : Int) (bs : List Int) (x y : Int), vs = [.ref b, .int x, .int y] ∧ Bk K H b many bs ∧ bs.length ≤ 500 ∧ 0 ≤ many ∧ many ≤ 64 ∧ ∀ H', Same H H' → Q (.int (closeF many bs (Builtin.bitOr x y))) H'
def spRight (K : PySem.W.Frag) : Sp := fun vs H Q _ => ∃ (b : Addr) (many : Int) (bs : List Int) (x y : Int), vs = [.ref b, .int x, .int y] ∧ Bk K H b many bs ∧ bs.length ≤ 500 ∧ 0 ≤ many ∧ many ≤ 12 ∧ InB many x ∧ InB many y ∧ ∀ H', Same H H' → Q (.bl true) H'
def spCRight (K : PySem.W.Frag) : Sp := fun vs H Q _ => ∃ (b : Addr) (many : Int) (bs : List Int) (x y : Int), vs = [.ref b, .int x, .int y] ∧ Bk K H b many bs ∧ bs.length ≤ 500 ∧ 0 ≤ many ∧ many ≤ 12 ∧ (∀ x ∈ bs, InB many x) ∧ InB many x ∧ InB many y ∧ closeF many bs x = x ∧ closeF many bs y = y ∧ ∀ H', Same H H' → Q (.bl true) H'
theorem and_comm' {x y : Int} (hx : 0 ≤ x) (hy : 0 ≤ y) : Builtin.bitAnd x y = Builtin.bitAnd y x :=
  th_ext (and_nn hx hy) (and_nn hy hx) fun i => by rw [th_and hx hy, th_and hy hx]; exact ⟨fun z => ⟨z.2, z.1⟩, fun z => ⟨z.2, z.1⟩⟩
section
variable {many : Int} {bs : List Int} (hb : ∀ x ∈ bs, InB many x)
include hb
end
end OL

namespace L2
open PySem PySem.Spec PyProof.Rows
end L2
namespace OL
open PySem L2
def upto (p : Int → Bool) (n : Nat) : List Int := ((List.range n).filter fun (i : Nat) => p (i : Int)).map fun (i : Nat) => (i : Int)
def thingsF (lot : Int) : List Int := upto (fun t => hasF lot (1 * 2 ^ t.toNat)) (Builtin.Int.intBits lot)
def fewF (lot : Int) : List Int := (thingsF lot).map fun t => lot - 1 * 2 ^ t.toNat
def leastP (bs : List Int) (lot : Int) : Bool := (fewF lot).all fun f => !decide (countF bs f ≤ countF bs lot)
def hitL (bs : List Int) (lot : Int) (t : Nat) : Bool := (Builtin.bitAnd (lot / 2 ^ t) 1 == 1) && (countF bs (lot - 1 * 2 ^ t) == countF bs lot)
def leastL (many : Int) (bs : List Int) (lot : Int) : Bool := (List.range many.toNat).all fun t => !hitL bs lot t
theorem bit_iff {lot : Int} (h : 0 ≤ lot) (t : Nat) : (Builtin.bitAnd (lot / 2 ^ t) 1 == 1) = true ↔ Th lot t := by
  rw [PyProof.Rows.bitAnd_m1, beq_iff_eq]
  unfold Th
  rw [Nat.testBit_eq_decide_div_mod_eq, decide_eq_true_eq, pow_cast]
  have e : lot = ((lot.toNat : Nat) : Int) := by omega
  rw [e, Int.toNat_natCast]
  constructor
  · intro z
    have : ((lot.toNat / 2 ^ t % 2 : Nat) : Int) = 1 := by push_cast; exact_mod_cast z
    omega
  · intro z
    have : ((lot.toNat / 2 ^ t % 2 : Nat) : Int) = 1 := by omega
    exact_mod_cast this
theorem has_pow {lot : Int} (h : 0 ≤ lot) (t : Nat) : hasF lot (1 * 2 ^ t) = true ↔ Th lot t := by
  rw [has_iff h (Int.le_of_lt (by have := two_pow_pos (t : Int); simpa using this))]
  constructor
  · intro z; exact z t ((th_pow t t).mpr rfl)
  · intro z i hi; rw [(th_pow t i).mp hi]; exact z
end OL
namespace OL
open PySem L2
def Sm (x : Int) : Prop := 0 ≤ x ∧ x < 4096
def withinF (lot : Int) : List Int := upto (fun i => hasF lot i) (lot + 1).toNat
def kinF (many : Int) (bs : List Int) (lot : Int) : List Int := (withinF lot).filter fun x => closeF many bs x == lot
def leastLF (many : Int) (bs : List Int) (lot : Int) : List Int := (kinF many bs lot).filter fun x => leastP bs x
def spHasT : Sp := fun vs H Q _ => ∃ lot t : Int, vs = [.int lot, .int t] ∧ 0 ≤ t ∧ t ≤ 64 ∧ Q (.bl (hasF lot (1 * 2 ^ t.toNat))) H
def spInts (g : Int → List Int) : Sp := fun vs H Q _ => ∃ lot : Int, vs = [.int lot] ∧ Sm lot ∧ ∀ (r : Addr) (H' : Hp), Same H H' → H r = none → H' r = some (.lst ((g lot).map V.int)) → Q (.ref r) H'
def spIsL (K : PySem.W.Frag) (g : Int → List Int → Int → Bool) : Sp := fun vs H Q _ => ∃ (b : Addr) (many : Int) (bs : List Int) (lot : Int), vs = [.ref b, .int lot] ∧ Bk K H b many bs ∧ bs.length ≤ 500 ∧ 0 ≤ many ∧ many ≤ 12 ∧ Sm lot ∧ ∀ H', Same H H' → Q (.bl (g many bs lot)) H'
def spBInts (K : PySem.W.Frag) (g : Int → List Int → Int → List Int) : Sp := fun vs H Q _ => ∃ (b : Addr) (many : Int) (bs : List Int) (lot : Int), vs = [.ref b, .int lot] ∧ Bk K H b many bs ∧ bs.length ≤ 500 ∧ 0 ≤ many ∧ many ≤ 12 ∧ Sm lot ∧ ∀ (r : Addr) (H' : Hp), Same H H' → H r = none → H' r = some (.lst ((g many bs lot).map V.int)) → Q (.ref r) H'
end OL
namespace OL
open PySem L2
def PairI (H : Hp) (e : Addr) (x : V) : Prop := ∃ (p t d : Addr) (ns : List Int), x = .ref p ∧ t ≠ e ∧ d ≠ e ∧ H p = some (.tup [.ref t, .ref d]) ∧ H t = some (.lst (ns.map V.int)) ∧ H d = some (.lst (ns.map V.int))
def spWholes : Sp := fun vs H Q _ => ∃ (f d : Addr) (ns : List Int), vs = [.ref f, .ref d] ∧ H f = some (.lst (ns.map V.int)) ∧ H d = some (.lst (ns.map V.int)) ∧ ∀ H', Same H H' → Q (.bl true) H'
def dueD (many : Int) (bs : List Int) (c i : Int) : Bool := (Builtin.bitAnd i c == i) && ((closeL many bs i == c) && leastL many bs i)
end OL

namespace L2
open PySem PySem.Spec PyProof.Rows
section
variable {prog : Program} {w : World} {A : Around} {E : Value → Shared → Prop} {s : Shared}
/-! ### a list of two taken apart -/
end
section
variable {X : Cx}
def gLst2 (K : PySem.W.Frag) (t : TGs) : TG := fun v σ H Q => ∃ a x y, v = .ref a ∧ SqL K H a [x, y] ∧ t [x, y] σ H Q
/-! ### for .. in enumerate(list) -/
theorem for_enum {K : PySem.W.Frag} {a : Addr} {xs : List V} {g : TG} {tb : TS} {D : Ends} {σ : St} {H : Hp} (Pv : Nat → St → Hp → Prop) (h0 : Pv 0 σ H) (hl : ∀ i σ H, i ≤ xs.length → Pv i σ H → SqL K H a xs)
    (hs : ∀ i x p σ H, xs[i]? = some x → Pv i σ H → H p = none → g (.ref p) σ (upd H p (.tup [.int (i : Nat), x])) fun σ2 H2 => tb { D with nx := Pv (i + 1), ct := Pv (i + 1), bk := D.nx } σ2 H2) (hd : ∀ σ H, Pv xs.length σ H → D.nx σ H) :
    ∃ W : Nat → Nat → St → Hp → Prop, (∃ m, W 0 m σ H) ∧ ∀ i m σ H, W i m σ H →
      ((Ite K a).stop i H ∧ D.nx σ H) ∨ ((Ite K a).go i H ∧ ∃ N : St → Hp → Prop, (∀ σ' H', N σ' H' → ∃ m', m' < m ∧ W (i + 1) m' σ' H') ∧ ∀ x H', (Ite K a).yld i H x H' → g x σ H' fun σ2 H2 => tb { D with nx := N, ct := N, bk := D.nx } σ2 H2) := by
  refine ⟨fun i m σ H => m = xs.length - i ∧ i ≤ xs.length ∧ Pv i σ H, ⟨xs.length, by simp, Nat.zero_le _, h0⟩, ?_⟩
  rintro i m σ H ⟨rfl, hi, p⟩
  have q := hl i σ H hi p
  by_cases hlt : i < xs.length
  · refine .inr ⟨⟨xs, xs[i], q, by simp [hlt]⟩, Pv (i + 1), fun σ' H' p' => ⟨xs.length - (i + 1), by omega, rfl, hlt, p'⟩, fun x H' y => ?_⟩
    obtain ⟨pp, v, e1, hp, e2, y⟩ := y
    subst e1 e2
    exact hs i v pp σ _ (y xs q) p hp
  · have e : i = xs.length := by omega
    subst e
    exact .inl ⟨⟨xs, q, Nat.le_refl _⟩, hd σ H p⟩
end
end L2

namespace L2
open PySem PySem.Spec PyProof.Rows
theorem Rows.getD {H : Hp} : ∀ {xs : List V} {rs : List (Int × Int)} {i : Nat} {x : V}, Rows H xs rs → xs[i]? = some x → Row H x (rs.getD i (0, 0))
  | _, _, _, _, .nil, e => by simp at e
  | _, _, 0, _, .cons r _, e => by simp at e; subst e; exact r
  | _, _, i + 1, x, .cons _ t, e => by
    have := Rows.getD (i := i) (x := x) t (by simpa using e)
    simpa using this
theorem Rows.at {H : Hp} {xs : List V} {rs : List (Int × Int)} {i : Nat} (h : Rows H xs rs) (hi : i < rs.length) : ∃ p, xs[i]? = some (.ref p) ∧ H p = some (.tup [.int (rs.getD i (0, 0)).1, .int (rs.getD i (0, 0)).2]) := by
  have hl := h.length
  have e : xs[i]? = some xs[i] := List.getElem?_eq_getElem (by omega)
  obtain ⟨p, e2, hp⟩ := Rows.getD h e
  exact ⟨p, by rw [e, e2], hp⟩
end L2
namespace OL
open PySem L2
def takeB (lot : Int) (r : Int × Int) : Bool := hasF lot r.1 && !hasF lot r.2
def ptF (rs : List (Int × Int)) (lot : Int) : Option Nat := rs.findIdx? (takeB lot)
def ptV : Option Nat → V
  | none => .non
  | some i => .int (i : Nat)
def unsat (rs : List (Int × Int)) (lot : Int) : Nat := (rs.filter fun r => !hasF lot r.2).length
def sndF (rs : List (Int × Int)) (i : Nat) : Int := (rs.getD i (0, 0)).2
def bF (rs : List (Int × Int)) : Nat → Int → Int × List Int
  | 0, lot => (lot, [])
  | n + 1, lot => match ptF rs lot with
    | none => (lot, [])
    | some i => ((bF rs n (Builtin.bitOr lot (sndF rs i))).1, ((i : Nat) : Int) :: (bF rs n (Builtin.bitOr lot (sndF rs i))).2)
def NN (rs : List (Int × Int)) : Prop := ∀ r ∈ rs, 0 ≤ r.1 ∧ 0 ≤ r.2
section
variable {rs : List (Int × Int)} {lot : Int} {i n : Nat}
theorem bF_none (h : ptF rs lot = none) : bF rs n lot = (lot, []) := by
  cases n with
  | zero => rfl
  | succ n => show (match ptF rs lot with | none => _ | some i => _) = _; rw [h]
theorem bF_some (h : ptF rs lot = some i) : bF rs (n + 1) lot = ((bF rs n (Builtin.bitOr lot (sndF rs i))).1, ((i : Nat) : Int) :: (bF rs n (Builtin.bitOr lot (sndF rs i))).2) := by
  show (match ptF rs lot with | none => _ | some i => _) = _; rw [h]
theorem getD_at (hi : i < rs.length) : rs.getD i (0, 0) = rs[i] := by rw [List.getD_eq_getElem?_getD, List.getElem?_eq_getElem hi]; rfl
theorem pt_some (hi : i < rs.length) (h : takeB lot (rs.getD i (0, 0)) = true) (hn : ∀ j, j < i → takeB lot (rs.getD j (0, 0)) = false) : ptF rs lot = some i := by
  unfold ptF
  rw [List.findIdx?_eq_some_iff_getElem]
  refine ⟨hi, by rw [← getD_at hi]; exact h, fun j hj => ?_⟩
  have := hn j hj
  rw [getD_at (by omega)] at this
  simp [this]
theorem pt_none (hn : ∀ j, j < rs.length → takeB lot (rs.getD j (0, 0)) = false) : ptF rs lot = none := by
  unfold ptF
  rw [List.findIdx?_eq_none_iff]
  intro x hx
  obtain ⟨j, hj, e⟩ := List.getElem_of_mem hx
  have := hn j hj
  rw [getD_at hj, e] at this
  exact this
theorem pt_get (h : ptF rs lot = some i) : i < rs.length ∧ takeB lot (rs.getD i (0, 0)) = true := by
  unfold ptF at h
  rw [List.findIdx?_eq_some_iff_getElem] at h
  obtain ⟨hi, h1, _⟩ := h
  exact ⟨hi, by rw [getD_at hi]; exact h1⟩
theorem snd_nn (hr : NN rs) (hi : i < rs.length) : 0 ≤ sndF rs i := by
  unfold sndF; rw [getD_at hi]; exact (hr _ (List.getElem_mem hi)).2
theorem unsat_le : unsat rs lot ≤ rs.length := List.length_filter_le _ _
theorem unsat_lt (hr : NN rs) (hl : 0 ≤ lot) (h : ptF rs lot = some i) : unsat rs (Builtin.bitOr lot (sndF rs i)) < unsat rs lot := by
  obtain ⟨hi, ht⟩ := pt_get h
  have hs := snd_nn hr hi
  have ho := or_nn hl hs
  unfold unsat
  refine filter_lt (fun x hx hp => ?_) ⟨rs[i], List.getElem_mem hi, ?_, ?_⟩
  · have hx0 := (hr x hx).2
    rw [Bool.not_eq_true'] at hp ⊢
    cases e : hasF lot x.2 with
    | false => rfl
    | true =>
      rw [has_iff hl hx0] at e
      rw [← hp]
      exact ((has_iff ho hx0).mpr fun j hj => (th_or hl hs j).mpr (.inl (e j hj))).symm
  · have := (Bool.and_eq_true_iff.mp ht).2
    rw [getD_at hi] at this
    exact this
  · have hx0 := (hr _ (List.getElem_mem hi)).2
    have : hasF (Builtin.bitOr lot (sndF rs i)) rs[i].2 = true := (has_iff ho hx0).mpr fun j hj => (th_or hl hs j).mpr (.inr (by unfold sndF; rw [getD_at hi]; exact hj))
    rw [this]; rfl
structure Run (rs : List (Int × Int)) (lot0 : Int) (m : Nat) (come : Int) (st : List Int) : Prop where
  un : unsat rs come ≤ m
  nn : 0 ≤ come
  eq : bF rs rs.length lot0 = ((bF rs m come).1, st ++ (bF rs m come).2)
  ln : st.length + m ≤ rs.length
theorem Run.start (h : 0 ≤ lot) : Run rs lot rs.length lot [] := ⟨unsat_le, h, by simp, by simp⟩
theorem Run.step (hr : NN rs) {lot0 : Int} {m : Nat} {come : Int} {st : List Int} (R : Run rs lot0 m come st) (h : ptF rs come = some i) : ∃ m', Run rs lot0 m' (Builtin.bitOr come (sndF rs i)) (st ++ [((i : Nat) : Int)]) := by
  have hu := unsat_lt hr R.nn h
  have := R.un
  obtain ⟨m', rfl⟩ : ∃ m', m = m' + 1 := ⟨m - 1, by omega⟩
  refine ⟨m', by omega, or_nn R.nn (snd_nn hr (pt_get h).1), ?_, ?_⟩
  · rw [R.eq, bF_some h]
    simp
  · have := R.ln
    rw [List.length_append]; show st.length + 1 + m' ≤ _; omega
theorem Run.last {lot0 : Int} {m : Nat} {come : Int} {st : List Int} (R : Run rs lot0 m come st) (h : ptF rs come = none) : bF rs rs.length lot0 = (come, st) := by
  rw [R.eq, bF_none h]; simp
theorem within_has {x y : Int} (hx : 0 ≤ x) (hy : 0 ≤ y) : (Builtin.bitAnd x y == x) = hasF y x := by
  unfold hasF
  rw [and_comm' hx hy]
end
theorem bF_len {rs : List (Int × Int)} : ∀ (n : Nat) (lot : Int), (bF rs n lot).2.length ≤ n
  | 0, lot => Nat.zero_le _
  | n + 1, lot => by
    cases e : ptF rs lot with
    | none => rw [bF_none e]; exact Nat.zero_le _
    | some i => rw [bF_some e]; have := bF_len (rs := rs) n (Builtin.bitOr lot (sndF rs i)); simp; omega
def RL (H : Hp) (a : Addr) (rs : List (Int × Int)) : Prop := ∃ xs, H a = some (.lst xs) ∧ Rows H xs rs
theorem RL.same {H H' : Hp} {a : Addr} {rs : List (Int × Int)} (h : RL H a rs) (S : Same H H') : RL H' a rs := by
  obtain ⟨xs, h1, h2⟩ := h
  exact ⟨xs, S _ _ h1, h2.same S.t⟩
def spPlace : Sp := fun vs H Q _ => ∃ (a : Addr) (rs : List (Int × Int)) (lot : Int), vs = [.ref a, .int lot] ∧ RL H a rs ∧ ∀ H', Same H H' → Q (ptV (ptF rs lot)) H'
def spBrought : Sp := fun vs H Q _ => ∃ (a : Addr) (rs : List (Int × Int)) (lot : Int), vs = [.ref a, .int lot] ∧ RL H a rs ∧ rs.length ≤ 100 ∧ NN rs ∧ 0 ≤ lot ∧
  ∀ (t s : Addr) (H' : Hp), Same H H' → H t = none → H s = none → H' t = some (.tup [.int (bF rs rs.length lot).1, .ref s]) → H' s = some (.lst ((bF rs rs.length lot).2.map V.int)) → Q (.ref t) H'
def spRulesL : Sp := fun vs H Q _ => ∃ (c many most : Int), vs = [.int c, .int many, .int most] ∧ 0 ≤ many ∧ many ≤ 12 ∧ 0 ≤ most ∧ most ≤ 20 ∧
  ∀ (r : Addr) (rs : List (Int × Int)) (H' : Hp), Same H H' → H r = none → RL H' r rs → (rs.length : Int) ≤ most → (∀ x ∈ rs, Sm x.1 ∧ Sm x.2) → Q (.ref r) H'
def shR (f : Int) (r : Int × Int) : Int × Int := (r.1 * 2 ^ f.toNat, r.2 * 2 ^ f.toNat)
/-- an early one: two tuples of a lot and steps -/
def PairB (H : Hp) (e : Addr) (x : V) : Prop := ∃ (p t d s1 s2 : Addr) (c : Int) (ns : List Int), x = .ref p ∧ s1 ≠ e ∧ s2 ≠ e ∧ H p = some (.tup [.ref t, .ref d]) ∧ H t = some (.tup [.int c, .ref s1]) ∧ H d = some (.tup [.int c, .ref s2]) ∧ H s1 = some (.lst (ns.map V.int)) ∧ H s2 = some (.lst (ns.map V.int))
def spWithin : Sp := fun vs H Q _ => ∃ x y : Int, vs = [.int x, .int y] ∧ Q (.bl (Builtin.bitAnd x y == x)) H
end OL

namespace OL
open PySem L2
theorem th_diff {c o : Int} (hc : 0 ≤ c) (ho : 0 ≤ o) (h : hasF c o = true) (i : Nat) : Th (c - o) i ↔ Th c i ∧ ¬ Th o i := by
  have hi := (has_iff hc ho).mp h
  have e1 : Builtin.bitOr c o = c := th_ext (or_nn hc ho) hc fun i => by
    rw [th_or hc ho]; exact ⟨fun z => z.elim id (hi i), .inl⟩
  have e2 : Builtin.bitAnd c o = o := by unfold hasF at h; exact beq_iff_eq.mp h
  have e3 : Builtin.bitXor c o = c - o := by
    show Builtin.bitOr c o - Builtin.bitAnd c o = _
    rw [e1, e2]
  have hoc : o.toNat &&& c.toNat = o.toNat := by
    rw [PyProof.Rows.bitAnd_pp hc ho] at e2
    rw [Nat.and_comm]; omega
  have key : c.toNat - o.toNat = c.toNat ^^^ o.toNat := by
    have h1 : (c.toNat ^^^ o.toNat) &&& o.toNat = 0 := by
      apply Nat.eq_of_testBit_eq
      intro j
      have hj : (o.toNat.testBit j && c.toNat.testBit j) = o.toNat.testBit j := by rw [← Nat.testBit_and, hoc]
      rw [Nat.testBit_and, Nat.testBit_xor, Nat.zero_testBit]
      revert hj
      generalize c.toNat.testBit j = p
      generalize o.toNat.testBit j = q
      cases p <;> cases q <;> decide
    have h2 : (c.toNat ^^^ o.toNat) ||| o.toNat = c.toNat := by
      apply Nat.eq_of_testBit_eq
      intro j
      have hj : (o.toNat.testBit j && c.toNat.testBit j) = o.toNat.testBit j := by rw [← Nat.testBit_and, hoc]
      rw [Nat.testBit_or, Nat.testBit_xor]
      revert hj
      generalize c.toNat.testBit j = p
      generalize o.toNat.testBit j = q
      cases p <;> cases q <;> decide
    have h3 := PyProof.Rows.bitOr_and ((c.toNat ^^^ o.toNat : Nat) : Int) ((o.toNat : Nat) : Int)
    rw [or_pp (Int.natCast_nonneg _) (Int.natCast_nonneg _), PyProof.Rows.bitAnd_pp (Int.natCast_nonneg _) (Int.natCast_nonneg _), Int.toNat_natCast, Int.toNat_natCast, h1, h2] at h3
    omega
  have hle : o ≤ c := by
    have : o.toNat &&& c.toNat ≤ c.toNat := Nat.and_le_right
    omega
  unfold Th
  have et : (c - o).toNat = c.toNat - o.toNat := by omega
  rw [et, key, Nat.testBit_xor]
  have hj : (o.toNat.testBit i && c.toNat.testBit i) = o.toNat.testBit i := by rw [← Nat.testBit_and, hoc]
  revert hj
  generalize c.toNat.testBit i = p
  generalize o.toNat.testBit i = q
  cases p <;> cases q <;> decide
theorem diff_nn {c o : Int} (hc : 0 ≤ c) (ho : 0 ≤ o) (h : hasF c o = true) : 0 ≤ c - o := by
  unfold hasF at h
  have e := beq_iff_eq.mp h
  rw [PyProof.Rows.bitAnd_pp hc ho] at e
  have : c.toNat &&& o.toNat ≤ c.toNat := Nat.and_le_left
  omega
def wantB (many : Int) (bs : List Int) (rs : List (Int × Int)) (n : Int) : Bool := (!(closeF many bs n == n)) && (ptF rs n).isNone
def fewU (many : Int) (bs : List Int) : Nat → List (Int × Int)
  | 0 => []
  | n + 1 => if wantB many bs (fewU many bs n) (n : Int) = true then fewU many bs n ++ [((n : Int), closeF many bs (n : Int) - (n : Int))] else fewU many bs n
theorem few_yes {many : Int} {bs : List Int} {n : Nat} (h : wantB many bs (fewU many bs n) (n : Int) = true) : fewU many bs (n + 1) = fewU many bs n ++ [((n : Int), closeF many bs (n : Int) - (n : Int))] := by
  show (if _ then _ else _) = _; rw [if_pos h]
theorem few_no {many : Int} {bs : List Int} {n : Nat} (h : ¬ wantB many bs (fewU many bs n) (n : Int) = true) : fewU many bs (n + 1) = fewU many bs n := by
  show (if _ then _ else _) = _; rw [if_neg h]
theorem fewU_len (many : Int) (bs : List Int) : ∀ n, (fewU many bs n).length ≤ n
  | 0 => Nat.le_refl _
  | n + 1 => by
    have ih := fewU_len many bs n
    by_cases h : wantB many bs (fewU many bs n) (n : Int) = true
    · rw [few_yes h, List.length_append]; show _ + 1 ≤ _; omega
    · rw [few_no h]; omega
/-- a lot in the law's way: what breaks it -/
def brkL (many : Int) (bs : List Int) (lot o : Int) : Bool := (Builtin.bitAnd o lot == o) && !(Builtin.bitAnd (closeL many bs o) lot == closeL many bs o)
def wantsL (many : Int) (bs : List Int) (lot : Int) (ls : List Int) : Bool := (!(closeL many bs lot == lot)) && !(ls.any fun o => brkL many bs lot o)
def wlotsU (many : Int) (bs : List Int) : Nat → List Int
  | 0 => []
  | n + 1 => if wantsL many bs (n : Int) (wlotsU many bs n) = true then wlotsU many bs n ++ [(n : Int)] else wlotsU many bs n
section
variable {many : Int} {bs : List Int} (hb : ∀ x ∈ bs, InB many x)
include hb
end
def spKeeps : Sp := fun vs H Q _ => ∃ (a : Addr) (rs : List (Int × Int)) (lot : Int), vs = [.int lot, .ref a] ∧ RL H a rs ∧ ∀ H', Same H H' → Q (.bl (ptF rs lot).isNone) H'
def spFew (K : PySem.W.Frag) : Sp := fun vs H Q _ => ∃ (b : Addr) (many : Int) (bs : List Int), vs = [.ref b] ∧ Bk K H b many bs ∧ bs.length ≤ 500 ∧ 0 ≤ many ∧ many ≤ 12 ∧ (∀ x ∈ bs, InB many x) ∧ ∀ (r : Addr) (xs : List V) (H' : Hp), Same H H' → H r = none → H' r = some (.lst xs) → Rows H' xs (fewU many bs (2 ^ many.toNat)) → Q (.ref r) H'
def spWants (K : PySem.W.Frag) : Sp := fun vs H Q _ => ∃ (b o : Addr) (many : Int) (bs : List Int) (lot : Int) (ls : List Int), vs = [.ref b, .int lot, .ref o] ∧ Bk K H b many bs ∧ bs.length ≤ 500 ∧ 0 ≤ many ∧ many ≤ 12 ∧ SqL K H o (ls.map V.int) ∧ ∀ H', Same H H' → Q (.bl (wantsL many bs lot ls)) H'
end OL

namespace L2
open PySem PySem.Spec PyProof.Rows
section
variable {X : Cx}
/-! ### str of a list or tuple of data -/
theorem call_strD {k : Nat} (hr : Room k X.A) : CallR X (.type "str") (fun xs H Q => ∃ p d, xs = [.ref p] ∧ DR X.K H (.ref p) d ∧ d.showable = true ∧ d.hasDict = false ∧ d.depth ≤ 60 ∧ d.shown.length ≤ sizeLine ∧ Q (.str d.shown) H) := by
  intro pins s σ H xs us Q I r h
  obtain ⟨p, d, rfl, hd, h1, h2, h3, h4, q⟩ := h
  obtain ⟨u, rfl, ru⟩ := vals1 r
  cases (show u = Value.ref p from ru)
  obtain ⟨as, ra⟩ := hd.reads I ru
  exact str_of_reads ra h1 (PyData.noDict_hsm h2) hr.gd (by have := hr.un; omega) (fun _ _ e => e) (fun h' u tk hk => ⟨.str d.shown, H, I.kept hk, ⟨u, rfl⟩, q⟩) h4
end
end L2

namespace OL
open PySem L2
def gcdF (x y : Int) : Int := (Nat.gcd x.toNat y.toNat : Nat)
def shA (t b : Int) : List Int := [t / gcdF t b, b / gcdF t b]
/-- the share of t in b: nothing where b is nought, else a tuple -/
def Sh (K : PySem.W.Frag) (H : Hp) (v : V) (t b : Int) : Prop := (b = 0 ∧ v = .non) ∨ (0 < b ∧ ∃ p, v = .ref p ∧ H p = some (.tup ((shA t b).map V.int)))
def shD (t b : Int) : PyData := if b = 0 then .none else .tuple ((shA t b).map PyData.int)
/-- a rule: a tuple of two lots -/
def Rl (K : PySem.W.Frag) (H : Hp) (r : Addr) (x y : Int) : Prop := SqT K H r [.int x, .int y]
def spRuleC (K : PySem.W.Frag) (g : List Int → Int → Int → V) : Sp := fun vs H Q _ => ∃ (b r : Addr) (many : Int) (bs : List Int) (x y : Int), vs = [.ref b, .ref r] ∧ Bk K H b many bs ∧ Rl K H r x y ∧ bs.length ≤ 500 ∧ 0 ≤ many ∧ many ≤ 64 ∧ ∀ H', Same H H' → Q (g bs x y) H'
def spShare (K : PySem.W.Frag) : Sp := fun vs H Q _ => ∃ (b r : Addr) (many : Int) (bs : List Int) (x y : Int), vs = [.ref b, .ref r] ∧ Bk K H b many bs ∧ Rl K H r x y ∧ bs.length ≤ 500 ∧ 0 ≤ many ∧ many ≤ 64 ∧ ∀ v H', Same H H' → Sh K H' v (countF bs (Builtin.bitOr x y)) (countF bs x) → Q v H'
def spLow : Sp := fun vs H Q _ => ∃ (t b : Int), vs = [.int t, .int b] ∧ 0 ≤ t ∧ 0 < b ∧ b ≤ 500 ∧ ∀ p, H p = none → Q (.ref p) (upd H p (.tup ((shA t b).map V.int)))
def spDivL : Sp := fun vs H Q _ => ∃ (x y : Int), vs = [.int x, .int y] ∧ 0 ≤ x ∧ 0 ≤ y ∧ Q (.int (gcdF x y)) H
end OL

namespace OL
open PySem L2
section
variable {many : Int} {bs : List Int}
theorem few_mem (many : Int) (bs : List Int) : ∀ n r, r ∈ fewU many bs n → ∃ j : Nat, j < n ∧ r = ((j : Int), closeF many bs (j : Int) - (j : Int))
  | 0, r, h => nomatch h
  | n + 1, r, h => by
    by_cases w : wantB many bs (fewU many bs n) (n : Int) = true
    · rw [few_yes w] at h
      rcases List.mem_append.mp h with z | z
      · obtain ⟨j, hj, e⟩ := few_mem many bs n r z; exact ⟨j, by omega, e⟩
      · exact ⟨n, by omega, by simpa using z⟩
    · rw [few_no w] at h
      obtain ⟨j, hj, e⟩ := few_mem many bs n r h; exact ⟨j, by omega, e⟩
theorem few_up (many : Int) (bs : List Int) {m : Nat} : ∀ n, m ≤ n → ∀ r, r ∈ fewU many bs m → r ∈ fewU many bs n
  | 0, h, r, hr => by have : m = 0 := by omega
                      subst this; exact hr
  | n + 1, h, r, hr => by
    by_cases e : m = n + 1
    · subst e; exact hr
    · have := few_up many bs n (by omega) r hr
      by_cases w : wantB many bs (fewU many bs n) (n : Int) = true
      · rw [few_yes w]; exact List.mem_append_left _ this
      · rw [few_no w]; exact this
theorem nat_InB {j : Nat} (h : j < 2 ^ many.toNat) : InB many (j : Int) := ⟨Int.natCast_nonneg _, by rw [pow_cast]; omega⟩
variable (hb : ∀ x ∈ bs, InB many x)
include hb
theorem few_InB {r : Int × Int} (h : r ∈ fewU many bs (2 ^ many.toNat)) : InB many r.1 ∧ InB many r.2 := by
  obtain ⟨j, hj, rfl⟩ := few_mem many bs _ r h
  have hi := nat_InB hj
  refine ⟨hi, diff_nn (close_in hb _).1 hi.1 (close_has hb hi), ?_⟩
  have := (close_in hb (j : Int)).2
  have := hi.1
  show closeF many bs (j : Int) - (j : Int) < _
  omega
/-- what no rule leads on from is closed -/
theorem few_end {w : Int} (hw : InB many w) (h : ptF (fewU many bs (2 ^ many.toNat)) w = none) : closeF many bs w = w := by
  obtain ⟨n, rfl⟩ : ∃ n : Nat, w = (n : Int) := ⟨w.toNat, by have := hw.1; omega⟩
  have hn : n < 2 ^ many.toNat := by have := hw.2; rw [pow_cast] at this; omega
  have hno : ∀ r ∈ fewU many bs (2 ^ many.toNat), takeB (n : Int) r = false := by
    unfold ptF at h
    rw [List.findIdx?_eq_none_iff] at h
    exact h
  by_cases e : closeF many bs (n : Int) = (n : Int)
  · exact e
  exfalso
  have wt : wantB many bs (fewU many bs n) (n : Int) = true := by
    unfold wantB
    rw [Bool.and_eq_true_iff]
    refine ⟨by simpa using e, ?_⟩
    rw [Option.isNone_iff_eq_none]
    unfold ptF
    rw [List.findIdx?_eq_none_iff]
    exact fun r hr => hno r (few_up many bs _ (by omega) r hr)
  have hin : ((n : Int), closeF many bs (n : Int) - (n : Int)) ∈ fewU many bs (2 ^ many.toNat) := few_up many bs (m := n + 1) _ (by omega) _ (by rw [few_yes wt]; simp)
  have hf := hno _ hin
  have hc := close_in hb (n : Int)
  have hch := close_has hb hw
  have hd := diff_nn hc.1 hw.1 hch
  unfold takeB at hf
  have h1 : hasF (n : Int) (n : Int) = true := (has_iff hw.1 hw.1).mpr fun _ z => z
  rw [h1, Bool.true_and, Bool.not_eq_false'] at hf
  have h2 := (has_iff hw.1 hd).mp hf
  refine e (th_ext hc.1 hw.1 fun i => ⟨fun z => ?_, (has_iff hc.1 hw.1).mp hch i⟩)
  by_cases y : Th (n : Int) i
  · exact y
  · exact h2 i ((th_diff hc.1 hw.1 hch i).mpr ⟨z, y⟩)
end
/-- the steps that are needed, and the lot they come to -/
def needF (rs : List (Int × Int)) (t : Int) : Int → List Int → List Int
  | _, [] => []
  | c, p :: ps => if hasF c t = true then [] else p :: needF rs t (Builtin.bitOr c (sndF rs p.toNat)) ps
def goF (rs : List (Int × Int)) (t : Int) : Int → List Int → Int
  | c, [] => c
  | c, p :: ps => if hasF c t = true then c else goF rs t (Builtin.bitOr c (sndF rs p.toNat)) ps
def showF (rs : List (Int × Int)) (t : Int) : Int → List Int → Bool
  | c, [] => hasF c t
  | c, p :: ps => if (decide (p < 0) || (decide ((rs.length : Int) ≤ p) || !hasF c (rs.getD p.toNat (0, 0)).1)) = true then false else showF rs t (Builtin.bitOr c (sndF rs p.toNat)) ps
section
variable {rs : List (Int × Int)} {t : Int}
theorem need_stop {c : Int} (h : hasF c t = true) : ∀ ps, needF rs t c ps = []
  | [] => rfl
  | p :: ps => by show (if _ then _ else _) = _; rw [if_pos h]
theorem need_go {c p : Int} {ps : List Int} (h : ¬ hasF c t = true) : needF rs t c (p :: ps) = p :: needF rs t (Builtin.bitOr c (sndF rs p.toNat)) ps := by show (if _ then _ else _) = _; rw [if_neg h]
variable (hr : NN rs) (ht : 0 ≤ t)
include hr ht
end
theorem bF_places {rs : List (Int × Int)} : ∀ (n : Nat) (c : Int) (p : Int), p ∈ (bF rs n c).2 → ∃ i : Nat, i < rs.length ∧ p = (i : Int)
  | 0, c, p, h => nomatch h
  | n + 1, c, p, h => by
    cases e : ptF rs c with
    | none => rw [bF_none e] at h; nomatch h
    | some i =>
      rw [bF_some e] at h
      rcases List.mem_cons.mp h with z | z
      · exact ⟨i, (pt_get e).1, z⟩
      · exact bF_places n _ p z
end OL
namespace OL
open PySem L2
def comeF (rs : List (Int × Int)) (x : Int) : Int := (bF rs rs.length x).1
def stepsF (rs : List (Int × Int)) (x : Int) : List Int := (bF rs rs.length x).2
/-- what follows tells -/
def FlT (H : Hp) (t : Addr) (rs : List (Int × Int)) (x y : Int) : Prop :=
  (hasF (comeF rs x) y = true ∧ ∃ s, H t = some (.tup [.str "by", .ref s]) ∧ H s = some (.lst ((needF rs y x (stepsF rs x)).map V.int))) ∨ (hasF (comeF rs x) y = false ∧ H t = some (.tup [.str "shut", .int (comeF rs x)]))
def flD (rs : List (Int × Int)) (x y : Int) : PyData := if hasF (comeF rs x) y = true then .tuple [.str "by", .list ((needF rs y x (stepsF rs x)).map PyData.int)] else .tuple [.str "shut", .int (comeF rs x)]
def spNeeded (K : PySem.W.Frag) : Sp := fun vs H Q _ => ∃ (a r s : Addr) (rs : List (Int × Int)) (x y : Int) (ps : List Int), vs = [.ref a, .ref r, .ref s] ∧ RL H a rs ∧ Rl K H r x y ∧ H s = some (.lst (ps.map V.int)) ∧ ps.length ≤ 100 ∧ (∀ p ∈ ps, ∃ i : Nat, i < rs.length ∧ p = (i : Int)) ∧
  ∀ (n : Addr) (H' : Hp), Same H H' → H n = none → H' n = some (.lst ((needF rs y x ps).map V.int)) → Q (.ref n) H'
def spFollows (K : PySem.W.Frag) : Sp := fun vs H Q _ => ∃ (a r : Addr) (rs : List (Int × Int)) (x y : Int), vs = [.ref a, .ref r] ∧ RL H a rs ∧ Rl K H r x y ∧ rs.length ≤ 100 ∧ NN rs ∧ 0 ≤ x ∧ 0 ≤ y ∧
  ∀ (t : Addr) (H' : Hp), Same H H' → FlT H' t rs x y → Q (.ref t) H'
def spStepsS (K : PySem.W.Frag) : Sp := fun vs H Q _ => ∃ (a r s : Addr) (rs : List (Int × Int)) (x y : Int) (ps : List Int), vs = [.ref a, .ref r, .ref s] ∧ RL H a rs ∧ Rl K H r x y ∧ H s = some (.lst (ps.map V.int)) ∧
  ∀ (H' : Hp), Same H H' → Q (.bl (showF rs y x ps)) H'
def spLotS (K : PySem.W.Frag) : Sp := fun vs H Q _ => ∃ (a r : Addr) (rs : List (Int × Int)) (x y l : Int), vs = [.ref a, .ref r, .int l] ∧ RL H a rs ∧ Rl K H r x y ∧
  ∀ (H' : Hp), Same H H' → Q (.bl (decide (l ≥ 0) && (hasF l x && (!hasF l y && (ptF rs l).isNone)))) H'
def spFollowH (K : PySem.W.Frag) : Sp := fun vs H Q _ => ∃ (a r t : Addr) (rs : List (Int × Int)) (x y : Int), vs = [.ref a, .ref r, .ref t] ∧ RL H a rs ∧ Rl K H r x y ∧ NN rs ∧ 0 ≤ x ∧ 0 ≤ y ∧ FlT H t rs x y ∧
  ∀ (H' : Hp), Same H H' → Q (.bl true) H'
def spRulesB : Sp := fun vs H Q _ => ∃ (c many most : Int), vs = [.int c, .int many, .int most] ∧ 0 ≤ many ∧ many ≤ 12 ∧ 0 ≤ most ∧ most ≤ 20 ∧
  ∀ (r : Addr) (rs : List (Int × Int)) (H' : Hp), Same H H' → H r = none → RL H' r rs → (rs.length : Int) ≤ most → (∀ x ∈ rs, InB many x.1 ∧ InB many x.2) → Q (.ref r) H'
theorem drop_get {ps : List Int} {i : Nat} (h : i < ps.length) : ps.drop i = ps.getD i 0 :: ps.drop (i + 1) := by
  rw [List.drop_eq_getElem_cons h, List.getD_eq_getElem?_getD, List.getElem?_eq_getElem h]; rfl
end OL

namespace L2
open PySem PySem.Spec PyProof.Rows
section
variable {X : Cx}
end
section
variable {K : PySem.W.Frag} {m : Nat} {js : List Nat} {g : TG} {c : TT} {te : TE} {σ : St} {H1 : Hp} {Q : VK}
end
end L2

namespace OL
open PySem L2
def colU (bs : List Int) (lot : Int) : Nat → Int
  | 0 => 0
  | n + 1 => if hasF (bs.getD n 0) lot then colU bs lot n + 1 * 2 ^ n else colU bs lot n
def colF (bs : List Int) (lot : Int) : Int := colU bs lot bs.length
def lotOf (ps : List Int) : Int := ps.foldl (fun acc p => Builtin.bitOr acc (1 * 2 ^ p.toNat)) 0
def colsU (bs : List Int) (n : Nat) : List Int := (List.range n).map fun (t : Nat) => colF bs (1 * 2 ^ t)
def spWith : Sp := fun vs H Q _ => ∃ (lot t : Int), vs = [.int lot, .int t] ∧ 0 ≤ t ∧ t ≤ 1000 ∧ Q (.int (Builtin.bitOr lot (1 * 2 ^ t.toNat))) H
def spLotOf (K : PySem.W.Frag) : Sp := fun vs H Q _ => ∃ (p : Addr) (ps : List Int), vs = [.ref p] ∧ SqL K H p (ps.map V.int) ∧ (∀ q ∈ ps, 0 ≤ q ∧ q ≤ 1000) ∧ Q (.int (lotOf ps)) H
def spCols (K : PySem.W.Frag) : Sp := fun vs H Q _ => ∃ (b : Addr) (many : Int) (bs : List Int), vs = [.ref b] ∧ Bk K H b many bs ∧ bs.length ≤ 500 ∧ 0 ≤ many ∧ many ≤ 64 ∧ ∀ (r : Addr) (H' : Hp), Same H H' → H r = none → H' r = some (.lst ((colsU bs many.toNat).map V.int)) → Q (.ref r) H'
def spPop62 : Sp := fun vs H Q _ => ∃ (l : Addr) (ds : List Int), vs = [.ref l] ∧ H l = some (.lst (ds.map V.int)) ∧ ∀ (d : Int) (ds' : List Int) (H' : Hp), SameB l H H' → H' l = some (.lst (ds'.map V.int)) → Q (.int d) H'
def spDraws62 (K : PySem.W.Frag) : Sp := fun vs H Q _ => ∃ (a : Addr) (ns : List Int) (tn mn : Int), vs = [.ref a, .int tn, .int mn] ∧ SqL K H a (ns.map V.int) ∧ ns.length ≤ 63 ∧ 0 ≤ tn ∧ tn ≤ 100 ∧ 0 ≤ mn ∧ mn ≤ 100 ∧ ∀ (r : Addr) (ds : List Int) (H' : Hp), Same H H' → H r = none → H' r = some (.lst (ds.map V.int)) → Q (.ref r) H'
def spBook62 : Sp := fun vs H Q _ => ∃ (l : Addr) (ds : List Int) (most : Int), vs = [.ref l, .int most] ∧ H l = some (.lst (ds.map V.int)) ∧ 1 ≤ most ∧ most ≤ 12 ∧
  ∀ (b bl : Addr) (many : Int) (bs ds' : List Int) (H' : Hp), SameB l H H' → H b = none → H bl = none → H' b = some (.tup [.int many, .ref bl]) → H' bl = some (.lst (bs.map V.int)) → H' l = some (.lst (ds'.map V.int)) → BookOk many bs most 24 → Q (.ref b) H'
def spCopy (K : PySem.W.Frag) : Sp := fun vs H Q _ => ∃ (b : Addr) (many : Int) (bs : List Int), vs = [.ref b] ∧ Bk K H b many bs ∧ ∀ (c cl : Addr) (H' : Hp), Same H H' → H c = none → H cl = none → H' c = some (.tup [.int many, .ref cl]) → H' cl = some (.lst (bs.map V.int)) → Q (.ref c) H'
end OL

namespace L2
open PySem PySem.Spec PyProof.Rows
/-! ### list(reversed(x)) of a list -/
section
variable {prog : Program} {w : World} {A : Around} {s : Shared} {R : Result → Shared → Prop} {it : Addr} {fp wr : List Addr} {GG : Array GenState → Array GenState → Prop} {n : Nat} {PP : Nat → Value → Prop} {St : Nat → Shared → Prop}
end
section
variable {prog : Program} {w : World} {A : Around} {E : Value → Shared → Prop} {s : Shared}
end
section
variable {X : Cx}
/-- list(reversed(x)), x a list -/
def tLRev (K : PySem.W.Frag) (ta : TA) : TE := fun σ H Q => ta σ H fun vs H1 => ∃ a xs, vs = [.ref a] ∧ SqL K H1 a xs ∧ ∀ l, H1 l = none → Q (.ref l) (upd H1 l (.lst xs.reverse))
/-! ### for .. in reversed(list) -/
def Itv (K : PySem.W.Frag) (a : Addr) (n : Nat) : It := ⟨fun i H => i < n ∧ ∃ xs, SqL K H a xs ∧ xs.length = n, fun i H x H' => H' = H ∧ ∀ xs, SqL K H a xs → xs[n - 1 - i]? = some x, fun i _ => i = n⟩
def iRev (K : PySem.W.Frag) (ta : TA) : TI := fun σ H R => ta σ H fun vs H1 => ∃ a xs, vs = [.ref a] ∧ SqL K H1 a xs ∧ R (Itv K a xs.length) H1
end
end L2

namespace OL
open PySem L2
def overF (x y : Int) : Bool := (!decide (x = y)) && hasF x y
def nextL (ls : List Int) (x y : Int) : Bool := overF x y && (ls.filter fun m => overF x m && overF m y).isEmpty
def keepB (ls : List Int) (T : Int → Bool) (R : Int → Int → Bool) (x : Int) : Bool := T x && !(ls.any fun m => R x m && T m)
structure Rise (ls : List Int) : Prop where
  up : ls.Pairwise (· < ·)
  nn : ∀ x ∈ ls, 0 ≤ x
def abT (lot : Int) (x : Int) : Bool := overF x lot
def beT (lot : Int) (x : Int) : Bool := overF lot x
def spLotsOf : Sp := fun vs H Q _ => ∃ (a : Addr) (rs : List (Int × Int)), vs = [.ref a] ∧ RL H a rs ∧ rs.length ≤ 5000 ∧ ∀ (r : Addr) (H' : Hp), Same H H' → H r = none → H' r = some (.lst ((rs.map Prod.fst).map V.int)) → Q (.ref r) H'
def spAny (K : PySem.W.Frag) (g : Int → Int → Bool) : Sp := fun vs H Q _ => ∃ (x : Int) (o : Addr) (ts : List Int), vs = [.int x, .ref o] ∧ SqL K H o (ts.map V.int) ∧ Q (.bl (ts.any fun t => g x t)) H
def spNb (g : List Int → Int → Int → Bool) : Sp := fun vs H Q _ => ∃ (a : Addr) (rs : List (Int × Int)) (lot : Int), vs = [.ref a, .int lot] ∧ RL H a rs ∧ rs.length ≤ 5000 ∧ Rise (rs.map Prod.fst) ∧ 0 ≤ lot ∧
  ∀ (r : Addr) (H' : Hp), Same H H' → H r = none → H' r = some (.lst (((rs.map Prod.fst).filter fun x => g (rs.map Prod.fst) x lot).map V.int)) → Q (.ref r) H'
def spOver : Sp := fun vs H Q _ => ∃ x y : Int, vs = [.int x, .int y] ∧ Q (.bl (overF x y)) H
def spNextL (K : PySem.W.Frag) : Sp := fun vs H Q _ => ∃ (o : Addr) (ls : List Int) (x y : Int), vs = [.ref o, .int x, .int y] ∧ SqL K H o (ls.map V.int) ∧ ls.length ≤ 5000 ∧ ∀ H', Same H H' → Q (.bl (nextL ls x y)) H'
end OL

namespace OL
open PySem L2
def stepL (ls : List Int) (cur other : Int) : List Int := (ls.filter fun x => nextL ls x cur).filter fun x => hasF other x
def lastF (w : List Int) : Int := w.getD (w.length - 1) 0
structure WayP (ls : List Int) (one other : Int) (w : List Int) : Prop where
  pos : 0 < w.length
  first : w.getD 0 0 = one
  mem : ∀ x ∈ w, x ∈ ls
  steps : ∀ j, j + 1 < w.length → nextL ls (w.getD (j + 1) 0) (w.getD j 0) = true
  inn : hasF other (lastF w) = true
  len : (w.length : Int) ≤ lastF w + 1
def spStep (K : PySem.W.Frag) : Sp := fun vs H Q _ => ∃ (a : Addr) (rs : List (Int × Int)) (lot other : Int), vs = [.ref a, .int lot, .int other] ∧ RL H a rs ∧ rs.length ≤ 5000 ∧ Rise (rs.map Prod.fst) ∧ lot ∈ rs.map Prod.fst ∧ other ∈ rs.map Prod.fst ∧ overF other lot = true ∧
  ∀ (x : Int) (H' : Hp), Same H H' → x ∈ rs.map Prod.fst → nextL (rs.map Prod.fst) x lot = true → hasF other x = true → Q (.int x) H'
def spWay (K : PySem.W.Frag) : Sp := fun vs H Q _ => ∃ (a : Addr) (rs : List (Int × Int)) (one other : Int), vs = [.ref a, .int one, .int other] ∧ RL H a rs ∧ rs.length ≤ 5000 ∧ Rise (rs.map Prod.fst) ∧ one ∈ rs.map Prod.fst ∧ other ∈ rs.map Prod.fst ∧ hasF other one = true ∧ other < 4000 ∧
  ∀ (r : Addr) (w : List Int) (H' : Hp), Same H H' → H r = none → H' r = some (.lst (w.map V.int)) → WayP (rs.map Prod.fst) one other w → lastF w = other → Q (.ref r) H'
def spIsWay : Sp := fun vs H Q _ => ∃ (a f : Addr) (rs : List (Int × Int)) (w : List Int) (one other : Int), vs = [.ref a, .ref f, .int one, .int other] ∧ RL H a rs ∧ rs.length ≤ 5000 ∧ Rise (rs.map Prod.fst) ∧ H f = some (.lst (w.map V.int)) ∧ w.length ≤ 4100 ∧ WayP (rs.map Prod.fst) one other w ∧ lastF w = other ∧ ∀ H', Same H H' → Q (.bl true) H'
end OL

namespace L2
open PySem PySem.Spec PyProof.Rows
/-! gt# max(list of ints, default=None) -/
section
variable {prog : Program} {w : World} {A : Around} {R : Result → Shared → Prop} {it : Addr} {fp wr : List Addr} {n : Nat} {PP : Nat → Value → Prop} {St : Nat → Heap → Prop}
end
section
variable {X : Cx}
/-- the value: None of none, else the best of the ints -/
def bstmax (ns : List Int) : Nat → Int
  | 0 => ns.getD 0 0
  | j + 1 => if ns.getD (j + 1) 0 > bstmax ns j then ns.getD (j + 1) 0 else bstmax ns j
def valmax (ns : List Int) : V := if ns.length = 0 then .non else .int (bstmax ns (ns.length - 1))
def tDvmax (K : PySem.W.Frag) (ta : TA) : TE := fun σ H Q => ta σ H fun vs H1 => ∃ a ns, vs = [.ref a] ∧ SqL K H1 a (ns.map V.int) ∧ Q (valmax ns) H1
end
/-! lt# min(list of ints, default=None) -/
section
variable {prog : Program} {w : World} {A : Around} {R : Result → Shared → Prop} {it : Addr} {fp wr : List Addr} {n : Nat} {PP : Nat → Value → Prop} {St : Nat → Heap → Prop}
end
section
variable {X : Cx}
/-- the value: None of none, else the best of the ints -/
def bstmin (ns : List Int) : Nat → Int
  | 0 => ns.getD 0 0
  | j + 1 => if ns.getD (j + 1) 0 < bstmin ns j then ns.getD (j + 1) 0 else bstmin ns j
def valmin (ns : List Int) : V := if ns.length = 0 then .non else .int (bstmin ns (ns.length - 1))
def tDvmin (K : PySem.W.Frag) (ta : TA) : TE := fun σ H Q => ta σ H fun vs H1 => ∃ a ns, vs = [.ref a] ∧ SqL K H1 a (ns.map V.int) ∧ Q (valmin ns) H1
end
end L2

namespace L2
open PySem PySem.Spec PyProof.Rows
section
variable {X : Cx}
def rSumI (K : PySem.W.Frag) : List V → Hp → VK → Prop := fun xs H Q => ∃ (p : Addr) (ns : List Int), xs = [.ref p] ∧ SqL K H p (ns.map V.int) ∧ Q (.int (List.sum ns)) H
/-- sorted of a list of fewer than 64 whole numbers -/
def rSortI (K : PySem.W.Frag) : List V → Hp → VK → Prop := fun xs H Q => ∃ (p : Addr) (ns : List Int), xs = [.ref p] ∧ SqL K H p (ns.map V.int) ∧ ns.length < 64 ∧ ∀ (l : Addr) (ns' : List Int), H l = none → ns'.Perm ns → ns'.Pairwise (· ≤ ·) → Q (.ref l) (upd H l (.lst (ns'.map V.int)))
end
end L2

namespace OL
open PySem L2
def eqN (bs : List Int) (x : Int) : Nat := (bs.filter fun b => b == x).length
def jmany (told : List (Int × Int)) (row : Int × Int) : Int := row.2 - ((told.filter fun o => hasF o.1 row.1).map Prod.snd).sum
def jstep (told : List (Int × Int)) (row : Int × Int) : List (Int × Int) := if jmany told row > 0 then told ++ [(row.1, jmany told row)] else told
def justF (cl : List (Int × Int)) : List (Int × Int) := (cl.reverse.foldl jstep []).reverse
def baskF (rs : List (Int × Int)) : List Int := rs.flatMap fun r => List.replicate r.2.toNat r.1
def isBk (bs : List Int) (i : Nat) : Bool := decide (0 < eqN bs (i : Int))
def bkRow (bs : List Int) (i : Nat) : Int × Int := ((i : Int), (eqN bs (i : Int) : Int))
def justU (bs : List Int) (n : Nat) : List (Int × Int) := ((List.range n).filter (isBk bs)).map (bkRow bs)
section
variable {many : Int} {bs : List Int} (hb : ∀ x ∈ bs, InB many x)
include hb
end
end OL
namespace OL
open PySem L2
def spJust : Sp := fun vs H Q _ => ∃ (a : Addr) (rs : List (Int × Int)), vs = [.ref a] ∧ RL H a rs ∧ rs.length ≤ 1000 ∧ ∀ (r : Addr) (xs : List V) (H' : Hp), Same H H' → H r = none → H' r = some (.lst xs) → Rows H' xs (justF rs) → Q (.ref r) H'
def spBaskets : Sp := fun vs H Q _ => ∃ (a : Addr) (rs : List (Int × Int)), vs = [.ref a] ∧ RL H a rs ∧ rs.length ≤ 1000 ∧ (∀ r ∈ justF rs, 0 ≤ r.2 ∧ r.2 ≤ 100) ∧ (baskF (justF rs)).length ≤ 1000 ∧ ∀ (r : Addr) (H' : Hp), Same H H' → H r = none → H' r = some (.lst ((baskF (justF rs)).map V.int)) → Q (.ref r) H'
end OL

namespace L2
open PySem PySem.Spec PyProof.Rows
/-! ### lists of pairs as tables -/
section
variable {κ : Type} [DecidableEq κ]
def valV (kvs : List (κ × V)) (k : κ) : Option V := (kvs.find? fun kv => decide (kv.1 = k)).map (·.2)
/-- in its place, or at the end -/
def putK (kvs : List (κ × V)) (k : κ) (v : V) : List (κ × V) :=
  if (kvs.any fun kv => decide (kv.1 = k)) = true then kvs.map (fun kv => if kv.1 = k then (kv.1, v) else kv) else kvs ++ [(k, v)]
def dropK (kvs : List (κ × V)) (k : κ) : List (κ × V) := kvs.filter fun kv => decide (kv.1 ≠ k)

end


/-! ### a tracked dict, its keys ints and texts or tuples of these -/
/-- raw entries of a dict with tuple keys -/
abbrev KT (H : Hp) : List (List Key × V) → List (List Key × Addr × Value) → Prop := Paired fun p q => p.1 = q.1 ∧ H q.2.1 = some (.tup (p.1.map kV)) ∧ RelV p.2 q.2.2
section
variable {P : Program} {w : World} {H : Hp} {h : Heap} {a : Addr}
end

/-- what the dict at a holds at the key y -/
def DGet (H : Hp) (a : Addr) (y : V) (r : Option V) : Prop :=
  (∃ kvs k, Rd H a (.dK kvs) ∧ y = kV k ∧ r = valV kvs k) ∨ ∃ kvs k b, Rd H a (.dT kvs) ∧ y = .ref b ∧ H b = some (.tup (k.map kV)) ∧ r = valV kvs k
/-- the heap behind a[y] = v -/
def DPut (H : Hp) (a : Addr) (y v : V) (H' : Hp) : Prop :=
  (∃ kvs k, H a = some (.dK kvs) ∧ y = kV k ∧ kvs.length < sizeLine ∧ H' = upd H a (.dK (putK kvs k v))) ∨
  ∃ kvs k b, H a = some (.dT kvs) ∧ y = .ref b ∧ H b = some (.tup (k.map kV)) ∧ kvs.length < sizeLine ∧ H' = upd H a (.dT (putK kvs k v))
section
variable {X : Cx} {pins : List (Addr × Obj)} {σ : St} {H : Hp} {s : Shared} {a : Addr} {y v : V} {u r : Value} {o : Option V} {A : Around} {E : Value → Shared → Prop}

end

section
variable {X : Cx} {pins : List (Addr × Obj)} {σ : St} {H : Hp} {s : Shared} {a : Addr} {kvs : List (Key × V)} {k : Key} {u : Value} {A : Around} {E : Value → Shared → Prop}
end


/-! ### readings and rules -/
/-- the element of a subscription, not a slice -/
def NoSl (i : Expr) : Prop := ∀ ov iv, subscripted i false ov iv = operate [ov, iv] (getItem ov iv)
/-- d[y] -/
def tDGet (td ty : TE) : TE := fun σ H Q => td σ H fun x H1 => ty σ H1 fun y H2 => ∃ a v, x = .ref a ∧ DGet H2 a y (some v) ∧ Q v H2
/-- y in d, y not in d -/
def tDIn (ty td : TE) : TE := fun σ H Q => ty σ H fun y H1 => td σ H1 fun x H2 => ∃ a o, x = .ref a ∧ DGet H2 a y o ∧ Q (.bl o.isSome) H2
def tDNotIn (ty td : TE) : TE := fun σ H Q => ty σ H fun y H1 => td σ H1 fun x H2 => ∃ a o, x = .ref a ∧ DGet H2 a y o ∧ Q (.bl (!o.isSome)) H2
/-- d[y] = v -/
def sDPut (td ty tv : TE) : TS := fun D σ H => tv σ H fun v H1 => td σ H1 fun x H2 => ty σ H2 fun y H3 => ∃ a H4, x = .ref a ∧ DPut H3 a y v H4 ∧ D.nx σ H4
/-- d[y] op= v -/
def sDAug (td ty tv : TE) (rd : V → V → Hp → VK → Prop) : TS := fun D σ H => td σ H fun x H1 => ty σ H1 fun y H2 => ∃ a v, x = .ref a ∧ DGet H2 a y (some v) ∧
  tv σ H2 fun y2 H3 => rd v y2 H3 fun z H4 => ∃ H5, DPut H4 a y z H5 ∧ D.nx σ H5
/-- del d[y] -/
def sDDel (td ty : TE) : TS := fun D σ H => td σ H fun x H1 => ty σ H1 fun y H2 => ∃ a kvs k, x = .ref a ∧ H2 a = some (.dK kvs) ∧ y = kV k ∧ (valV kvs k).isSome = true ∧ D.nx σ (upd H2 a (.dK (dropK kvs k)))

section
variable {X : Cx} {o i e value : Expr} {pos pos' tpos : Pos} {td ty tv : TE}
end


/-! ### displays -/
/-- {}, to be a dict of the kind that is wanted -/
def tDNewK : TE := fun _ H Q => ∀ p, H p = none → Q (.ref p) (upd H p (.dK []))
def tDNewT : TE := fun _ H Q => ∀ p, H p = none → Q (.ref p) (upd H p (.dT []))
section
variable {X : Cx} {pos : Pos}
end

/-- the pairs of a display, from the left -/
def tPairs : List (TE × TE) → St → Hp → (List (V × V) → Hp → Prop) → Prop
  | [], _, H, Q => Q [] H
  | (tk, tv) :: r, σ, H, Q => tk σ H fun x H1 => tv σ H1 fun y H2 => tPairs r σ H2 fun ps H3 => Q ((x, y) :: ps) H3
abbrev VV : List (V × V) → List (Value × Value) → Prop := Paired fun p q => RelV p.1 q.1 ∧ RelV p.2 q.2
def PPs (X : Cx) (pos : Pos) (keys : List (Option Expr)) (values : List Expr) (trs : List (TE × TE)) : Prop :=
  ∀ (pins : List (Addr × Obj)) (s : Shared) (σ : St) (H : Hp) (Q : List (V × V) → Hp → Prop), Inv X pins σ H s → tPairs trs σ H Q →
    wpAny (model X.prog X.w) X.A (evalPairs (pairTrees keys values X.env pos)) (fun vs s' => ∃ ps H', Inv X pins σ H' s' ∧ VV ps vs ∧ Q ps H') X.xe s
def mergeK (kvs more : List (Key × V)) : List (Key × V) := more.foldl (fun acc kv => putK acc kv.1 kv.2) kvs
/-- {k: v, ..} with keys ints and texts; the new dict stands empty while the pairs are made -/
def tDisp (trs : List (TE × TE)) : TE := fun σ H Q => ∀ p, H p = none → tPairs trs σ (upd H p (.dK [])) fun ps H2 => H2 p = some (.dK []) ∧ ∃ kvs : List (Key × V), ps = kvs.map (fun kv => (kV kv.1, kv.2)) ∧ kvs.length ≤ 15 ∧ Q (.ref p) (upd H2 p (.dK (mergeK [] kvs)))
/-! ### methods -/
/-- a method call o.m(e) of a built-in, with one argument: what must be seen of the text -/
structure M1 (X : Cx) (o : Expr) (m : Str) (apos : Pos) (e : Expr) (cpos : Pos) : Prop where
  base : attributeBase o m X.env (eval o X.env) = eval o X.env
  few : ((backTo cpos (starEach [e] X.env)).all (fun x => !x.1) && (backToKw cpos (keywordEach [] X.env)).all (fun x => x.1.isSome)
    && decide (([e] : List Expr).length + ([] : List Keyword).length + (if ([] : List Keyword).isEmpty then 0 else 1) < 30)) = true
  line : (apos.endLine == cpos.line) = true
  trees : backTo cpos (starEach [e] X.env) = [(false, eval e X.env)]
structure M2 (X : Cx) (o : Expr) (m : Str) (apos : Pos) (e f : Expr) (cpos : Pos) : Prop where
  base : attributeBase o m X.env (eval o X.env) = eval o X.env
  few : ((backTo cpos (starEach [e, f] X.env)).all (fun x => !x.1) && (backToKw cpos (keywordEach [] X.env)).all (fun x => x.1.isSome)
    && decide (([e, f] : List Expr).length + ([] : List Keyword).length + (if ([] : List Keyword).isEmpty then 0 else 1) < 30)) = true
  line : (apos.endLine == cpos.line) = true
  trees : backTo cpos (starEach [e, f] X.env) = [(false, eval e X.env), (false, eval f X.env)]

/-- a is a dict, whatever its keys -/
def IsD (H : Hp) (a : Addr) : Prop := (∃ kvs, Rd H a (.dK kvs)) ∨ ∃ kvs, Rd H a (.dT kvs)
section
variable {X : Cx} {pins : List (Addr × Obj)} {σ : St} {H : Hp} {s : Shared} {a : Addr} {y d : V} {u r : Value} {o : Option V} {A : Around} {E : Value → Shared → Prop}
end

def tDGet1 (td ty : TE) : TE := fun σ H Q => td σ H fun x H1 => ∃ a, x = .ref a ∧ IsD H1 a ∧ ty σ H1 fun y H2 => ∃ o, DGet H2 a y o ∧ Q (o.getD .non) H2
def tDGet2 (td ty tx : TE) : TE := fun σ H Q => td σ H fun x H1 => ∃ a, x = .ref a ∧ IsD H1 a ∧ ty σ H1 fun y H2 => tx σ H2 fun z H3 => ∃ o, DGet H3 a y o ∧ Q (o.getD z) H3
/-- d.pop(k): there; d.pop(k, x): there or not -/
def tDPop1 (td ty : TE) : TE := fun σ H Q => td σ H fun x H1 => ∃ a, x = .ref a ∧ IsD H1 a ∧ ty σ H1 fun y H2 => ∃ kvs k v, H2 a = some (.dK kvs) ∧ y = kV k ∧ valV kvs k = some v ∧ Q v (upd H2 a (.dK (dropK kvs k)))
def tDPop2 (td ty tx : TE) : TE := fun σ H Q => td σ H fun x H1 => ∃ a, x = .ref a ∧ IsD H1 a ∧ ty σ H1 fun y H2 => tx σ H2 fun z H3 => ∃ kvs k, H3 a = some (.dK kvs) ∧ y = kV k ∧
  (∀ v, valV kvs k = some v → Q v (upd H3 a (.dK (dropK kvs k)))) ∧ (valV kvs k = none → Q z H3)
section
variable {X : Cx} {o e f : Expr} {apos cpos : Pos} {td ty tx : TE}
end

/-! ### dict(d): a copy -/
section
variable {X : Cx} {pins : List (Addr × Obj)} {σ : St} {H : Hp} {s : Shared} {a : Addr} {kvs : List (Key × V)} {A : Around} {E : Value → Shared → Prop}
end


section
variable {X : Cx} {pins : List (Addr × Obj)} {σ : St} {H : Hp} {s : Shared} {a : Addr} {y : V} {u : Value} {A : Around} {E : Value → Shared → Prop}
end
end L2


namespace L2
open PySem PySem.Spec PyProof.Rows
section
variable {X : Cx}
/-! ### for .. in d: the dict stands still while it is walked -/
def Itd (d : Addr) (o : Obj) (kvs : List (Key × V)) : It := ⟨fun i H => i < kvs.length ∧ H d = some (.frz o (.dK kvs)), fun i H x H' => H' = H ∧ ∃ k v, kvs[i]? = some (k, v) ∧ x = kV k, fun i H => i = kvs.length ∧ H d = some (.frz o (.dK kvs))⟩
def iDict (te : TE) : TI := fun σ H R => te σ H fun x H1 => ∃ (d : Addr) (kvs : List (Key × V)), x = .ref d ∧ H1 d = some (.dK kvs) ∧ ∀ o, R (Itd d o kvs) (upd H1 d (.frz o (.dK kvs)))
end
section
variable {K : PySem.W.Frag} {m : Nat} {js : List Nat} {g : TG} {c : TT} {te : TE} {σ : St} {H1 : Hp} {Q : VK}
end
end L2

namespace OL
open PySem L2
/-- how many bits stand in a number -/
def popc (n : Nat) : Nat := if h : n = 0 then 0 else n % 2 + popc (n / 2)
termination_by n
decreasing_by omega
section
variable {many : Int} {bs : List Int} (hb : ∀ x ∈ bs, InB many x)
include hb
end
def ofB (bs : List Int) (least : Int) (i : Nat) : Bool := decide (least ≤ countF bs (i : Int))
def ofKV (bs : List Int) (i : Nat) : Key × V := (Sum.inl (i : Int), V.int (colF bs (i : Int)))
def oftenKV (bs : List Int) (least : Int) (n : Nat) : List (Key × V) := ((List.range n).filter (ofB bs least)).map (ofKV bs)
def oftenR (bs : List Int) (least : Int) (n : Nat) : List (Int × Int) := ((List.range n).filter (ofB bs least)).map fun (i : Nat) => ((i : Int), countF bs (i : Int))
def keepKV (kvs : List (Key × V)) (least lot col : Int) : List (Key × V) := if least ≤ ((popc col.toNat : Nat) : Int) then putK kvs (.inl lot) (.int col) else kvs
/-- the lots gone through, and what a thing more brings behind them -/
def moreKV (bs : List Int) (least : Int) (t j : Nat) : List (Key × V) := oftenKV bs least (2 ^ t) ++ (((((List.range (2 ^ t)).filter (ofB bs least)).take j).filter fun i => ofB bs least (2 ^ t + i)).map fun i => ofKV bs (2 ^ t + i))
def spPlaces : Sp := fun vs H Q _ => ∃ x : Int, vs = [.int x] ∧ 0 ≤ x ∧ Q (.int ((popc x.toNat : Nat) : Int)) H
def spKeep : Sp := fun vs H Q _ => ∃ (d : Addr) (kvs : List (Key × V)) (least lot col : Int), vs = [.ref d, .int least, .int lot, .int col] ∧ H d = some (.dK kvs) ∧ kvs.length ≤ 5000 ∧ 0 ≤ col ∧ ∀ H', SameB d H H' → TSame H H' → H' d = some (.dK (keepKV kvs least lot col)) → Q .non H'
def spOftenC (K : PySem.W.Frag) : Sp := fun vs H Q _ => ∃ (b : Addr) (many : Int) (bs : List Int) (least : Int), vs = [.ref b, .int least] ∧ Bk K H b many bs ∧ bs.length ≤ 500 ∧ 0 ≤ many ∧ many ≤ 10 ∧ (∀ x ∈ bs, InB many x) ∧ ∀ (d : Addr) (H' : Hp), Same H H' → H d = none → H' d = some (.dK (oftenKV bs least (2 ^ many.toNat))) → Q (.ref d) H'
def spByC (K : PySem.W.Frag) : Sp := fun vs H Q _ => ∃ (b : Addr) (many : Int) (bs : List Int) (least : Int), vs = [.ref b, .int least] ∧ Bk K H b many bs ∧ bs.length ≤ 500 ∧ 0 ≤ many ∧ many ≤ 10 ∧ (∀ x ∈ bs, InB many x) ∧ ∀ (r : Addr) (xs : List V) (H' : Hp), Same H H' → H r = none → H' r = some (.lst xs) → Rows H' xs (oftenR bs least (2 ^ many.toNat)) → Q (.ref r) H'
end OL
namespace OL
open PySem L2
def TupAll (H : Hp) (xs : List V) (n : Nat) : Prop := ∀ x ∈ xs, ∃ (p : Addr) (ms : List Int), x = .ref p ∧ H p = some (.tup (ms.map V.int)) ∧ ms.length = n
def spRowsL : Sp := fun vs H Q _ => ∃ (f : Addr) (xs : List V) (n : Nat), vs = [.ref f, .int (n : Int)] ∧ H f = some (.lst xs) ∧ TupAll H xs n ∧ n ≤ 10 ∧ ∀ H', Same H H' → Q (.bl true) H'
def spLeast62 : Sp := fun vs H Q _ => ∃ (l b bl : Addr) (ds bs : List Int) (many : Int), vs = [.ref l, .ref b] ∧ H l = some (.lst (ds.map V.int)) ∧ H b = some (.tup [.int many, .ref bl]) ∧ H bl = some (.lst (bs.map V.int)) ∧ bl ≠ l ∧ bs.length ≤ 500 ∧ ∀ (d : Int) (ds' : List Int) (H' : Hp), SameB l H H' → H' l = some (.lst (ds'.map V.int)) → 1 ≤ d → Q (.int d) H'
end OL

namespace OL
open PySem L2
def olF (bs : List Int) (least lot : Int) : Bool := decide (least ≤ countF bs lot) && leastP bs lot
def rowsP (bs : List Int) (p : Int → Bool) (n : Nat) : List (Int × Int) := ((List.range n).filter fun (i : Nat) => p (i : Int)).map fun (i : Nat) => ((i : Int), countF bs (i : Int))
def spOL (K : PySem.W.Frag) : Sp := fun vs H Q _ => ∃ (b : Addr) (many : Int) (bs : List Int) (least lot : Int), vs = [.ref b, .int least, .int lot] ∧ Bk K H b many bs ∧ bs.length ≤ 500 ∧ 0 ≤ many ∧ many ≤ 12 ∧ Sm lot ∧ ∀ H', Same H H' → Q (.bl (olF bs least lot)) H'
def spRowsB (K : PySem.W.Frag) (p : List Int → Int → Int → Bool) : Sp := fun vs H Q _ => ∃ (b : Addr) (many : Int) (bs : List Int) (least : Int), vs = [.ref b, .int least] ∧ Bk K H b many bs ∧ bs.length ≤ 500 ∧ 0 ≤ many ∧ many ≤ 12 ∧ ∀ (r : Addr) (xs : List V) (H' : Hp), Same H H' → H r = none → H' r = some (.lst xs) → Rows H' xs (rowsP bs (p bs least) (2 ^ many.toNat)) → Q (.ref r) H'
end OL
namespace OL
open PySem L2
def dlF (many : Int) (bs : List Int) (least lot : Int) : Bool := decide (least ≤ countF bs lot) && leastL many bs lot
def spDue (K : PySem.W.Frag) : Sp := fun vs H Q _ => ∃ (b : Addr) (many : Int) (bs : List Int) (least : Int), vs = [.ref b, .int least] ∧ Bk K H b many bs ∧ bs.length ≤ 500 ∧ 0 ≤ many ∧ many ≤ 12 ∧ (∀ x ∈ bs, InB many x) ∧ ∀ (r : Addr) (xs : List V) (H' : Hp), Same H H' → H r = none → H' r = some (.lst xs) → Rows H' xs (rowsP bs (olF bs least) (2 ^ many.toNat)) → Q (.ref r) H'
def spTold : Sp := fun vs H Q _ => ∃ (f d : Addr) (xs ys : List V) (rs : List (Int × Int)), vs = [.ref f, .ref d] ∧ H f = some (.lst xs) ∧ H d = some (.lst ys) ∧ Rows H xs rs ∧ Rows H ys rs ∧ ∀ H', Same H H' → Q (.bl true) H'
end OL

namespace L2
open PySem PySem.Spec PyProof.Rows
/-! ### for .. in d.items() -/
def Iti (d : Addr) (o : Obj) (kvs : List (Key × V)) : It := ⟨fun i H => i < kvs.length ∧ H d = some (.frz o (.dK kvs)), fun i H x H' => ∃ p k v, x = .ref p ∧ H p = none ∧ H' = upd H p (.tup [kV k, v]) ∧ kvs[i]? = some (k, v), fun i H => i = kvs.length ∧ H d = some (.frz o (.dK kvs))⟩
section
variable {X : Cx}
def iItems (te : TE) : TI := fun σ H R => te σ H fun x H1 => ∃ (d : Addr) (kvs : List (Key × V)), x = .ref d ∧ H1 d = some (.dK kvs) ∧ ∀ o, R (Iti d o kvs) (upd H1 d (.frz o (.dK kvs)))
end
end L2

namespace Tim
open PySem PyProof.Rows
def gallop' : Bool → Keyed → Array Keyed → Nat → Nat → Nat → StateT SortSt Sem (Option Nat) := sortPriv% PySem.Builtin.gallop
def mergeLo' : Array Keyed → Array Keyed → StateT SortSt Sem (Array Keyed) := sortPriv% PySem.Builtin.mergeLo
def mergeHi' : Array Keyed → Array Keyed → StateT SortSt Sem (Array Keyed) := sortPriv% PySem.Builtin.mergeHi
abbrev setGal (st : SortSt) (g : Nat) : SortSt := SortSt.mk' (kindOf st) (arrOf st) (pendingOf st) g (failedOf st)
/-- comparing two keys leaves all as it is and tells their order -/
def CmpOk (prog : Program) (w : World) (A : Around) (s : Shared) (κ : KeyKind) (kd : SortKind) : Prop :=
  ∀ (E : Value → Shared → Prop) (x y : Value) (a b : κ.α) (Q : Bool → Shared → Prop), κ.keyOf x = some a → κ.keyOf y = some b → Q (κ.blt a b) s → wpAny (model prog w) A (keyLt' kd x y) Q E s
section
variable {prog : Program} {w : World} {A : Around} {E : Value → Shared → Prop} {s : Shared} {κ : KeyKind} {kd : SortKind}
/-- all keys of the array can be read -/
def Good (κ : KeyKind) (zs : Array Keyed) : Prop := ∀ (i : Nat) (p : Keyed), zs[i]? = some p → ∃ a, κ.keyOf p.1 = some a
/-- is the item at i ahead of where p belongs -/
def bey (κ : KeyKind) (left : Bool) (kp : κ.α) (zs : Array Keyed) (i : Nat) : Bool := if left then κ.blt (KK κ zs i) kp else !κ.blt kp (KK κ zs i)
def ahead (left : Bool) (p : Keyed) (zs : Array Keyed) (i : Nat) : StateT SortSt Sem (Option Bool) := do
  let q ← elem' zs i
  if left then lt' q p else return (← lt' p q).map (!·)
end
end Tim

namespace Tim
open PySem PyProof.Rows
section
variable {κ : KeyKind}
def ky (κ : KeyKind) (p : Keyed) : κ.α := (κ.keyOf p.1).getD κ.dflt
def le (κ : KeyKind) (p q : Keyed) : Prop := κ.kle (ky κ p) (ky κ q)
theorem take_at {L : List Keyed} {i t : Nat} (ht : t < L.length) (h : t < i) : L[t] ∈ L.take i := by
  rw [List.mem_iff_getElem]
  exact ⟨t, by rw [List.length_take]; omega, by rw [List.getElem_take]⟩
/-- what is told by then, of A its first i, of B its first j -/
structure MI (κ : KeyKind) (A B O : List Keyed) (i j : Nat) : Prop where
  perm : O.Perm (A.take i ++ B.take j)
  srt : O.Pairwise (le κ)
  la : ∀ x ∈ O, ∀ y ∈ A.drop i, le κ x y
  lb : ∀ x ∈ O, ∀ y ∈ B.drop j, le κ x y
def Res (κ : KeyKind) (A B M : List Keyed) : Prop := M.Perm (A ++ B) ∧ M.Pairwise (le κ)
variable {A B O : List Keyed} {i j : Nat}
/-- the same from the end: told are those of A from i on and those of B from j on -/
structure MH (κ : KeyKind) (A B R : List Keyed) (i j : Nat) : Prop where
  perm : R.Perm (A.drop i ++ B.drop j)
  srt : R.Pairwise (le κ)
  la : ∀ x ∈ A.take i, ∀ y ∈ R, le κ x y
  lb : ∀ x ∈ B.take j, ∀ y ∈ R, le κ x y
end
end Tim

namespace Tim
open PySem PyProof.Rows
section
variable {κ : KeyKind}
end
section
variable {prog : Program} {w : World} {A : Around} {E : Value → Shared → Prop} {s : Shared} {κ : KeyKind} {kd : SortKind}
def OK1 (κ : KeyKind) (a b : Array Keyed) (st st' : SortSt) (o : Array Keyed) (i j : Nat) : Prop := (∃ g, setGal st g = st') ∧ MI κ a.toList b.toList o.toList i j ∧ i + 1 < a.size ∧ j < b.size
end
end Tim

namespace Tim
open PySem PyProof.Rows
section
variable {κ : KeyKind} {A B R : List Keyed} {i j : Nat}
end
section
variable {prog : Program} {w : World} {A : Around} {E : Value → Shared → Prop} {s : Shared} {κ : KeyKind} {kd : SortKind}
def OK2 (κ : KeyKind) (a b : Array Keyed) (st st' : SortSt) (i j : Nat) (o : Array Keyed) : Prop := (∃ g, setGal st g = st') ∧ MH κ a.toList b.toList o.toList.reverse i j ∧ 0 < i ∧ 1 < j ∧ i ≤ a.size ∧ j ≤ b.size
end
end Tim

namespace Tim
open PySem PyProof.Rows
section
variable {κ : KeyKind}
/-- rising from lo to hi -/
def Ri (κ : KeyKind) (zs : Array Keyed) (lo hi : Nat) : Prop := ∀ u v, lo ≤ u → u ≤ v → v < hi → κ.kle (KK κ zs u) (KK κ zs v)
abbrev Rn := Nat × Nat × Nat
/-- runs, one behind the other, from a to b -/
def Runs (κ : KeyKind) (zs : Array Keyed) : List Rn → Nat → Nat → Prop
  | [], a, b => a = b
  | r :: rs, a, b => r.1 = a ∧ 0 < r.2.1 ∧ Ri κ zs a (a + r.2.1) ∧ Runs κ zs rs (a + r.2.1) b
structure Two (κ : KeyKind) (zs : Array Keyed) (a b : Nat) (r q : Rn) : Prop where
  next : q.1 = r.1 + r.2.1
  n1 : 0 < r.2.1
  n2 : 0 < q.2.1
  s1 : Ri κ zs r.1 (r.1 + r.2.1)
  s2 : Ri κ zs q.1 (q.1 + q.2.1)
  lo : a ≤ r.1
  hi : q.1 + q.2.1 ≤ b
end
section
variable {prog : Program} {w : World} {A : Around} {E : Value → Shared → Prop} {s : Shared} {κ : KeyKind} {kd : SortKind}
end
end Tim

namespace Tim
open PySem PyProof.Rows
section
variable {κ : KeyKind}
/-- the same things, and all as it was outside lo to hi -/
structure Fr0 (κ : KeyKind) (lo hi : Nat) (zs ys : Array Keyed) : Prop where
  perm : ys.toList.Perm zs.toList
  out : ∀ k, (k < lo ∨ hi ≤ k) → KK κ ys k = KK κ zs k
def De (κ : KeyKind) (zs : Array Keyed) (lo hi : Nat) : Prop := ∀ u v, lo ≤ u → u ≤ v → v < hi → κ.kle (KK κ zs v) (KK κ zs u)
variable {lo hi : Nat} {zs ys : Array Keyed}
end
section
variable {prog : Program} {w : World} {A : Around} {E : Value → Shared → Prop} {s : Shared} {κ : KeyKind} {kd : SortKind}
end
end Tim

namespace Tim
open PySem PyProof.Rows
section
variable {prog : Program} {w : World} {A : Around} {E : Value → Shared → Prop} {s : Shared} {κ : KeyKind} {kd : SortKind}
/-- a state on the way: all of z0 is there, runs up to lo -/
structure On (κ : KeyKind) (kd : SortKind) (z0 : Array Keyed) (lo : Nat) (st : SortSt) : Prop where
  kind : kindOf st = kd
  fail : failedOf st = none
  perm : (arrOf st).toList.Perm z0.toList
  runs : Runs κ (arrOf st) (pendingOf st).toList 0 lo
end
end Tim

namespace Tim
open PySem PyProof.Rows PySem.W
def lev (κ : KeyKind) (x y : Value) : Prop := κ.kle ((κ.keyOf x).getD κ.dflt) ((κ.keyOf y).getD κ.dflt)
/-- what sorting asks of the state it is done in -/
structure Sorts (prog : Program) (w : World) (s : Shared) (κ : KeyKind) (kd : SortKind) (vs : List Value) : Prop where
  cmp : ∀ A, CmpOk prog w A s κ kd
  kind : 2 ≤ vs.length → ∀ (A : Around) (E : Value → Shared → Prop) (Q : SortKind → Shared → Prop), Q kd s → wpAny (model prog w) A (keyKind' vs.toArray) Q E s
  keys : ∀ v ∈ vs, ∃ a, κ.keyOf v = some a
section
variable {prog : Program} {w : World} {A : Around} {E : Value → Shared → Prop} {s : Shared}
/-- the heap while it is sorted: the list is empty, two new things behind -/
def midHeap (h : Heap) (a : Addr) (vs : List Value) : Heap := ((h.update a (Obj.mapSeq fun _ => #[])).push (seqObj "tuple" vs.toArray 0)).push (seqObj "list" #[] 0)
/-! ### whole numbers -/
@[reducible] def intK : KeyKind where
  α := Int
  blt a b := decide (a < b)
  irrefl a := by simp
  trans a b c h1 h2 := by simp only [decide_eq_true_eq] at *; omega
  negTrans a b c h := by simp only [decide_eq_true_eq] at *; omega
  total a b h1 h2 := by simp only [decide_eq_false_iff_not] at *; omega
  keyOf v := match v with | .int x _ => some x | _ => none
  dflt := 0
/-! ### tuples of whole numbers -/
def intOf : Value → Option Int
  | .int n _ => some n
  | _ => none
def decT (h : Heap) (v : Value) : Option (List Int) := match v with
  | .ref a => match h.get? a with
    | some o => match o.data with
      | .seq xs _ => xs.toList.mapM intOf
      | _ => none
    | none => none
  | _ => none
@[reducible] def tupK (h : Heap) : KeyKind where
  α := List Int
  blt a b := decide (a < b)
  irrefl a := by simpa using List.lt_irrefl a
  trans a b c h1 h2 := by simp only [decide_eq_true_eq] at *; exact List.lt_trans h1 h2
  negTrans a b c h := by
    simp only [decide_eq_true_eq] at *
    by_cases hab : a < b
    · exact .inl hab
    · exact .inr (List.lt_of_le_of_lt (List.not_lt.mp hab) h)
  total a b h1 h2 := by simp only [decide_eq_false_iff_not] at *; exact List.le_antisymm (List.not_lt.mp h2) (List.not_lt.mp h1)
  keyOf v := decT h v
  dflt := []
end
end Tim

namespace L2
open PySem PySem.Spec PyProof.Rows
section
variable {X : Cx}
/-- sorted of a list of whole numbers, of any length -/
def rSortZ (K : PySem.W.Frag) : List V → Hp → VK → Prop := fun xs H Q => ∃ (p : Addr) (ns : List Int), xs = [.ref p] ∧ SqL K H p (ns.map V.int) ∧ ∀ (l : Addr) (ns' : List Int), H l = none → ns'.Perm ns → ns'.Pairwise (· ≤ ·) → Q (.ref l) (upd H l (.lst (ns'.map V.int)))
/-- sorted of a list of tuples of whole numbers, each told by its key -/
def TupK (K : PySem.W.Frag) {α : Type} (key : α → List Int) (H : Hp) (x : V) (r : α) : Prop := ∃ p, x = .ref p ∧ SqT K H p ((key r).map V.int)
def rSortG (K : PySem.W.Frag) {α : Type} (key : α → List Int) (R : Hp → V → α → Prop) : List V → Hp → VK → Prop := fun xs H Q => ∃ (p : Addr) (ys : List V) (rs : List α), xs = [.ref p] ∧ SqL K H p ys ∧ Paired (R H) ys rs ∧ (∀ r ∈ rs, key r ≠ []) ∧
  ∀ (l : Addr) (zs : List V) (rs' : List α), H l = none → rs'.Perm rs → rs'.Pairwise (fun a b => ¬ key b < key a) → Paired (R H) zs rs' → Q (.ref l) (upd H l (.lst zs))
/-- sorted of rows -/
def rleq (a b : Int × Int) : Prop := a.1 < b.1 ∨ (a.1 = b.1 ∧ a.2 ≤ b.2)
def rSortR (K : PySem.W.Frag) : List V → Hp → VK → Prop := fun xs H Q => ∃ (p : Addr) (ys : List V) (rs : List (Int × Int)), xs = [.ref p] ∧ SqL K H p ys ∧ Rows H ys rs ∧
  ∀ (l : Addr) (zs : List V) (rs' : List (Int × Int)), H l = none → rs'.Perm rs → rs'.Pairwise rleq → Rows H zs rs' → Q (.ref l) (upd H l (.lst zs))
/-- a row in a list of rows -/
def rInR (K : PySem.W.Frag) (neg : Bool) : R2 := fun x y H Q => ∃ (p : Addr) (ys : List V) (rs : List (Int × Int)) (r : Int × Int), y = .ref p ∧ SqL K H p ys ∧ Rows H ys rs ∧ Row H x r ∧ Q (.bl (if neg then !rs.any (fun q => decide (q = r)) else rs.any fun q => decide (q = r))) H
def isRowV (H : Hp) (r : Int × Int) : Value → Bool
  | .ref a => match H a with
    | some (.tup [.int i, .int j]) => decide ((i, j) = r)
    | _ => false
  | _ => false
end
end L2

namespace PySem
open Sem (wp)
section
variable {prog : Program} {w : World} {A : Around} {E : Value → Shared → Prop} {s : Shared} {a : Addr}
end
end PySem

namespace PySem
open PyProof.Rows
section
variable {prog : Program} {w : World} {K : Type} [DecidableEq K] {knd : KeyKind prog w K} {A : Around} {R : Result → Shared → Prop}
end
end PySem

namespace L2
open PySem PySem.Spec PyProof.Rows
/-- rows as a table -/
def tabR (rs : List (Int × Int)) : List (Key × V) := rs.map fun r => (.inl r.1, .int r.2)
section
variable {X : Cx}
end
end L2

namespace OL
open PySem L2
/-! ### how many things a lot has -/
def sz (x : Nat) : Nat := (List.range 12).countP fun t => x.testBit t
/-! ### rows looked up -/
def inR (rs : List (Int × Int)) (f : Int) : Bool := rs.any fun r => decide (r.1 = f)
def wt (lot : Int) (t : Nat) : Int := Builtin.bitOr lot (1 * 2 ^ t)
/-! ### levels -/
def levR (bs : List Int) (least : Int) (n k : Nat) : List (Int × Int) := ((List.range n).filter fun i => ofB bs least i && (sz i == k)).map fun (i : Nat) => ((i : Int), countF bs (i : Int))
def okB (rs : List (Int × Int)) (x : Int) : Bool := (fewF x).all fun f => inR rs f
def moreL (rs : List (Int × Int)) (lot : Int) (j : Nat) : List Int := ((List.range j).filter fun t => okB rs (wt lot (Builtin.Int.intBits lot + t))).map fun t => wt lot (Builtin.Int.intBits lot + t)
def nextU (many : Int) (rs : List (Int × Int)) (i : Nat) : List Int := (rs.take i).flatMap fun r => moreL rs r.1 (many.toNat - Builtin.Int.intBits r.1)
def candB (bs : List Int) (least : Int) (k i : Nat) : Bool := (sz i == k + 1) && (fewF (i : Int)).all fun f => decide (least ≤ countF bs f)
def candL (bs : List Int) (least : Int) (n k : Nat) : List Int := ((List.range n).filter (candB bs least k)).map fun (i : Nat) => (i : Int)
theorem p12 {many : Int} (h : many ≤ 12) : (2 : Nat) ^ many.toNat ≤ 4096 := pow12 h
section
variable {many : Int} {bs : List Int} (hb : ∀ x ∈ bs, InB many x)
include hb
end
end OL

namespace L2
open PySem PySem.Spec PyProof.Rows
end L2

namespace OL
open PySem L2
def rowsC (bs ns : List Int) : List (Int × Int) := ns.map fun x => (x, countF bs x)
def spCounted (K : PySem.W.Frag) : Sp := fun vs H Q _ => ∃ (b l : Addr) (many : Int) (bs ns : List Int), vs = [.ref b, .ref l] ∧ Bk K H b many bs ∧ bs.length ≤ 500 ∧ 0 ≤ many ∧ many ≤ 64 ∧ SqL K H l (ns.map V.int) ∧ ns.length ≤ 5000 ∧
  ∀ (r : Addr) (xs : List V) (H' : Hp), Same H H' → H r = none → H' r = some (.lst xs) → Rows H' xs (rowsC bs ns) → Q (.ref r) H'
def spAmong (K : PySem.W.Frag) (p : Int → Int × Int → Bool) : Sp := fun vs H Q _ => ∃ (b l : Addr) (many : Int) (bs ns : List Int) (least : Int), vs = [.ref b, .int least, .ref l] ∧ Bk K H b many bs ∧ bs.length ≤ 500 ∧ 0 ≤ many ∧ many ≤ 64 ∧ SqL K H l (ns.map V.int) ∧ ns.length ≤ 5000 ∧
  ∀ (r : Addr) (xs : List V) (H' : Hp), Same H H' → H r = none → H' r = some (.lst xs) → Rows H' xs ((rowsC bs ns).filter (p least)) → Q (.ref r) H'
def ofP (least : Int) (r : Int × Int) : Bool := decide (r.2 ≥ least)
def raP (least : Int) (r : Int × Int) : Bool := decide (r.2 < least)
def spNext : Sp := fun vs H Q _ => ∃ (a : Addr) (many : Int) (xs : List V) (rs : List (Int × Int)), vs = [.int many, .ref a] ∧ 0 ≤ many ∧ many ≤ 12 ∧ H a = some (.lst xs) ∧ Rows H xs rs ∧ (rs.map Prod.fst).Nodup ∧ (∀ r ∈ rs, Sm r.1) ∧ rs.length ≤ 4096 ∧
  ∀ (r : Addr) (ns : List Int) (H' : Hp), Same H H' → H r = none → ns.Perm (nextU many rs rs.length) → ns.Pairwise (· ≤ ·) → H' r = some (.lst (ns.map V.int)) → Q (.ref r) H'
def spLevels (K : PySem.W.Frag) : Sp := fun vs H Q _ => ∃ (b : Addr) (many : Int) (bs : List Int) (least : Int), vs = [.ref b, .int least] ∧ Bk K H b many bs ∧ bs.length ≤ 500 ∧ 0 ≤ many ∧ many ≤ 12 ∧ (∀ x ∈ bs, InB many x) ∧
  ∀ (r : Addr) (ls : List Addr) (H' : Hp), Same H H' → H r = none → H' r = some (.lst (ls.map V.ref)) → levR bs least (2 ^ many.toNat) ls.length = [] → (∀ k, k < ls.length → levR bs least (2 ^ many.toNat) k ≠ []) →
    (∀ (k : Nat) (a : Addr), ls[k]? = some a → H a = none ∧ a ≠ r ∧ RL H' a (levR bs least (2 ^ many.toNat) k)) → ls.Nodup → Q (.ref r) H'
def spOftenB (K : PySem.W.Frag) : Sp := fun vs H Q _ => ∃ (b : Addr) (many : Int) (bs : List Int) (least : Int), vs = [.ref b, .int least] ∧ Bk K H b many bs ∧ bs.length ≤ 500 ∧ 0 ≤ many ∧ many ≤ 12 ∧ (∀ x ∈ bs, InB many x) ∧
  ∀ (r : Addr) (xs : List V) (H' : Hp), Same H H' → H r = none → H' r = some (.lst xs) → Rows H' xs (oftenR bs least (2 ^ many.toNat)) → Q (.ref r) H'
theorem rows_app {H : Hp} : ∀ {xs ys : List V} {rs qs : List (Int × Int)}, Rows H xs rs → Rows H ys qs → Rows H (xs ++ ys) (rs ++ qs)
  | _, _, _, _, .nil, h => h
  | _, _, _, _, .cons r p, h => .cons r (rows_app p h)
theorem big5 {n : Nat} (h : n ≤ 65000) : n < sizeLine := Nat.lt_of_le_of_lt h (by decide)
end OL

namespace OL
open PySem L2
def rareR (bs : List Int) (least : Int) (n k : Nat) : List (Int × Int) := (rowsC bs (candL bs least n k)).filter (raP least)
def rare0 (bs : List Int) (least : Int) : List (Int × Int) := (rowsC bs [0]).filter (raP least)
def bordB (bs : List Int) (least : Int) (i : Nat) : Bool := !ofB bs least i && (fewF (i : Int)).all fun f => decide (least ≤ countF bs f)
def bordR (bs : List Int) (least : Int) (n : Nat) : List (Int × Int) := ((List.range n).filter (bordB bs least)).map fun (i : Nat) => ((i : Int), countF bs (i : Int))
def spBord (K : PySem.W.Frag) : Sp := fun vs H Q _ => ∃ (b : Addr) (many : Int) (bs : List Int) (least : Int), vs = [.ref b, .int least] ∧ Bk K H b many bs ∧ bs.length ≤ 500 ∧ 0 ≤ many ∧ many ≤ 12 ∧ (∀ x ∈ bs, InB many x) ∧
  ∀ (r : Addr) (xs : List V) (H' : Hp), Same H H' → H r = none → H' r = some (.lst xs) → Rows H' xs (bordR bs least (2 ^ many.toNat)) → Q (.ref r) H'
/-! ### the things of a lot below twelve, as the law tells them -/
def b12 (n : Nat) (t : Int) : Bool := Builtin.bitAnd ((n : Int) / 2 ^ t.toNat) 1 == 1
def th12 (n : Nat) : List Int := upto (b12 n) 12
def fw12 (n : Nat) : List Int := (th12 n).map fun t => (n : Int) - 1 * 2 ^ t.toNat
def spTh12 : Sp := fun vs H Q _ => ∃ n : Nat, vs = [.int (n : Int)] ∧ n < 4096 ∧ ∀ (r : Addr) (H' : Hp), Same H H' → H r = none → H' r = some (.lst ((th12 n).map V.int)) → Q (.ref r) H'
theorem b12_iff (n t : Nat) : b12 n (t : Int) = true ↔ n.testBit t = true := by
  unfold b12
  rw [Int.toNat_natCast]
  have := bit_iff (lot := (n : Int)) (Int.natCast_nonneg _) t
  unfold Th at this
  rwa [Int.toNat_natCast] at this
end OL

namespace OL
open PySem L2
def dLev (bs : List Int) (least : Int) (n L : Nat) : PyData := .list ((List.range L).map fun k => .list ((levR bs least n k).map dRow))
end OL

namespace L2
open PySem PySem.Spec PyProof.Rows
section
variable {X : Cx}
/-- sorted(d), d a dict of whole numbers -/
def rSortD : List V → Hp → VK → Prop := fun xs H Q => ∃ (d : Addr) (rs : List (Int × Int)), xs = [.ref d] ∧ H d = some (.dK (tabR rs)) ∧ ∀ (l : Addr) (ns : List Int), H l = none → ns.Perm (rs.map Prod.fst) → ns.Pairwise (· ≤ ·) → Q (.ref l) (upd H l (.lst (ns.map V.int)))
end
end L2

namespace OL
open PySem L2
def numR (rs : List (Int × Int)) (f : Int) : Int := ((rs.find? fun r => decide (r.1 = f)).map (·.2)).getD 0
theorem nn (i : Nat) : (0 : Int) ≤ (i : Int) := Int.natCast_nonneg i
section
variable {many : Int} {bs : List Int} (hb : ∀ x ∈ bs, InB many x)
include hb
def insideL (bs : List Int) (least : Int) (n : Nat) (j : Int) : List Int := ((bordR bs least n).filter fun r => Builtin.bitAnd r.1 j == r.1).map Prod.fst
def besideL (bs : List Int) (least : Int) (n : Nat) (j : Int) : List Int := ((bordR bs least n).filter fun r => (Builtin.bitAnd r.1 j == r.1) && !(r.1 == j)).map Prod.fst
end
def up1 (r : Int × Int) : Int × Int := (r.1, r.2 + 1)
end OL

namespace L2
open PySem PySem.Spec PyProof.Rows
section
variable {X : Cx} {e e3 : Expr} {te : TE} {t3 : TO} {pos p2 : Pos}
/-- xs[::-1] of a list -/
def tRev (K : PySem.W.Frag) (te : TE) (t3 : TO) : TE := fun σ H Q => te σ H fun x H1 => t3 σ H1 fun o H2 => ∃ a xs, o = some (-1) ∧ x = .ref a ∧ SqL K H2 a xs ∧ ∀ p, H2 p = none → Q (.ref p) (upd H2 p (.lst xs.reverse))
theorem pe_rev (he : PE X e te) (h3 : PO X (some e3) t3) : PE X (.Subscript e (.Slice none none (some e3) p2) pos) (tRev X.K te t3) := by
  intro pins s σ H Q I h
  refine Subscript_ (thn (he pins s σ H _ I h) fun v s1 ⟨x, H1, I1, r1, q1⟩ => ?_)
  refine wpAny_Slice ?_
  rw [evalPart_none]
  refine wpAny_pure ?_
  refine wpAny_pure ?_
  refine thn (h3 pins s1 σ H1 _ I1 q1) fun vk s2 ⟨o, H2, I2, pk, q2⟩ => ?_
  obtain ⟨a, xs, rfl, rfl, hx, q⟩ := q2
  cases r1
  have I4 : Inv X pins σ H2 { s2 with heap := s2.heap.push { cls := .type "slice", data := .fields #[.none, .none, vk] } } := I2.kept (t' := s2.toks) fun b ob q => Heap.get?_push_of_some _ q
  obtain ⟨its, r, ht, hz⟩ := I4.list hx
  have hlen := r.length
  show wpAny (model X.prog X.w) X.A (subscriptTail e (.Slice none none (some e3) p2) (.ref a) (.ref s2.heap.objs.size)) (EP X pins σ Q) X.xe { s2 with heap := s2.heap.push { cls := .type "slice", data := .fields #[.none, .none, vk] } }
  refine tail_any (ops := [.ref a, .ref s2.heap.objs.size]) ht.isList.typeIs slot_list_getitem.lookup ?_ (by with_unfolding_all rfl)
  refine wpAny_getItem_list_slice ht.isList (Heap.IsSliceOf.new ..) .none .none pk (by decide) ?_ (by rw [List.size_toArray] <;> omega)
  rw [PySem.W.krv_pick]
  refine ⟨.ref _, _, I4.laid (t' := s2.toks) (o := .lst xs.reverse) (fun b ob q => Heap.get?_push_of_some _ q) (Nat.le_refl _) ?_, rfl, q _ (I4.hok.fresh (Nat.le_refl _))⟩
  exact ⟨by rw [List.length_reverse]; exact hz, _, 0, r.reverse, Heap.get?_push_size _ rfl⟩
end
end L2

namespace OL
open PySem L2
def tw (r : Int × Int) : Int × Int := (r.1, 2 * r.2)
/-! ### two things exchanged -/
def exI (x s t : Int) : Int := if (Builtin.bitAnd (x / 2 ^ s.toNat) 1 == Builtin.bitAnd (x / 2 ^ t.toNat) 1) = true then x else Builtin.bitXor x (Builtin.bitOr (1 * 2 ^ s.toNat) (1 * 2 ^ t.toNat))
def sw (s t i : Nat) : Nat := if i = s then t else if i = t then s else i
theorem pow_nn (s : Nat) : (0 : Int) ≤ 1 * 2 ^ s := by rw [Int.one_mul, pow_cast]; exact Int.natCast_nonneg _
section
variable {many : Int} {bs : List Int} (hb : ∀ x ∈ bs, InB many x) {s t : Int}
include hb
end
def exR (s t : Int) (r : Int × Int) : Int × Int := (exI r.1 s t, r.2)
/-! ### slices -/
def spEx : Sp := fun vs H Q _ => ∃ x s t : Int, vs = [.int x, .int s, .int t] ∧ 0 ≤ s ∧ s ≤ 64 ∧ 0 ≤ t ∧ t ≤ 64 ∧ Q (.int (exI x s t)) H
end OL

namespace L2
open PySem PySem.Spec PyProof.Rows
/-! max(list of lists, key=len, default=[]) -/
section
variable {prog : Program} {w : World} {A : Around} {R : Result → Shared → Prop} {it : Addr} {fp wr : List Addr} {n : Nat} {PP : Nat → Value → Prop} {St : Nat → Heap → Prop} {h0 : Heap} {kf : Nat → Int} {d : Value}
end
section
variable {X : Cx}
def tMaxLen (K : PySem.W.Frag) (ta : TA) : TE := fun σ H Q => ta σ H fun vs H1 => ∃ (a : Addr) (xs : List Addr) (ys : Nat → List V), vs = [.ref a] ∧ SqL K H1 a (xs.map V.ref) ∧ (∀ i x, xs[i]? = some x → SqL K H1 x (ys i)) ∧
  ∀ d, H1 d = none → (xs = [] → Q (.ref d) (upd H1 d (.lst []))) ∧ (∀ i x, xs[i]? = some x → (∀ j, j < xs.length → (ys j).length ≤ (ys i).length) → Q (.ref x) (upd H1 d (.lst [])))
end
end L2

namespace OL
open PySem L2
section
variable {many : Int} {bs : List Int} (hb : ∀ x ∈ bs, InB many x)
include hb
end
def Heads (H : Hp) (c : Int) (xs : List Addr) : Prop := ∀ x ∈ xs, ∃ t : List Int, H x = some (.lst ((c :: t).map V.int))
def spLongest : Sp := fun vs H Q _ => ∃ (a : Addr) (rs : List (Int × Int)), vs = [.ref a] ∧ RL H a rs ∧ rs.length ≤ 1000 ∧ (∀ q rs', rs = q :: rs' → ∀ r ∈ rs, hasF r.1 q.1 = true) ∧
  ∀ (r : Addr) (ys : List Int) (H' : Hp), Same H H' → H' r = some (.lst (ys.map V.int)) → (rs = [] → ys = []) → (∀ q rs', rs = q :: rs' → ∃ t, ys = q.1 :: t) → Q (.ref r) H'
def spLongestOf (K : PySem.W.Frag) : Sp := fun vs H Q _ => ∃ (a : Addr) (xs : List Addr) (ys : Nat → List V), vs = [.ref a] ∧ SqL K H a (xs.map V.ref) ∧ (∀ i x, xs[i]? = some x → SqL K H x (ys i)) ∧
  ∀ (H' : Hp), Same H H' → (∀ d, xs = [] → H d = none → H' d = some (.lst []) → Q (.ref d) H') ∧ (∀ i x, xs[i]? = some x → (∀ j, j < xs.length → (ys j).length ≤ (ys i).length) → Q (.ref x) H')
def spOrder : Sp := fun vs H Q _ => ∃ (p l : Addr) (x y z : Int) (bs : List Int), vs = [.ref p, .ref l] ∧ H p = some (.lst [.int x, .int y, .int z]) ∧ H l = some (.lst (bs.map V.int)) ∧ p ≠ l ∧ bs.length ≤ 500 ∧
  ∀ (r : Addr) (bs' : List Int) (x' y' z' : Int) (H' : Hp), SameB p H H' → H r = none → H' r = some (.lst (bs'.map V.int)) → bs'.Perm bs → H' p = some (.lst [.int x', .int y', .int z']) → Q (.ref r) H'
end OL

namespace OL
open PySem L2
/-! ### lots cut out: at least as many as there are unlike baskets -/
/-- every part of x is some member's part in x -/
def cutB (F : List Nat) (n x : Nat) : Bool := (List.range n).all fun y => (!(y &&& x == y)) || F.any fun b => b &&& x == y
end OL

namespace L2
open PySem PySem.Spec PyProof.Rows
/-- new objects, several at once -/
def mrg (H N : Hp) : Hp := fun b => match N b with | some o => some o | none => H b
section
variable {X : Cx}
/-- list(d.items()), d a dict of whole numbers to whole numbers -/
def tListItems (te : TE) : TE := fun σ H Q => te σ H fun x H1 => ∃ (d : Addr) (rs : List (Int × Int)), x = .ref d ∧ H1 d = some (.dK (tabR rs)) ∧
  ∀ (l : Addr) (xs : List V) (H2 : Hp), Same H1 H2 → H1 l = none → H2 l = some (.lst xs) → Rows H2 xs rs → Q (.ref l) H2
open Classical in
noncomputable def rowN (L : Addr) (as : List Addr) (rs : List (Int × Int)) : Hp := fun b => if b = L then some (.lst (as.map V.ref)) else if h : ∃ j : Nat, as[j]? = some b then some (.tup [.int (rs.getD h.choose (0, 0)).1, .int (rs.getD h.choose (0, 0)).2]) else none
end
end L2

namespace L2
open PySem PySem.Spec PyProof.Rows
end L2
namespace OL
open PySem L2
/-! ### parts of a lot -/
def wiF (n : Nat) (i : Nat) : List Int := ((List.range i).filter fun (y : Nat) => Builtin.bitAnd (y : Int) (n : Int) == (y : Int)).map fun (y : Nat) => (y : Int)
def cutI' (bs : List Int) (lot : Int) : List Int := bs.map fun b => Builtin.bitAnd b lot
def toldF (bs : List Int) (n : Nat) (lot : Int) : List Int := (justU (cutI' bs lot) n).map Prod.fst
def cOut (bs : List Int) (n x : Nat) : Bool := toldF bs n (x : Int) == wiF x (x + 1)
def outL (bs : List Int) (n i : Nat) : List Int := ((List.range i).filter (cOut bs n)).map fun (x : Nat) => (x : Int)
def fewL (k : Int) (i : Nat) : List Int := ((List.range i).filter fun x => decide ((sz x : Int) < k)).map fun (x : Nat) => (x : Int)
/-! ### counting in a dict -/
def CInv (cs : List Int) (rs : List (Int × Int)) : Prop := (rs.map Prod.fst).Nodup ∧ (∀ r ∈ rs, r.1 ∈ cs ∧ r.2 = (eqN cs r.1 : Int)) ∧ ∀ x ∈ cs, ∃ r ∈ rs, r.1 = x
def addR (rs : List (Int × Int)) (x : Int) : List (Int × Int) := if inR rs x = true then rs.map (fun r => if r.1 = x then (r.1, r.2 + 1) else r) else rs ++ [(x, 1)]
def spSz : Sp := fun vs H Q _ => ∃ n : Nat, vs = [.int (n : Int)] ∧ n < 4096 ∧ ∀ H', Same H H' → Q (.int (sz n : Int)) H'
def spWi : Sp := fun vs H Q _ => ∃ n : Nat, vs = [.int (n : Int)] ∧ n < 4096 ∧ ∀ (r : Addr) (H' : Hp), Same H H' → H r = none → H' r = some (.lst ((wiF n (n + 1)).map V.int)) → Q (.ref r) H'
def spJu (K : PySem.W.Frag) : Sp := fun vs H Q _ => ∃ (l : Addr) (many : Int) (bs : List Int), vs = [.int many, .ref l] ∧ SqL K H l (bs.map V.int) ∧ bs.length ≤ 100 ∧ 0 ≤ many ∧ many ≤ 5 ∧ (∀ x ∈ bs, InB many x) ∧ ∀ (r : Addr) (xs : List V) (H' : Hp), Same H H' → H r = none → H' r = some (.lst xs) → Rows H' xs (justU bs (2 ^ many.toNat)) → Q (.ref r) H'
def spCt (K : PySem.W.Frag) : Sp := fun vs H Q _ => ∃ (l : Addr) (many : Int) (bs : List Int), vs = [.ref l] ∧ SqL K H l (bs.map V.int) ∧ bs.length ≤ 100 ∧ (∀ x ∈ bs, InB many x) ∧ ∀ (r : Addr) (xs : List V) (H' : Hp), Same H H' → H r = none → H' r = some (.lst xs) → Rows H' xs (justU bs (2 ^ many.toNat)) → Q (.ref r) H'
def spLo : Sp := fun vs H Q _ => ∃ (p : Addr) (many rows x y z : Int), vs = [.ref p, .int many, .int rows] ∧ 1 ≤ many ∧ many ≤ 5 ∧ 0 ≤ rows ∧ rows ≤ 30 ∧ H p = some (.lst [.int x, .int y, .int z]) ∧
  ∀ (r : Addr) (bs : List Int) (x' y' z' : Int) (H' : Hp), SameB p H H' → H r = none → H' r = some (.lst (bs.map V.int)) → bs.length ≤ 100 → (∀ x ∈ bs, InB many x) → H' p = some (.lst [.int x', .int y', .int z']) → Q (.ref r) H'
end OL

/-! a comprehension whose own names may be cells (a comprehension within it reads them) -/
namespace L2
open PySem PySem.Spec PyProof.Rows

theorem cellsFrom_app : ∀ (names : List (Str × NameKind)) (n : Nat) (acc : List (Str × Addr)), cellsFrom n names acc = cellsFrom n names [] ++ acc
  | [], _, _ => rfl
  | (name, kind) :: r, n, acc => by
    unfold cellsFrom
    split
    · rw [cellsFrom_app r (n + 1) ((name, n) :: acc), cellsFrom_app r (n + 1) [(name, n)], List.append_assoc]; rfl
    · exact cellsFrom_app r n acc
theorem cellsFrom_mem : ∀ (names : List (Str × NameKind)) (n : Nat) (acc : List (Str × Addr)) {x : Str} {c : Addr}, (x, c) ∈ cellsFrom n names acc → (x, NameKind.cell) ∈ names ∨ (x, c) ∈ acc
  | [], _, _, _, _, h => .inr h
  | (name, kind) :: r, n, acc, x, c, h => by
    unfold cellsFrom at h
    split at h
    · rename_i hk
      rcases cellsFrom_mem r (n + 1) _ h with z | z
      · exact .inl (List.mem_cons_of_mem _ z)
      · rcases List.mem_cons.mp z with e | z
        · cases e
          have : kind = .cell := by simpa using hk
          subst this
          exact .inl List.mem_cons_self
        · exact .inr z
    · rcases cellsFrom_mem r n _ h with z | z
      · exact .inl (List.mem_cons_of_mem _ z)
      · exact .inr z

theorem lookup_app {l1 l2 : List (Str × Addr)} {x : Str} : (l1 ++ l2).lookup x = match l1.lookup x with | some c => some c | none => l2.lookup x := by
  induction l1 with
  | nil => rfl
  | cons p r ih =>
    obtain ⟨n, c⟩ := p
    rw [List.cons_append, List.lookup_cons, List.lookup_cons]
    cases x == n with
    | true => rfl
    | false => exact ih

theorem wpAny_newFunctionEnv_comp {M : Model} {A : Around} {E : Value → Shared → Prop} {s : Shared} {scope : Scope} {globals : Addr} {cl : List (Str × Addr)} {qual : Str} {env : Env} {Q : Env → Shared → Prop}
    (hQ : Q (newEnv scope s.heap.objs.size globals (cellsFrom (s.heap.objs.size + 1) scope.names cl) qual none .none (some env) builtinsNs) { s with heap := pushCells (s.heap.push { cls := .type "dict", data := .dict #[] }) scope.names }) :
    wpAny M A (newFunctionEnv scope globals cl [] qual none .none (some env)) Q E s := by
  simp only [newFunctionEnv, Option.isSome_some, if_true]
  refine wpAny_bind (wpAny_alloc ?_)
  refine wpAny_bind (wpAny_layCells _ (fun name kind cells => by cases hkc : kind == NameKind.cell <;> simp [hkc]) _ _ _ _ ?_)
  rw [show ({ s with heap := s.heap.push { cls := .type "dict", data := .dict #[] } } : Shared).heap.objs.size = s.heap.objs.size + 1 from Heap.size_push ..]
  refine wpAny_bind ?_
  rw [List.forIn_nil]
  exact wpAny_pure (wpAny_pure hQ)

/-- the scope that stands there, or one relabelled -/
def RelSc (a b : Scope) : Prop := a = b ∨ ∃ env, a = relabel b env
theorem relabel_kept {scope : Scope} {env : Env} {x : Str} (h : scope.names.lookup x = some .cell ∨ scope.names.lookup x = some .free) : (relabel scope env).names.lookup x = some .cell ∨ (relabel scope env).names.lookup x = some .free := by
  have go : ∀ names : List (Str × NameKind), (names.lookup x = some .cell ∨ names.lookup x = some .free) → (names.map fun (n, k) => if (k == NameKind.free && env.scope.kind == .function && env.kindOf n == some .cell) then (n, NameKind.cell) else (n, k)).lookup x = some .cell ∨
      (names.map fun (n, k) => if (k == NameKind.free && env.scope.kind == .function && env.kindOf n == some .cell) then (n, NameKind.cell) else (n, k)).lookup x = some .free := by
    intro names
    induction names with
    | nil => intro h; rcases h with h | h <;> cases h
    | cons p r ih =>
      obtain ⟨n, k⟩ := p
      intro h
      rw [List.lookup_cons] at h
      rw [List.map_cons]
      by_cases hc : (k == NameKind.free && env.scope.kind == .function && env.kindOf n == some .cell) = true
      · simp only [hc, if_true]
        rw [List.lookup_cons]
        cases hx : x == n with
        | true => exact .inl rfl
        | false => rw [hx] at h; exact ih h
      · have hc' : (k == NameKind.free && env.scope.kind == .function && env.kindOf n == some .cell) = false := by simpa using hc
        simp only [hc', Bool.false_eq_true, if_false]
        rw [List.lookup_cons]
        cases hx : x == n with
        | true => rw [hx] at h; exact h
        | false => rw [hx] at h; exact ih h
  exact go _ h

def Cx.compC (X : Cx) (scope : Scope) (own : List Str) (js : List Nat) (cl : List (Str × Addr)) (s : Shared) (H : Hp) (C : Addr) (fp : List Addr) : Cx :=
  { prog := X.prog, w := X.w, K := X.K, mg := X.mg, base := X.base, A := X.A, N := own ++ js.map (fun j => X.N.getD j ""), s₀ := s, H₀ := H, env := compEnvC scope cl C X.env, outer := X.stack, stack := X.stack, ex := fp,
    fn := fun x => scope.names.lookup x == some .cell, calm := X.calm, pn := [], xe := fun _ _ => False }
structure CompScopeCN (sc : Scope) (N : List Str) (scope : Scope) (js : List Nat) : Prop where
  kind : scope.kind = .function
  cell : ∀ x ∈ scope.names, x.2 = .cell → scope.names.lookup x.1 = some .cell
  names : ∀ x ∈ scope.names, x.2 = .local → scope.names.lookup x.1 = some .local
  free : ∀ x ∈ scope.names, x.2 = .free → sc.names.lookup x.1 = some .cell ∨ sc.names.lookup x.1 = some .free
  js : ∀ j ∈ js, scope.names.lookup (N.getD j "") ≠ some .local ∧ scope.names.lookup (N.getD j "") ≠ some .cell
structure CompScopeC (X : Cx) (scope : Scope) (own : List Str) (js : List Nat) : Prop where
  kind : scope.kind = .function
  cell : ∀ x ∈ scope.names, x.2 = .cell → scope.names.lookup x.1 = some .cell
  names : ∀ x ∈ scope.names, x.2 = .local → scope.names.lookup x.1 = some .local
  free : ∀ x ∈ scope.names, x.2 = .free → X.env.kindOf x.1 = some .cell ∨ X.env.kindOf x.1 = some .free
  js : ∀ j ∈ js, scope.names.lookup (X.N.getD j "") ≠ some .local ∧ scope.names.lookup (X.N.getD j "") ≠ some .cell

section
variable {X : Cx} {scope : Scope} {own : List Str} {js : List Nat}
theorem CompScopeCN.cs {sc : Scope} {N : List Str} (S : CompScopeCN sc N scope js) (h1 : RelSc X.env.scope sc) (h2 : X.N = N) : CompScopeC X scope own js := by
  subst h2
  refine ⟨S.kind, S.cell, S.names, fun x hx hf => ?_, S.js⟩
  have := S.free x hx hf
  rcases h1 with e | ⟨env, e⟩
  · show X.env.scope.names.lookup _ = _ ∨ X.env.scope.names.lookup _ = _
    rw [e]; exact this
  · show X.env.scope.names.lookup _ = _ ∨ X.env.scope.names.lookup _ = _
    rw [e]; exact relabel_kept this

/-- what the cells of the block are: the closure's, and new ones -/
structure CellsIn (X : Cx) (scope : Scope) (cl : List (Str × Addr)) (C : Addr) (h1 : Heap) : Prop where
  what : ∀ x c, cl.lookup x = some c → (X.env.cells.lookup x = some c ∧ (x, NameKind.cell) ∉ scope.names) ∨ (@LT.lt Nat _ C c ∧ h1.IsCell c none ∧ (x, NameKind.cell) ∈ scope.names)
  inj : ∀ x y c, (x, NameKind.cell) ∈ scope.names → (y, NameKind.cell) ∈ scope.names → cl.lookup x = some c → cl.lookup y = some c → x = y
  has : ∀ n, (n, NameKind.free) ∈ scope.names ∨ (n, NameKind.cell) ∈ scope.names → ∃ c, cl.lookup n = some c

theorem cells_in {cl0 : List (Str × Addr)} {h : Heap} {C : Addr} (S : CompScopeC X scope own js) (hcl : ∀ x c, cl0.lookup x = some c → X.env.cells.lookup x = some c) (hcl2 : ∀ n, (n, NameKind.free) ∈ scope.names → ∃ c, cl0.lookup n = some c)
    (hC : @Eq Nat h.objs.size (C + 1)) : CellsIn X scope (cellsFrom (C + 1) scope.names cl0) C (pushCells h scope.names) := by
  have ok := cellsFrom_ok scope.names h (C + 1) [] ⟨fun _ _ hm => (nomatch hm), List.Pairwise.nil⟩ (Nat.le_of_eq hC.symm)
  rw [hC] at ok
  have cases2 : ∀ x c, (cellsFrom (C + 1) scope.names cl0).lookup x = some c → ((cellsFrom (C + 1) scope.names []).lookup x = some c) ∨ ((cellsFrom (C + 1) scope.names []).lookup x = none ∧ cl0.lookup x = some c) := fun x c e => by
    rw [cellsFrom_app, lookup_app] at e
    cases q : (cellsFrom (C + 1) scope.names []).lookup x with
    | some c' => rw [q] at e; exact .inl e
    | none => rw [q] at e; exact .inr ⟨rfl, e⟩
  have newMem : ∀ x c, (cellsFrom (C + 1) scope.names []).lookup x = some c → (x, NameKind.cell) ∈ scope.names := fun x c e => (cellsFrom_mem _ _ _ (PySem.mem_of_lookup e)).elim id fun z => nomatch z
  have newHas : ∀ x, (x, NameKind.cell) ∈ scope.names → ∃ c, (cellsFrom (C + 1) scope.names []).lookup x = some c := fun x hx => Option.isSome_iff_exists.mp (PySem.W.cellsFrom_some scope.names _ [] (.inl (S.cell _ hx rfl)))
  refine ⟨fun x c e => ?_, fun x y c hx hy e1 e2 => ?_, fun n hn => ?_⟩
  · rcases cases2 x c e with q | ⟨q, e⟩
    · obtain ⟨z1, z2⟩ := ok.empty x c (PySem.mem_of_lookup q)
      exact .inr ⟨z2, z1, newMem x c q⟩
    · refine .inl ⟨hcl x c e, fun hm => ?_⟩
      obtain ⟨c', e'⟩ := newHas x hm
      rw [q] at e'; cases e'
  · have g : ∀ x, (x, NameKind.cell) ∈ scope.names → (cellsFrom (C + 1) scope.names cl0).lookup x = some c → (cellsFrom (C + 1) scope.names []).lookup x = some c := fun x hm e => by
      rcases cases2 x c e with q | ⟨q, e⟩
      · exact q
      · obtain ⟨c', e'⟩ := newHas x hm
        rw [q] at e'; cases e'
    exact name_of_addr ok.apart (PySem.mem_of_lookup (g x hx e1)) (PySem.mem_of_lookup (g y hy e2))
  · rw [cellsFrom_app, lookup_app]
    cases q : (cellsFrom (C + 1) scope.names []).lookup n with
    | some c' => exact ⟨c', rfl⟩
    | none =>
      rcases hn with hn | hn
      · exact hcl2 n hn
      · obtain ⟨c', e'⟩ := newHas n hn
        rw [q] at e'; cases e'

theorem comp_startC {pins : List (Addr × Obj)} {σ : St} {H : Hp} {s : Shared} {cl : List (Str × Addr)} {fp : List Addr} {h1 : Heap} {C : Addr} {m : Str → Option Value} {t1 : Nat} (S : CompScopeC X scope own js) (I : Inv X pins σ H s)
    (hf : ∀ b ∈ fp, FpOk X pins H b ∧ b < s.heap.objs.size)
    (CI : CellsIn X scope cl C h1)
    (hC : @Eq Nat C (s.heap.objs.size + 1)) (hns : h1.Ns C m) (hk : ∀ b o, s.heap.get? b = some o → h1.get? b = some o) (hn : h1.get? s.heap.objs.size = some { cls := .type "list", dict := none, data := .seq ([] : List Value).toArray }) :
    Inv (X.compC scope own js cl s H C fp) [] (pick own.length js σ) (upd H s.heap.objs.size (.lst [])) { s with heap := h1, toks := t1 } := by
  have below : ∀ b, b < s.heap.objs.size → b ≠ C ∧ b ≠ s.heap.objs.size := fun b hb => ⟨Nat.ne_of_lt (Nat.lt_of_lt_of_eq (Nat.lt_succ_of_lt hb) hC.symm), Nat.ne_of_lt hb⟩
  have kinds : ∀ x, ((X.compC scope own js cl s H C fp).env.kindOf x = some .cell ∨ (X.compC scope own js cl s H C fp).env.kindOf x = some .free) → (x, NameKind.free) ∈ scope.names ∨ (x, NameKind.cell) ∈ scope.names := fun x hx => by
    have hx : (relabel scope X.env).names.lookup x = some .cell ∨ (relabel scope X.env).names.lookup x = some .free := hx
    rcases hx with hx | hx
    · obtain ⟨k, q1, q2⟩ := relabel_lookup hx
      rcases q2 with q2 | ⟨q2, _⟩
      · subst q2; exact .inr (PySem.mem_of_lookup q1)
      · exact .inl (q2 ▸ PySem.mem_of_lookup q1)
    · obtain ⟨k, q1, q2⟩ := relabel_lookup hx
      rcases q2 with q2 | ⟨_, q2⟩
      · exact .inl (q2 ▸ PySem.mem_of_lookup q1)
      · cases q2
  have hCle : s.heap.objs.size ≤ C := Nat.le_of_lt (Nat.lt_of_lt_of_eq (Nat.lt_succ_self _) hC.symm)
  have hCne : C ≠ s.heap.objs.size := Nat.ne_of_gt (Nat.lt_of_lt_of_eq (Nat.lt_succ_self _) hC.symm)
  have accn : H s.heap.objs.size = none := I.hok.fresh (Nat.le_refl _)
  have oldLt : ∀ x c, X.env.cells.lookup x = some c → c < s.heap.objs.size := fun x c e => by
    obtain ⟨v, z⟩ := I.cell x c e
    exact z.lt
  have inj : ∀ x y c, cl.lookup x = some c → cl.lookup y = some c → x = y := fun x y c e1 e2 => by
    rcases CI.what x c e1 with ⟨a1, _⟩ | ⟨a1, _, a3⟩ <;> rcases CI.what y c e2 with ⟨b1, _⟩ | ⟨b1, _, b3⟩
    · exact I.ok.inj x y c a1 b1
    · exact absurd (Nat.lt_of_lt_of_le (oldLt x c a1) hCle) (Nat.lt_asymm b1)
    · exact absurd (Nat.lt_of_lt_of_le (oldLt y c b1) hCle) (Nat.lt_asymm a1)
    · exact CI.inj x y c a3 b3 e1 e2
  have cne : ∀ x c b, cl.lookup x = some c → b < s.heap.objs.size → (∀ x c, X.env.cells.lookup x = some c → c ≠ b) → c ≠ b := fun x c b e lt h => by
    rcases CI.what x c e with ⟨a1, _⟩ | ⟨a1, _⟩
    · exact h x c a1
    · exact Nat.ne_of_gt (Nat.lt_trans (Nat.lt_of_lt_of_le lt hCle) a1)
  refine ⟨⟨I.ok.mod, S.kind, I.ok.glob, I.ok.blt, hCle, inj, fun x hx => CI.has x (kinds x hx), fun x c hfn e => ?_, I.ok.hd, I.ok.frames, .inl rfl, fun b hb => ?_, I.bs, Nat.le_trans I.ok.bsz I.sz, fun b o e hb => ?_, fun b hb => ?_, I.stack, I.stkFree⟩,
    rfl, I.bare, ?_, ⟨m, hns, fun i x v e1 e2 e3 => ?_⟩, fun x c e => ?_, ?_, fun x c e => ?_, fun p hp => absurd (show p ∈ ([] : List (Addr × Obj)) from hp) (by simp), ?_, ?_⟩
  · have hfn : (scope.names.lookup x == some .cell) = true := hfn
    have hm := PySem.mem_of_lookup (eq_of_beq hfn)
    rcases CI.what x c e with ⟨_, a1⟩ | ⟨a1, _⟩
    · exact absurd hm a1
    · exact Nat.le_of_lt (Nat.lt_of_le_of_lt hCle a1)
  · obtain ⟨⟨f0, f1, f2, f3, f4, f5⟩, lt⟩ := hf b hb
    exact ⟨(below b lt).1, fun x c e => cne x c b e lt f4⟩
  · obtain ⟨⟨f0, f1, f2, f3, f4, f5⟩, lt⟩ := hf b hb
    rcases f3 with z | z
    · exact I.ok.noex b o e z
    · exact Nat.lt_irrefl _ (Nat.lt_of_lt_of_le (Heap.lt_size e) (Nat.le_trans I.ok.bsz z))
  · obtain ⟨⟨f0, f1, f2, f3, f4, f5⟩, lt⟩ := hf b hb
    exact fun z => (List.mem_cons.mp (I.stkSub b z)).elim f1 f2
  · exact Un.laid hk (Nat.le_refl _) accn
  · have hi : ¬ i < own.length := fun hi => by
      unfold pick at e2
      rw [List.getElem?_append_left (by simpa using hi), List.getElem?_replicate] at e2
      split at e2 <;> cases e2
    unfold pick at e2
    rw [List.getElem?_append_right (by simpa using hi), List.length_replicate] at e2
    have e1 : (own ++ js.map (fun j => X.N.getD j ""))[i]? = some x := e1
    rw [List.getElem?_append_right (by omega)] at e1
    rw [List.getElem?_map] at e1 e2
    cases ej : js[i - own.length]? with
    | none => rw [ej] at e1; cases e1
    | some j =>
      rw [ej] at e1 e2
      have e1 : X.N.getD j "" = x := Option.some.inj e1
      have e2 : (σ[j]?).join = some v := Option.some.inj e2
      have e2' : σ[j]? = some (some v) := by
        cases q : σ[j]? with
        | none => rw [q] at e2; cases e2
        | some o => rw [q] at e2; have : o = some v := e2; rw [this]
      have hj : j < X.N.length := by
        have := (List.getElem?_eq_some_iff.mp e2').1
        rw [I.len] at this; exact this
      have e1' : X.N[j]? = some x := by
        rw [← e1, List.getD_eq_getElem?_getD, List.getElem?_eq_getElem hj]; rfl
      have e3 : Vis (relabel scope X.env) x := e3
      have notl : ¬ (x, NameKind.cell) ∈ scope.names := fun hm => (S.js j (List.mem_of_getElem? ej)).2 (by rw [e1]; exact S.cell _ hm rfl)
      have hfr : (x, NameKind.free) ∈ scope.names := by
        rcases e3 with e3 | e3 | e3
        · obtain ⟨k, q1, q2⟩ := relabel_lookup e3
          rcases q2 with q2 | ⟨_, q2⟩
          · subst q2
            exact absurd (e1 ▸ q1) (S.js j (List.mem_of_getElem? ej)).1
          · cases q2
        · exact (kinds x (.inl e3)).elim id fun z => absurd z notl
        · exact (kinds x (.inr e3)).elim id fun z => absurd z notl
      have hkind := S.free _ hfr rfl
      obtain ⟨m0, hn0, hl0⟩ := I.loc
      have hv : Vis X.env.scope x := by
        rcases hkind with z | z
        · exact .inr (.inl z)
        · exact .inr (.inr z)
      obtain ⟨u, r, lk⟩ := hl0 j x v e1' e2' hv
      refine ⟨u, r, ?_⟩
      rcases lk with ⟨z, _⟩ | ⟨_, c, ec, hc⟩
      · rcases hkind with q | q <;> (rw [z] at q; cases q)
      · obtain ⟨c', ec'⟩ := CI.has x (.inl hfr)
        have : c' = c := by
          rcases CI.what x c' ec' with ⟨a1, _⟩ | ⟨_, _, a3⟩
          · rw [ec] at a1; cases a1; rfl
          · exact absurd a3 notl
        subst this
        refine .inr ⟨?_, c', ec', ?_⟩
        · rcases e3 with e3 | e3 | e3
          · obtain ⟨k, q1, q2⟩ := relabel_lookup e3
            rcases q2 with q2 | ⟨_, q2⟩
            · subst q2
              exact absurd (e1 ▸ q1) (S.js j (List.mem_of_getElem? ej)).1
            · cases q2
          · exact .inl e3
          · exact .inr e3
        · obtain ⟨oc, hoc, hd⟩ := hc
          exact ⟨oc, hk _ _ hoc, hd⟩
  · rcases CI.what x c e with ⟨a1, _⟩ | ⟨_, a2, _⟩
    · obtain ⟨v, oc, hoc, hd⟩ := I.cell x c a1
      exact ⟨v, oc, hk _ _ hoc, hd⟩
    · exact ⟨none, a2⟩
  · show upd H s.heap.objs.size (.lst []) C = none
    rw [upd_ne hCne]
    exact I.hok.fresh hCle
  · rcases CI.what x c e with ⟨a1, _⟩ | ⟨a1, a2, _⟩
    · rw [upd_ne (below c (oldLt x c a1)).2]
      exact I.freeC x c a1
    · rw [upd_ne (Nat.ne_of_gt (Nat.lt_of_le_of_lt hCle a1))]
      exact I.hok.fresh (Nat.le_of_lt (Nat.lt_of_le_of_lt hCle a1))
  · refine I.hok.laid hk (Nat.le_refl _) ⟨by show 0 ≤ sizeLine; exact Nat.zero_le _, [], 0, .nil, ?_⟩
    exact hn
  · unfold pick
    show _ = (own ++ js.map (fun j => X.N.getD j "")).length
    rw [List.length_append, List.length_append, List.length_replicate, List.length_map, List.length_map]
end

section
variable {X : Cx} {scope : Scope} {own : List Str} {js : List Nat} {tg iter elt : Expr} {ifs : List Expr} {pos : Pos} {wi : TI} {g : TG} {c : TT} {te : TE}
theorem comp_leaveC {pins : List (Addr × Obj)} {σ σ' : St} {H H' : Hp} {s s' : Shared} {cl : List (Str × Addr)} {fp : List Addr} {C : Addr} (I : Inv X pins σ H s) (hf : ∀ b ∈ fp, FpOk X pins H b)
    (J : Inv (X.compC scope own js cl s H C fp) [] σ' H' s') : Inv X pins σ H' s' :=
  I.call' (ch := fp) J.os J.base J.hok J.bare fun b hb => by
    obtain ⟨f0, f1, f2, f3, f4, f5⟩ := hf b hb
    exact ⟨f3, f1, f4, f5⟩

theorem comp_coreC {pins : List (Addr × Obj)} {σ : St} {H : Hp} {s : Shared} {cl0 : List (Str × Addr)} {fp : List Addr} {it : Addr} {tn : Nat → Heap → Prop} {J : It} {Q : VK} {E : Value → Shared → Prop} {RR : Value → Addr → Result → Shared → Prop}
    (hc : X.calm = true) (S : CompScopeC X scope own js) (I : Inv X pins σ H s) (T : Turn X.prog X.w X.K tg J fp it tn) (t0 : tn 0 s.heap) (hf : ∀ b ∈ fp, FpOk X pins H b)
    (hcl : ∀ x c, cl0.lookup x = some c → X.env.cells.lookup x = some c) (hcl2 : ∀ n, (n, NameKind.free) ∈ scope.names → ∃ c, cl0.lookup n = some c)
    (hg : ∀ cl s H C fp, PG (X.compC scope own js cl s H C fp) tg g) (hi : ∀ cl s H C fp, PIfs (X.compC scope own js cl s H C fp) ifs c) (he : ∀ cl s H C fp, PE (X.compC scope own js cl s H C fp) elt te)
    (q : tCompR own.length js g c te J σ H Q)
    (hRR : ∀ acc C cl H' s', s.heap.objs.size ≤ C → Inv (X.compC scope own js cl s H C fp) [] (pick own.length js σ) H' s' → Q (.ref acc) H' → RR (.ref acc) C (.ok .next) s') :
    wpAny (model X.prog X.w) X.A (newList []) (fun acc s3 => wpAny (model X.prog X.w) X.A (newFunctionEnv scope X.env.globals cl0 [] X.env.qual none .none (some X.env)) (fun cenv s4 =>
      codeAny (model X.prog X.w) X.A (.compStart (.ListComp elt [⟨tg, iter, ifs, 0⟩] scope pos) 0 (.ref it) acc { cenv with scope := relabel scope X.env }) (RR acc cenv.locals) s4) E s3) E s := by
  refine wpAny_newObj_type (wpAny_newFunctionEnv_comp ?_)
  dsimp only
  generalize hH2 : s.heap.push { cls := .type "list", dict := none, data := .seq ([] : List Value).toArray } = H2
  have hC : @Eq Nat H2.objs.size (s.heap.objs.size + 1) := by rw [← hH2, Heap.size_push]
  have hDC : s.heap.objs.size ≠ H2.objs.size := by rw [hC]; exact Nat.ne_of_lt (Nat.lt_succ_self _)
  have hCle : s.heap.objs.size ≤ H2.objs.size := by rw [hC]; exact Nat.le_succ _
  have CI := cells_in (h := H2.push { cls := .type "dict", data := .dict #[] }) (C := H2.objs.size) S hcl hcl2 (by rw [Heap.size_push])
  have hns1 : (pushCells (H2.push { cls := .type "dict", data := .dict #[] }) scope.names).Ns H2.objs.size fun _ => none := (Heap.Ns.new H2 (.type "dict")).keeps (pushCells_keeps _ _)
  have old2 : ∀ b o, H2.get? b = some o → (pushCells (H2.push { cls := .type "dict", data := .dict #[] }) scope.names).get? b = some o := fun b o e => pushCells_keeps _ _ b o (Heap.get?_push_of_some _ e)
  generalize hh1 : pushCells (H2.push { cls := .type "dict", data := .dict #[] }) scope.names = h1 at CI hns1 old2 ⊢
  generalize hcl' : cellsFrom (H2.objs.size + 1) scope.names cl0 = cl at CI ⊢
  have old : ∀ b o, s.heap.get? b = some o → h1.get? b = some o := fun b o e => old2 b o (hH2 ▸ Heap.get?_push_of_some _ e)
  have hacc : h1.get? s.heap.objs.size = some { cls := .type "list", dict := none, data := .seq ([] : List Value).toArray } := old2 _ _ (hH2 ▸ Heap.get?_push_size _ rfl)
  have hfl : ∀ b ∈ fp, FpOk X pins H b ∧ b < s.heap.objs.size := fun b hb => ⟨hf b hb, by
    obtain ⟨o, e, _⟩ := T.obj 0 s.heap t0 b hb
    exact Heap.lt_size e⟩
  obtain ⟨W, ⟨m0, w0⟩, turn⟩ := q s.heap.objs.size (I.hok.fresh (Nat.le_refl _))
  have I1 := comp_startC (t1 := s.toks) S I hfl CI hC hns1 old hacc
  have t1 : tn 0 h1 := T.keep 0 s.heap h1 t0 fun b _ o e => old b o e
  have stat : ∀ {pins' : List (Addr × Obj)} {H' : Hp}, (∀ b ∈ fp, H' b = none) → (∀ p ∈ pins', p.1 ∉ fp) → ∀ b ∈ fp, FpOk (X.compC scope own js cl s H H2.objs.size fp) pins' H' b := fun hn hp b hb => by
    obtain ⟨⟨f0, f1, f2, f3, f4, f5⟩, lt⟩ := hfl b hb
    refine ⟨hn b hb, Nat.ne_of_lt (Nat.lt_of_lt_of_le lt hCle), fun z => (List.mem_cons.mp (I.stkSub b z)).elim f1 f2, .inl hb, fun x c e => ?_, fun p hp' z => hp p hp' (z ▸ hb)⟩
    rcases CI.what x c e with ⟨a1, _⟩ | ⟨a1, _⟩
    · exact f4 x c a1
    · exact Nat.ne_of_gt (Nat.lt_trans (Nat.lt_of_lt_of_le lt hCle) a1)
  have fr0 : ∀ b ∈ fp, (upd H s.heap.objs.size (.lst [])) b = none := fun b hb => by
    obtain ⟨⟨f0, _⟩, lt⟩ := hfl b hb
    rw [upd_ne (Nat.ne_of_lt lt)]; exact f0
  have loop : ∀ s3 : Shared, s3 = { s with heap := h1 } →
      codeAny (model X.prog X.w) X.A (.compLoop (.ListComp elt [⟨tg, iter, ifs, 0⟩] scope pos) 0 (.ref it) (.ref s.heap.objs.size) (compEnvC scope cl H2.objs.size X.env)) (RR (.ref s.heap.objs.size) H2.objs.size) s3 := by
    rintro s3 rfl
    refine compLoop_any (fun n s' => ∃ i H', Inv (X.compC scope own js cl s H H2.objs.size fp) [] (pick own.length js σ) H' s' ∧ tn i s'.heap ∧ (∀ b ∈ fp, H' b = none) ∧ W i n H') ?_ m0 ⟨0, _, I1, t1, fr0, w0⟩
    rintro n s4 ⟨i, H4, I4, st4, fr4, w4⟩
    have noP : ∀ p ∈ ([] : List (Addr × Obj)), p.1 ∉ fp := fun p hp => nomatch hp
    rcases turn i n H4 w4 with ⟨stop, qn⟩ | ⟨go, step⟩
    · refine thn (T.done (X.compC scope own js cl s H H2.objs.size fp) rfl rfl rfl hc i [] s4 _ H4 (fun _ _ => False) I4 (stat fr4 noP) st4 stop) fun r s5 ⟨hr, I5⟩ => ?_
      subst hr
      exact hRR _ _ _ H4 s5 hCle I5 qn
    · refine thn (T.item (X.compC scope own js cl s H H2.objs.size fp) rfl rfl rfl hc i [] s4 _ H4 (fun _ _ => False) I4 (stat fr4 noP) st4 go) fun r s5 ⟨u, hr, h5⟩ => ?_
      subst hr
      refine thn h5 fun _ s6 ⟨x, H6, I6, r6, y6, st6, fr6⟩ => ?_
      have I6' := I6.pinned (stat fr6 noP) (T.obj _ _ st6)
      have again : ∀ {σ7 : St} {H7 : Hp} {s7 : Shared} {m' : Nat}, Wk (pick own.length js σ) σ7 → Inv (X.compC scope own js cl s H H2.objs.size fp) ([] ++ pinsAt fp s6.heap) σ7 H7 s7 → m' < n → W (i + 1) m' H7 →
          ∃ m, m < n ∧ ∃ i H', Inv (X.compC scope own js cl s H H2.objs.size fp) [] (pick own.length js σ) H' s7 ∧ tn i s7.heap ∧ (∀ b ∈ fp, H' b = none) ∧ W i m H' := fun {σ7 H7 s7 m'} wk I7 hm w7 => by
        refine ⟨m', hm, i + 1, H7, (I7.unpinned).weak wk.1 wk.2, T.keep _ _ _ st6 fun b hb o e => (I7.pin (b, o) (List.mem_append_right _ (List.mem_append_right _ (mem_pinsAt hb e)))).1, fun b hb => ?_, w7⟩
        obtain ⟨o, e, d⟩ := T.obj _ _ st6 b hb
        exact (I7.pin (b, o) (List.mem_append_right _ (List.mem_append_right _ (mem_pinsAt hb e)))).2.1
      refine thn (hg cl s H H2.objs.size fp _ s6 _ H6 x u _ I6' r6 (step x H6 y6)) fun _ s7 ⟨σ7, H7, I7, wk7, q7⟩ => ?_
      refine thn (hi cl s H H2.objs.size fp _ s7 σ7 H7 _ I7 q7) fun ok s8 ⟨H8, I8, q8⟩ => ?_
      cases ok with
      | false =>
        obtain ⟨m', hm, w8⟩ := (show ∃ m', m' < n ∧ W (i + 1) m' H8 from by simpa using q8)
        exact again wk7 I8 hm w8
      | true =>
        have q8 : te σ7 H8 fun y H4 => ∃ ys, H4 s.heap.objs.size = some (.lst ys) ∧ ys.length < sizeLine ∧ ∃ m', m' < n ∧ W (i + 1) m' (upd H4 s.heap.objs.size (.lst (ys ++ [y]))) := by simpa using q8
        refine thn (he cl s H H2.objs.size fp _ s8 σ7 H8 _ I8 q8) fun yv s9 ⟨y, H9, I9, r9, ys, hy, hz, m', hm, w9⟩ => ?_
        refine thn (mt_append (X := X.compC scope own js cl s H H2.objs.size fp) _ s9 σ7 H9 (.ref s.heap.objs.size) [y] (.ref s.heap.objs.size) [yv] (fun _ H' => W (i + 1) m' H') I9 rfl (.cons r9 .nil) ⟨_, ys, y, rfl, rfl, hy, hz, w9⟩) fun _ s10 ⟨_, H10, I10, _, w10⟩ => ?_
        exact again wk7 I10 hm w10
  exact codeAny_compStart_list (loop _ rfl) (T.self X.A 0 _ _ _ t1 (loop _ rfl))

theorem pe_compC {sc : Scope} {N : List Str} (own : List Str) (js : List Nat) (hsc : RelSc X.env.scope sc) (hNN : X.N = N) (S0 : CompScopeCN sc N scope js) (hc : X.calm = true) (hit : PI X tg iter wi)
    (hg : ∀ cl s H C fp, PG (X.compC scope own js cl s H C fp) tg g) (hi : ∀ cl s H C fp, PIfs (X.compC scope own js cl s H C fp) ifs c) (he : ∀ cl s H C fp, PE (X.compC scope own js cl s H C fp) elt te)
    (hs : ∀ x, foldedSetIterable iter X.env x = pure x := by intro _; rfl) : PE X (.ListComp elt [⟨tg, iter, ifs, 0⟩] scope pos) (tComp own.length js wi g c te) := by
  intro pins s σ H Q I h
  have S : CompScopeC X scope own js := S0.cs hsc hNN
  obtain ⟨cl, hcl0, hcl, hcl2⟩ := closure_ok (env := X.env) (scope := scope) fun n hn => I.ok.has n (S.free _ hn rfl)
  rw [eval_ListComp]
  refine wpAny_comprehension_free (use := none) rfl hs hcl0 S.kind S.names (thn (hit pins s σ H _ I h) fun xv s1 h1 => thn h1 fun itv s2 h2 => ?_)
  obtain ⟨it, fp, tn, J, H2, e, I2, T, st2, f2, q2⟩ := h2
  subst e
  refine comp_coreC (RR := fun acc C => compPost (model X.prog X.w) X.A X.xe none (EP X pins σ Q) acc C) hc S I2 T st2 f2 hcl hcl2 hg hi he q2 fun acc C cl' H' s' hC J' q' => ?_
  obtain ⟨m, hn, _⟩ := J'.loc
  exact ⟨m, hn, fun h' hs' => ⟨.ref acc, H', comp_gone I2 hC (comp_leaveC I2 f2 J') J'.free hs', rfl, q'⟩⟩

theorem ps_setCompC {i : Nat} {x : Str} {pos' spos : Pos} (hN : X.N.Nodup) (hi0 : X.N[i]? = some x) (hx : X.env.scope.names.lookup x = some .local) {sc : Scope} {N : List Str} (own : List Str) (js : List Nat) (hsc : RelSc X.env.scope sc) (hNN : X.N = N) (S0 : CompScopeCN sc N scope js) (hc : X.calm = true) (hit : PI X tg iter wi)
    (hg : ∀ cl s H C fp, PG (X.compC scope own js cl s H C fp) tg g) (hi : ∀ cl s H C fp, PIfs (X.compC scope own js cl s H C fp) ifs c) (he : ∀ cl s H C fp, PE (X.compC scope own js cl s H C fp) elt te)
    (hsw : swapsWith (.ListComp elt [⟨tg, iter, ifs, 0⟩] scope pos) (some (.Name x pos')) spos.line X.env = pure true)
    (hs : ∀ x, foldedSetIterable iter X.env x = pure x := by intro _; rfl) : PS X (.Assign [.Name x pos'] (.ListComp elt [⟨tg, iter, ifs, 0⟩] scope pos) spos) (tAsg (tComp own.length js wi g c te) (gName i)) := by
  intro pins s σ H D I h
  have S : CompScopeC X scope own js := S0.cs hsc hNN
  obtain ⟨cl, hcl0, hcl, hcl2⟩ := closure_ok (env := X.env) (scope := scope) fun n hn => I.ok.has n (S.free _ hn rfl)
  rw [exec_Assign_Name_used _ _ _ _ hsw]
  refine wpAny_bind (wpAny_standAt (wpAny_bind ?_))
  show wpAny _ X.A (do let _ ← comprehension (.ListComp elt [⟨tg, iter, ifs, 0⟩] scope pos) scope X.env _ (newList []) false (eval iter X.env) (some (assign (.Name x pos') X.env))) _ _ s
  refine wpAny_bind (wpAny_mono (wpAny_comprehension_free (use := some (assign (.Name x pos') X.env)) (Q := fun _ s' => SP X pins D .next s') rfl hs hcl0 S.kind S.names
    (thn (hit pins s σ H _ I h) fun xv s1 h1 => thn h1 fun itv s2 h2 => ?_)) (fun _ s' hq => wpAny_pure (wpAny_pure hq)) fun _ _ e => e)
  obtain ⟨it, fp, tn, J, H2, e, I2, T, st2, f2, q2⟩ := h2
  subst e
  refine comp_coreC (RR := fun acc C => compPost (model X.prog X.w) X.A X.xe (some (assign (.Name x pos') X.env)) (fun _ s' => SP X pins D .next s') acc C) hc S I2 T st2 f2 hcl hcl2 hg hi he q2 fun acc C cl' H' s' hC J' q' => ?_
  obtain ⟨m, hn, _⟩ := J'.loc
  have I3 := comp_leaveC I2 f2 J'
  show wpAny _ X.A (assign (.Name x pos') X.env (.ref acc)) _ _ _
  refine wpAny_assign_Name (store_ok2 I3 hN hi0 (.inl hx) (v := .ref acc) rfl (fun s4 I4 hsb => ?_) (.inr hx))
  obtain ⟨a, sb, ha⟩ := hsb
  have hCa : C ≠ a := by
    rcases ha with ha | ha
    · rw [ha]; exact Nat.ne_of_gt (Nat.lt_of_lt_of_le I2.lt hC)
    · obtain ⟨v, z⟩ := I2.cell x a ha
      exact Nat.ne_of_gt (Nat.lt_of_lt_of_le z.lt hC)
  refine ⟨m, hn.sameBut sb hCa, fun h' hs' => ⟨_, H', comp_gone I2 hC I4 J'.free hs', q'⟩⟩
end
end L2

namespace OL
open PySem L2
/-! ### draws of the fourth stage -/
def D31 (ds : List Int) : Prop := ∀ d ∈ ds, 0 ≤ d ∧ d < 2147483648
def spMix : Sp := fun vs H Q _ => ∃ (c k : Int), vs = [.int c, .int k] ∧ 0 ≤ k ∧ k ≤ 2000 ∧ ∀ y : Int, 0 ≤ y → y < 2147483648 → Q (.int y) H
def spDr (K : PySem.W.Frag) : Sp := fun vs H Q _ => ∃ (a : Addr) (ns : List Int) (tn mn : Int), vs = [.ref a, .int tn, .int mn] ∧ SqL K H a (ns.map V.int) ∧ ns.length ≤ 63 ∧ 0 ≤ tn ∧ tn ≤ 100 ∧ 0 ≤ mn ∧ mn ≤ 900 ∧ ∀ (r : Addr) (ds : List Int) (H' : Hp), Same H H' → H r = none → H' r = some (.lst (ds.map V.int)) → D31 ds → Q (.ref r) H'
def spPop : Sp := fun vs H Q _ => ∃ (l : Addr) (ds : List Int), vs = [.ref l] ∧ H l = some (.lst (ds.map V.int)) ∧ D31 ds ∧ ∀ (d : Int) (ds' : List Int) (H' : Hp), 0 ≤ d → d < 2147483648 → SameB l H H' → H' l = some (.lst (ds'.map V.int)) → D31 ds' → Q (.int d) H'
def spBk8 : Sp := fun vs H Q _ => ∃ (l : Addr) (ds : List Int) (most am : Int), vs = [.ref l, .int most, .int am] ∧ H l = some (.lst (ds.map V.int)) ∧ D31 ds ∧ 1 ≤ most ∧ most ≤ 12 ∧ 0 ≤ am ∧ am ≤ 200 ∧
  ∀ (b bl : Addr) (many : Int) (bs ds' : List Int) (H' : Hp), SameB l H H' → H b = none → H bl = none → H' b = some (.tup [.int many, .ref bl]) → H' bl = some (.lst (bs.map V.int)) → H' l = some (.lst (ds'.map V.int)) → D31 ds' → BookOk many bs most am → Q (.ref b) H'

/-! ### least ones -/
theorem has_self (x : Int) (h : 0 ≤ x) : hasF x x = true := (has_iff h h).mpr fun _ z => z
theorem hasLe {x y : Int} (hx : 0 ≤ x) (hy : 0 ≤ y) (h : hasF x y = true) : y ≤ x := by
  unfold hasF at h
  rw [beq_iff_eq, PyProof.Rows.bitAnd_pp hx hy] at h
  have : x.toNat &&& y.toNat ≤ x.toNat := Nat.and_le_left
  omega
theorem has_anti {x y : Int} (hx : 0 ≤ x) (hy : 0 ≤ y) (h : hasF x y = true) (h' : hasF y x = true) : x = y := Int.le_antisymm (hasLe hy hx h') (hasLe hx hy h)
structure LeastOf (ns T : List Int) : Prop where
  rise : T.Pairwise (· < ·)
  mem : ∀ x, x ∈ T ↔ x ∈ ns ∧ ∀ y ∈ ns, hasF x y = true → y = x
  len : T.length ≤ ns.length
  below : ∀ y ∈ ns, ∃ t ∈ T, hasF y t = true
def stepLe (T : List Int) (x : Int) : List Int := if (T.any fun t => hasF x t) = true then T else T ++ [x]
def leastF (ns : List Int) : List Int := ns.foldl stepLe []
/-! ### crossings -/
def crossB (ls : List Int) (x : Int) : Bool := ls.all fun o => decide (0 < Builtin.bitAnd x o)
theorem meet_pos {x y : Int} (hx : 0 ≤ x) (hy : 0 ≤ y) : 0 < Builtin.bitAnd x y ↔ ∃ i, Th x i ∧ Th y i := by
  constructor
  · intro h
    obtain ⟨i, hi⟩ := Nat.exists_testBit_of_ne_zero (x := (Builtin.bitAnd x y).toNat) (by omega)
    exact ⟨i, (th_and hx hy i).mp hi⟩
  · rintro ⟨i, h⟩
    have h := (th_and hx hy i).mpr h
    have h0 := and_nn hx hy
    have : Builtin.bitAnd x y ≠ 0 := fun e => by
      rw [e] at h
      unfold Th at h
      simp at h
    omega
def crossL (many : Int) (ls : List Int) : List Int := (rangeI (2 ^ many.toNat)).filter (crossB ls)
/-- the things outside -/
def outF (many x : Int) : Int := (((2 ^ many.toNat - 1) ^^^ (x.toNat % 2 ^ many.toNat) : Nat) : Int)
/-! ### promises -/
def spLeastA (K : PySem.W.Frag) : Sp := fun vs H Q _ => ∃ (l : Addr) (ns : List Int), vs = [.ref l] ∧ SqL K H l (ns.map V.int) ∧ ns.length ≤ 5000 ∧ ns.Pairwise (· ≤ ·) ∧ (∀ x ∈ ns, 0 ≤ x) ∧
  ∀ (r : Addr) (T : List Int) (H' : Hp), Same H H' → H r = none → H' r = some (.lst (T.map V.int)) → LeastOf ns T → Q (.ref r) H'
def spLeastL (K : PySem.W.Frag) : Sp := fun vs H Q _ => ∃ (l : Addr) (ns : List Int), vs = [.ref l] ∧ SqL K H l (ns.map V.int) ∧ ns.length ≤ 5000 ∧ (∀ x ∈ ns, 0 ≤ x) ∧
  ∀ (r : Addr) (T : List Int) (H' : Hp), Same H H' → H r = none → H' r = some (.lst (T.map V.int)) → LeastOf ns T → Q (.ref r) H'
def spCrossAll (K : PySem.W.Frag) : Sp := fun vs H Q _ => ∃ (l : Addr) (x : Int) (ls : List Int), vs = [.int x, .ref l] ∧ SqL K H l (ls.map V.int) ∧ ls.length ≤ 1000 ∧ ∀ H', Same H H' → Q (.bl (crossB ls x)) H'
def spCross (K : PySem.W.Frag) : Sp := fun vs H Q _ => ∃ (l : Addr) (many : Int) (ls : List Int), vs = [.int many, .ref l] ∧ 0 ≤ many ∧ many ≤ 12 ∧ SqL K H l (ls.map V.int) ∧ ls.length ≤ 1000 ∧
  ∀ (r : Addr) (T : List Int) (H' : Hp), Same H H' → H r = none → H' r = some (.lst (T.map V.int)) → LeastOf (crossL many ls) T → Q (.ref r) H'
end OL

/-! comprehensions by a list of what is walked, a choice and what comes of each -/
namespace OL
open PySem L2
def LookE (t : TE) (σ : St) (H : Hp) (v : V) : Prop := ∀ Q : VK, (∀ H', Same H H' → Q v H') → t σ H Q
theorem LookE.pure {t : TE} {σ : St} {H : Hp} {v : V} (h : ∀ Q : VK, Q v H → t σ H Q) : LookE t σ H v := fun Q q => h Q (q H (Same.refl H))
/-- what a turn must do -/
def CTurn (m : Nat) (js : List Nat) (g : TG) (c : TT) (te : TE) (σ : St) (v : V) (H2 : Hp) (b : Bool) (R : Hp → V → Prop) : Prop :=
  ∀ (PUT : V → Hp → Prop) (SKIP : Hp → Prop), (b = true → ∀ y H', Same H2 H' → R H' y → PUT y H') → (b = false → ∀ H', Same H2 H' → SKIP H') →
    g v (pick m js σ) H2 fun σ2 H3 => Wk (pick m js σ) σ2 ∧ c σ2 H3 fun k H4 => if k = true then te σ2 H4 fun y H5 => PUT y H5 else SKIP H4
section
variable {K : PySem.W.Frag} {m : Nat} {js : List Nat} {g : TG} {c : TT} {te : TE} {σ : St} {H1 : Hp} {Q : VK} {α : Type}
theorem paired_take {F : V → α → Prop} {xs : List V} {as : List α} (h : Paired F xs as) {i : Nat} {v : V} (hv : xs[i]? = some v) : ∃ x, as[i]? = some x ∧ F v x := by
  induction h generalizing i with
  | nil => simp at hv
  | cons z r ih =>
    cases i with
    | zero => simp at hv; subst hv; exact ⟨_, rfl, z⟩
    | succ i => simpa using ih (by simpa using hv)
theorem take_at {as : List α} {i : Nat} {x : α} (h : as[i]? = some x) : as.take (i + 1) = as.take i ++ [x] := by
  obtain ⟨hi, e⟩ := List.getElem?_eq_some_iff.mp h
  rw [← e]; exact List.take_succ_eq_append_getElem hi
theorem filt_len {p : α → Bool} {as : List α} {i : Nat} : ((as.take i).filter p).length ≤ as.length := Nat.le_trans (List.length_filter_le _ _) (by rw [List.length_take]; exact Nat.min_le_right _ _)
theorem filt_yes {p : α → Bool} {as : List α} {i : Nat} {x : α} (h : as[i]? = some x) (c : p x = true) : (as.take (i + 1)).filter p = (as.take i).filter p ++ [x] := by
  rw [take_at h, List.filter_append, List.filter_cons, if_pos c]; rfl
theorem filt_no {p : α → Bool} {as : List α} {i : Nat} {x : α} (h : as[i]? = some x) (c : p x = false) : (as.take (i + 1)).filter p = (as.take i).filter p := by
  rw [take_at h, List.filter_append, List.filter_cons, if_neg (by rw [c]; decide)]; simp
/-- over a list -/
theorem compA_list {a : Addr} {xs : List V} {as : List α} {Re : V → α → Prop} (hx : SqL K H1 a xs) (hp : Paired Re xs as) (p : α → Bool) (Rl : Hp → V → α → Prop) (hst : ∀ H H' y x, TSame H H' → Rl H y x → Rl H' y x) (hz : as.length ≤ 65000)
    (turn : ∀ x v H2, x ∈ as → Re v x → Same H1 H2 → CTurn m js g c te σ v H2 (p x) fun H' y => Rl H' y x)
    (hQ : ∀ acc ys H', H1 acc = none → Same H1 H' → H' acc = some (.lst ys) → Paired (Rl H') ys (as.filter p) → Q (.ref acc) H') : tCompR m js g c te (Itl K a) σ H1 Q := by
  intro acc hacc
  have hl := Paired.length hp
  refine ⟨CW xs.length acc (fun i ys H => Same H1 H ∧ Paired (Rl H) ys ((as.take i).filter p)), ⟨_, rfl, Nat.zero_le _, [], upd_same, same_new hacc _, .nil⟩, ?_⟩
  rintro i m' H ⟨rfl, hi, ys, h0, S, hR⟩
  have q := S.seq hx
  by_cases hlt : i < xs.length
  · refine .inr ⟨⟨xs, xs[i], q, by simp [hlt]⟩, fun v H' y => ?_⟩
    obtain ⟨e, y⟩ := y
    subst e
    obtain ⟨x, hxa, hre⟩ := paired_take hp (y xs q)
    have hyl := Paired.length hR
    have hfl : ((as.take i).filter p).length ≤ as.length := filt_len
    refine turn x v _ (List.mem_of_getElem? hxa) hre S _ _ (fun cc y' H5 s r => ?_) (fun cc H4 s => ?_)
    · refine ⟨ys, s acc _ h0, big5 (by omega), xs.length - (i + 1), by omega, rfl, hlt, ys ++ [y'], upd_same, fun b o z => ?_, ?_⟩
      · rw [upd_ne (ne_of_none z hacc)]; exact s b o (S b o z)
      · have ts : TSame H5 (upd H5 acc (.lst (ys ++ [y']))) := tsame_upd (s acc _ h0)
        rw [filt_yes hxa cc]
        exact Paired.snoc (Paired.imp' (fun _ _ z => hst _ _ _ _ ts (hst _ _ _ _ s.t z)) hR) (hst _ _ _ _ ts r)
    · refine ⟨xs.length - (i + 1), by omega, rfl, hlt, ys, s acc _ h0, S.trans s, ?_⟩
      rw [filt_no hxa cc]
      exact Paired.imp' (fun _ _ z => hst _ _ _ _ s.t z) hR
  · have e : i = xs.length := by omega
    subst e
    rw [hl, List.take_length] at hR
    exact .inl ⟨⟨xs, q, Nat.le_refl _⟩, hQ acc ys H hacc S h0 hR⟩
theorem paired_map {β : Type} {f : β → V} : ∀ {ys : List V} {as : List β}, Paired (fun y x => y = f x) ys as → ys = as.map f
  | _, _, .nil => rfl
  | _, _, .cons h r => by rw [h, paired_map r]; rfl
/-- rows in, values out -/
theorem compV_rows {a : Addr} {xs : List V} {rs : List (Int × Int)} (hx : SqL K H1 a xs) (hr : Rows H1 xs rs) (p : Int × Int → Bool) (f : Int × Int → V) (hz : rs.length ≤ 65000)
    (turn : ∀ r t H2, r ∈ rs → H2 t = some (.tup [.int r.1, .int r.2]) → Same H1 H2 → CTurn m js g c te σ (.ref t) H2 (p r) fun _ y => y = f r)
    (hQ : ∀ acc H', H1 acc = none → Same H1 H' → H' acc = some (.lst ((rs.filter p).map f)) → Q (.ref acc) H') : tCompR m js g c te (Itl K a) σ H1 Q :=
  compA_list hx hr p (fun _ y x => y = f x) (fun _ _ _ _ _ z => z) hz (fun x v H2 hm e S => by obtain ⟨t, rfl, ht⟩ := e; exact turn x t H2 hm (S _ _ ht) S) fun acc ys H' h0 S h1 hp => hQ acc H' h0 S (by rw [h1, paired_map hp])
end
/-- a turn with one plain name and a test that looks, giving the name's own int -/
theorem turn_pick {js : List Nat} {c : TT} {te : TE} {σ : St} {v y : V} {H2 : Hp} {b : Bool} {R : Hp → V → Prop} (hc : LookT c ((pick 1 js σ).set 0 (some v)) H2 b) (he : b = true → ∀ H3, Same H2 H3 → LookE te ((pick 1 js σ).set 0 (some v)) H3 y) (hR : b = true → ∀ H3, Same H2 H3 → R H3 y) : CTurn 1 js (gName 0) c te σ v H2 b R := by
  intro PUT SKIP h1 h2
  refine ⟨(Wk.refl _).set (by decide), hc _ fun H3 S3 => ?_⟩
  cases b with
  | true => exact iteT (he rfl H3 S3 _ fun H4 S4 => h1 rfl _ _ (S3.trans S4) (hR rfl _ (S3.trans S4)))
  | false => exact iteF (h2 rfl _ S3)
theorem look_yes {σ : St} {H : Hp} : LookT tYes σ H true := .pure fun Q h => h
theorem filter_true {α : Type} (l : List α) : l.filter (fun _ => true) = l := by simp
end OL

namespace OL
open PySem L2
/-! ### what can be shown by str -/
structure Sho (d : PyData) (n k : Nat) : Prop where
  show' : d.showable = true
  nodict : d.hasDict = false
  short : d.leavesShort 13 = true
  bulk : d.bulk ≤ n
  depth : d.depth ≤ k
  lay : d.canLay0 = true
structure ShoAll (ds : List PyData) (n k : Nat) : Prop where
  show' : PyData.showableAll ds = true
  nodict : PyData.hasDictAll ds = false
  short : PyData.leavesShortAll 13 ds = true
  bulk : PyData.bulkAll ds ≤ n
  depth : PyData.depthAll ds ≤ k
  lay : PyData.canLayAll0 ds = true
theorem Sho.int {i : Int} (h : i.natAbs < 10 ^ 12) : Sho (.int i) 0 0 := by
  refine ⟨?_, rfl, ?_, Nat.le_refl _, Nat.le_refl _, rfl⟩
  · show decide (i.natAbs.log2 < 1920) = true
    refine decide_eq_true ?_
    by_cases e : i.natAbs = 0
    · rw [e]; decide
    · rw [Nat.log2_lt e]
      exact Nat.lt_trans h (Nat.lt_of_lt_of_le (by decide : 10 ^ 12 < 2 ^ 40) (Nat.pow_le_pow_right (by decide) (by decide)))
  · show decide ((PyData.int i).shown.length ≤ 13) = true
    exact decide_eq_true (PyData.shown_int_le h)
theorem ShoAll.cons {d : PyData} {ds : List PyData} {n m k j : Nat} (h : Sho d n k) (t : ShoAll ds m j) : ShoAll (d :: ds) (n + 1 + m) (max k j) := by
  refine ⟨?_, ?_, ?_, ?_, ?_, ?_⟩
  · show (d.showable && PyData.showableAll ds) = true
    rw [h.show', t.show']; rfl
  · show (d.hasDict || PyData.hasDictAll ds) = false
    rw [h.nodict, t.nodict]; rfl
  · show (d.leavesShort 13 && PyData.leavesShortAll 13 ds) = true
    rw [h.short, t.short]; rfl
  · show d.bulk + 1 + PyData.bulkAll ds ≤ _
    have := h.bulk; have := t.bulk; omega
  · show max d.depth (PyData.depthAll ds) ≤ _
    have := h.depth; have := t.depth; omega
  · show (d.canLay0 && PyData.canLayAll0 ds) = true
    rw [h.lay, t.lay]; rfl
theorem Sho.list {ds : List PyData} {n k : Nat} (h : ShoAll ds n k) : Sho (.list ds) n (k + 1) := by
  refine ⟨h.show', h.nodict, h.short, h.bulk, ?_, h.lay⟩
  show PyData.depthAll ds + 1 ≤ _
  have := h.depth; omega
theorem Sho.mono {d : PyData} {n k n' k' : Nat} (h : Sho d n k) (h1 : n ≤ n') (h2 : k ≤ k') : Sho d n' k' := ⟨h.show', h.nodict, h.short, Nat.le_trans h.bulk h1, Nat.le_trans h.depth h2, h.lay⟩
theorem ShoAll.mono {d : List PyData} {n k n' k' : Nat} (h : ShoAll d n k) (h1 : n ≤ n') (h2 : k ≤ k') : ShoAll d n' k' := ⟨h.show', h.nodict, h.short, Nat.le_trans h.bulk h1, Nat.le_trans h.depth h2, h.lay⟩
/-- many alike -/
theorem ShoAll.map {α : Type} {f : α → PyData} {n k : Nat} : ∀ {as : List α}, (∀ x ∈ as, Sho (f x) n k) → ShoAll (as.map f) ((n + 1) * as.length) k
  | [], _ => ⟨rfl, rfl, rfl, Nat.zero_le _, Nat.zero_le _, rfl⟩
  | a :: as, h => by
    have h1 := ShoAll.cons (h a List.mem_cons_self) (ShoAll.map (as := as) fun x hx => h x (List.mem_cons_of_mem _ hx))
    refine h1.mono ?_ (by omega)
    rw [List.length_cons, Nat.mul_add]; omega
theorem Sho.ints {ns : List Int} (h : ∀ x ∈ ns, 0 ≤ x ∧ x < 1000000000000) : Sho (.list (ns.map PyData.int)) ns.length 1 := by
  refine (Sho.list (ShoAll.map (n := 0) (k := 0) fun x hx => Sho.int ?_)).mono (by omega) (Nat.le_refl _)
  have := h x hx
  have e : (10 : Nat) ^ 12 = 1000000000000 := by decide
  omega
theorem Sho.fits {d : PyData} {n k : Nat} (h : Sho d n k) (hn : n ≤ 1000000) : d.shown.length ≤ sizeLine := PyData.shown_fits_bulk (B := 13) (by decide) (by decide) h.short (Nat.le_trans h.bulk (Nat.le_trans hn (by decide)))
/-- str(x) != str(y), of the same data -/
theorem ne_str {d : PyData} {H : Hp} {Q : Bool → Hp → Prop} (q : Q false H) : rNe (.str d.shown) (.str d.shown) H fun x H' => ∃ k, x = .bl k ∧ Q k H' := by
  refine ⟨rfl, _, rfl, ?_⟩
  rw [show decide (V.str d.shown = V.str d.shown) = true from decide_eq_true rfl]; exact q
theorem ne_str' {z : Str} {H : Hp} {Q : Bool → Hp → Prop} (q : Q false H) : rNe (.str z) (.str z) H fun x H' => ∃ k, x = .bl k ∧ Q k H' := by
  refine ⟨rfl, _, rfl, ?_⟩
  rw [show decide (V.str z = V.str z) = true from decide_eq_true rfl]; exact q
/-- x != y, of the same data -/
theorem ne_data {K : PySem.W.Frag} {H : Hp} {x y : V} {d : PyData} {Q : Bool → Hp → Prop} (hx : DR K H x d) (hy : DR K H y d) (hs : PySem.SeqAt.shaped d = true) (he : PyData.eqv d d = true) (q : Q false H) : rEqD K true x y H fun v H' => ∃ k, v = .bl k ∧ Q k H' := by
  refine ⟨d, d, hx, hy, hs, hs, _, rfl, ?_⟩
  rw [he]; exact q
theorem eq_data {K : PySem.W.Frag} {H : Hp} {x y : V} {d : PyData} {Q : VK} (hx : DR K H x d) (hy : DR K H y d) (hs : PySem.SeqAt.shaped d = true) (he : PyData.eqv d d = true) (q : Q (.bl true) H) : rEqD K false x y H Q := by
  refine ⟨d, d, hx, hy, hs, hs, ?_⟩
  rw [he]; exact q
theorem nil_len : ([] : List V).length ≤ sizeLine := by show 0 ≤ sizeLine; decide
def rStrD (K : PySem.W.Frag) : List V → Hp → VK → Prop := fun xs H Q => ∃ p d, xs = [.ref p] ∧ DR K H (.ref p) d ∧ d.showable = true ∧ d.hasDict = false ∧ d.depth ≤ 60 ∧ d.shown.length ≤ sizeLine ∧ Q (.str d.shown) H
/-- a value that is had without a change -/
def IsE (t : TE) (σ : St) (H : Hp) (v : V) : Prop := ∀ Q : VK, Q v H → t σ H Q
theorem isE_var {i : Nat} {σ : St} {H : Hp} {v : V} (h : σ[i]? = some (some v)) : IsE (tVar i) σ H v := fun Q q => ⟨v, h, q⟩
theorem str_is {K : PySem.W.Frag} {ta : TE} {σ : St} {H : Hp} {p : Addr} {d : PyData} {n k : Nat} (ha : IsE ta σ H (.ref p)) (hd : DR K H (.ref p) d) (h : Sho d n k) (hn : n ≤ 1000000) (hk : k ≤ 60) : IsE (tCB (rStrD K) (tCons ta tNil)) σ H (.str d.shown) :=
  fun Q q => ha _ ⟨p, d, rfl, hd, h.show', h.nodict, Nat.le_trans h.depth hk, h.fits hn, q⟩
theorem look_ne_str {ta tb : TE} {σ : St} {H : Hp} {z : Str} (ha : IsE ta σ H (.str z)) (hb : IsE tb σ H (.str z)) : LookT (tTest (tOp rNe ta tb)) σ H false :=
  .pure fun Q h => ha _ (hb _ (ne_str' h))
end OL

namespace OL
open PySem L2
def keepsB (lot : Int) (r : Int × Int) : Bool := (Builtin.bitAnd r.2 lot == r.2) || !(Builtin.bitAnd r.1 lot == r.1)
def againL (many x y : Int) : List Int := ((List.range (2 ^ many.toNat)).filter fun (i : Nat) => !keepsB (i : Int) (x, y)).map fun (i : Nat) => (i : Int)
/-- what follows tells, its list new -/
def FlN (H0 H : Hp) (t : Addr) (rs : List (Int × Int)) (x y : Int) : Prop :=
  (hasF (comeF rs x) y = true ∧ ∃ s, H0 s = none ∧ H t = some (.tup [.str "by", .ref s]) ∧ H s = some (.lst ((needF rs y x (stepsF rs x)).map V.int))) ∨ (hasF (comeF rs x) y = false ∧ H t = some (.tup [.str "shut", .int (comeF rs x)]))
/-- its list is not at e -/
def FlE (e : Addr) (H : Hp) (t : Addr) (rs : List (Int × Int)) (x y : Int) : Prop :=
  (hasF (comeF rs x) y = true ∧ ∃ s, s ≠ e ∧ H t = some (.tup [.str "by", .ref s]) ∧ H s = some (.lst ((needF rs y x (stepsF rs x)).map V.int))) ∨ (hasF (comeF rs x) y = false ∧ H t = some (.tup [.str "shut", .int (comeF rs x)]))
def PairF (H : Hp) (e : Addr) (v : V) : Prop := ∃ (p t d : Addr) (rs : List (Int × Int)) (x y : Int), v = .ref p ∧ H p = some (.tup [.ref t, .ref d]) ∧ FlE e H t rs x y ∧ FlE e H d rs x y
def spFollowsN (K : PySem.W.Frag) : Sp := fun vs H Q _ => ∃ (a r : Addr) (rs : List (Int × Int)) (x y : Int), vs = [.ref a, .ref r] ∧ RL H a rs ∧ Rl K H r x y ∧ rs.length ≤ 100 ∧ NN rs ∧ 0 ≤ x ∧ 0 ≤ y ∧
  ∀ (t : Addr) (H' : Hp), Same H H' → FlN H H' t rs x y → Q (.ref t) H'
def spKeepsL (K : PySem.W.Frag) : Sp := fun vs H Q _ => ∃ (r : Addr) (x y lot : Int), vs = [.int lot, .ref r] ∧ Rl K H r x y ∧ Q (.bl (keepsB lot (x, y))) H
end OL

namespace L2
open PySem PySem.Spec PyProof.Rows
section
variable {X : Cx}
/-! ### any(xs), xs a list of truths; max of a list -/
def rAny (K : PySem.W.Frag) : List V → Hp → VK → Prop := fun xs H Q => ∃ (p : Addr) (bs : List Bool), xs = [.ref p] ∧ SqL K H p (bs.map V.bl) ∧ Q (.bl (bs.any id)) H
end
end L2

namespace L2
open PySem PySem.Spec PyProof.Rows
section
variable {K : PySem.W.Frag} {m : Nat} {js : List Nat} {g : TG} {c : TT} {te : TE} {σ : St} {H1 : Hp} {Q : VK}
end
end L2

namespace L2
open PySem PySem.Spec PyProof.Rows
/-! ### zip over two lists, its pairs taken apart by the target -/
def Itz (K : PySem.W.Frag) (a b : Addr) : It :=
  ⟨fun i H => ∃ xs ys x y, SqL K H a xs ∧ SqL K H b ys ∧ xs[i]? = some x ∧ ys[i]? = some y, fun i H x H' => ∃ p u v, x = .ref p ∧ H p = none ∧ H' = upd H p (.tup [u, v]) ∧ (∀ xs, SqL K H a xs → xs[i]? = some u) ∧ ∀ ys, SqL K H b ys → ys[i]? = some v, fun i H => ∃ xs ys, SqL K H a xs ∧ SqL K H b ys ∧ (xs.length ≤ i ∨ ys.length ≤ i)⟩
section
variable {X : Cx}
def iZip (K : PySem.W.Frag) (ta : TA) : TI := fun σ H R => ta σ H fun vs H1 => ∃ a b, vs = [.ref a, .ref b] ∧ (∃ xs, SqL K H1 a xs) ∧ (∃ ys, SqL K H1 b ys) ∧ R (Itz K a b) H1
end
end L2

namespace L2
open PySem PySem.Spec PyProof.Rows
section
variable {X : Cx}
end
end L2

/-! min(xs, default=e), e a whole number -/
namespace L2
open PySem PySem.Spec PyProof.Rows
section
variable {dv : Value} {prog : Program} {w : World} {A : Around} {R : Result → Shared → Prop} {it : Addr} {fp wr : List Addr} {n : Nat} {PP : Nat → Value → Prop} {St : Nat → Heap → Prop}
end
section
variable {X : Cx}
def valminD (ns : List Int) (d : Int) : V := if ns.length = 0 then .int d else .int (bstmin ns (ns.length - 1))
def tDxmin (K : PySem.W.Frag) (ta : TA) (td : TE) : TE := fun σ H Q => ta σ H fun vs H1 => td σ H1 fun y H2 => ∃ a ns d, vs = [.ref a] ∧ y = .int d ∧ SqL K H2 a (ns.map V.int) ∧ Q (valminD ns d) H2
end
end L2

namespace OL
open PySem L2
/-! ### greatest often lots -/
def lackF (many lot : Int) : List Int := ((List.range many.toNat).filter fun t => !hasF lot (1 * 2 ^ t)).map fun (t : Nat) => (t : Int)
theorem has_th {lot : Int} (h : 0 ≤ lot) (t : Nat) : hasF lot (1 * 2 ^ t) = true ↔ Th lot t := by
  have p0 : (0 : Int) ≤ 1 * 2 ^ t := by
    have : (0 : Int) < 2 ^ t := Int.pow_pos (by decide)
    omega
  rw [has_iff h p0]
  constructor
  · exact fun z => z t ((th_pow t t).mpr rfl)
  · intro z i hi
    rw [(th_pow t i).mp hi]; exact z
def leadB (many : Int) (rs : List (Int × Int)) (lot : Int) : Bool := (lackF many lot).any fun t => inR rs (wt lot t.toNat)
def greatR (many : Int) (bs : List Int) (least : Int) : List (Int × Int) := (oftenR bs least (2 ^ many.toNat)).filter fun r => !leadB many (oftenR bs least (2 ^ many.toNat)) r.1
/-! ### outside -/
def spLack : Sp := fun vs H Q _ => ∃ many lot : Int, vs = [.int many, .int lot] ∧ 0 ≤ many ∧ many ≤ 12 ∧ ∀ (r : Addr) (H' : Hp), Same H H' → H r = none → H' r = some (.lst ((lackF many lot).map V.int)) → Q (.ref r) H'
def spLead : Sp := fun vs H Q _ => ∃ (d : Addr) (many lot : Int) (rs : List (Int × Int)), vs = [.int many, .int lot, .ref d] ∧ 0 ≤ many ∧ many ≤ 12 ∧ H d = some (.dK (tabR rs)) ∧ ∀ H', Same H H' → Q (.bl (leadB many rs lot)) H'
def spGreatest (K : PySem.W.Frag) : Sp := fun vs H Q _ => ∃ (b : Addr) (many : Int) (bs : List Int) (least : Int), vs = [.ref b, .int least] ∧ Bk K H b many bs ∧ bs.length ≤ 500 ∧ 0 ≤ many ∧ many ≤ 12 ∧ (∀ x ∈ bs, InB many x) ∧
  ∀ (r : Addr) (xs : List V) (H' : Hp), Same H H' → H r = none → H' r = some (.lst xs) → Rows H' xs (greatR many bs least) → Q (.ref r) H'
def spOut : Sp := fun vs H Q _ => ∃ many lot : Int, vs = [.int many, .int lot] ∧ 0 ≤ many ∧ many ≤ 12 ∧ 0 ≤ lot ∧ ∀ H', Same H H' → Q (.int (outF many lot)) H'
end OL

namespace OL
open PySem L2
theorem bit_zero {x : Int} (h : 0 ≤ x) (t : Nat) : decide (V.int (Builtin.bitAnd (x / 2 ^ t) 1) = V.int 0) = !hasF x (1 * 2 ^ t) := by
  obtain ⟨n, rfl⟩ : ∃ n : Nat, x = (n : Int) := ⟨x.toNat, by omega⟩
  have hb := b12_iff n t
  unfold b12 at hb
  rw [Int.toNat_natCast] at hb
  have ht := has_th (lot := (n : Int)) h t
  unfold Th at ht
  rw [Int.toNat_natCast] at ht
  have e : Builtin.bitAnd ((n : Int) / 2 ^ t) 1 = 0 ∨ Builtin.bitAnd ((n : Int) / 2 ^ t) 1 = 1 := by
    have hq : (0 : Int) ≤ (n : Int) / 2 ^ t := Int.ediv_nonneg (Int.natCast_nonneg _) (Int.le_of_lt (Int.pow_pos (by decide)))
    rw [PyProof.Rows.bitAnd_pp hq (by decide)]
    have h1 : ((n : Int) / 2 ^ t).toNat &&& (1 : Int).toNat ≤ 1 := Nat.and_le_right
    omega
  rw [int_eq]
  cases c : hasF (n : Int) (1 * 2 ^ t) with
  | true =>
    have := hb.mpr (ht.mp c)
    rw [beq_iff_eq] at this
    rw [this]; rfl
  | false =>
    rcases e with e | e
    · rw [e]; rfl
    · have := ht.mpr (hb.mp (by rw [e]; rfl))
      rw [c] at this; cases this
end OL

namespace OL
open PySem L2
/-! ### the border and the greatest ones, led into one another -/
def smallL (many : Int) (bs : List Int) (least : Int) : List Int := (bordR bs least (2 ^ many.toNat)).map Prod.fst
def greatL (many : Int) (bs : List Int) (least : Int) : List Int := (greatR many bs least).map Prod.fst
section
variable {many : Int} {bs : List Int} {least : Int} (hb : ∀ x ∈ bs, InB many x)
include hb
omit hb in
omit hb in
def partB (many : Int) (gs ss : List Int) : Bool := (List.range (2 ^ many.toNat)).all fun (x : Nat) => !decide (V.bl (gs.any fun g => hasF g (x : Int)) = V.bl (ss.any fun t => hasF (x : Int) t))
end
def spPartAll (K : PySem.W.Frag) : Sp := fun vs H Q _ => ∃ (g s : Addr) (many : Int) (gs ss : List Int), vs = [.int many, .ref g, .ref s] ∧ 0 ≤ many ∧ many ≤ 12 ∧ SqL K H g (gs.map V.int) ∧ SqL K H s (ss.map V.int) ∧ ∀ H', Same H H' → Q (.bl (partB many gs ss)) H'
end OL

namespace OL
open PySem L2
/-! ### two books apart -/
def partsB (as bs : List Int) (lot : Int) : Bool := decide (0 < countF as lot) && decide (countF bs lot = 0)
def partL (many : Int) (as bs : List Int) : List Int := (rangeI (2 ^ many.toNat)).filter (partsB as bs)
def lessL (b : Int) (bs : List Int) : List Int := bs.map fun o => b - Builtin.bitAnd b o
/-- a list made basket by basket -/
def Made (many : Int) (bs : List Int) (M cs : List Int) : Prop := (∀ m ∈ M, ∃ b ∈ cs, ∃ T, LeastOf (crossL many (lessL b bs)) T ∧ m ∈ T) ∧ ∀ b ∈ cs, ∃ T, LeastOf (crossL many (lessL b bs)) T ∧ ∀ t ∈ T, t ∈ M
theorem look_andV {ta tb : TE} {σ : St} {H : Hp} {c d : Bool} (h1 : LookE ta σ H (.bl c)) (h2 : c = true → ∀ H1, Same H H1 → LookE tb σ H1 (.bl d)) : LookE (tAndV ta tb) σ H (.bl (c && d)) := fun Q h => by
  refine h1 _ fun H1 S1 => ⟨c, rfl, ?_⟩
  cases c with
  | true => exact iteT (h2 rfl H1 S1 _ fun H2 S2 => h H2 (S1.trans S2))
  | false => exact iteF (h H1 S1)
def spPartsP (K : PySem.W.Frag) : Sp := fun vs H Q _ => ∃ (a b : Addr) (many : Int) (as bs : List Int) (lot : Int), vs = [.ref a, .ref b, .int lot] ∧ Bk K H a many as ∧ Bk K H b many bs ∧ as.length ≤ 500 ∧ bs.length ≤ 500 ∧ 0 ≤ many ∧ many ≤ 12 ∧ ∀ H', Same H H' → Q (.bl (partsB as bs lot)) H'
def spLeastP (K : PySem.W.Frag) : Sp := fun vs H Q _ => ∃ (a b : Addr) (many : Int) (as bs : List Int), vs = [.ref a, .ref b] ∧ Bk K H a many as ∧ Bk K H b many bs ∧ as.length ≤ 500 ∧ bs.length ≤ 500 ∧ 0 ≤ many ∧ many ≤ 12 ∧
  ∀ (r : Addr) (xs : List V) (T : List Int) (H' : Hp), Same H H' → H r = none → H' r = some (.lst xs) → Rows H' xs (rowsC as T) → LeastOf (partL many as bs) T → Q (.ref r) H'
end OL

namespace OL
open PySem L2
theorem ne_rows_nil {K : PySem.W.Frag} {H : Hp} {a : Addr} {ys : List V} {rs : List (Int × Int)} {Q : VK} (ha : H a = some (.lst ys)) (hR : Rows H ys rs) (q : ∀ H', Same H H' → Q (.bl (!rs.isEmpty)) H') : ([] : List V).length ≤ sizeLine ∧ ∀ p, H p = none → rEqD K true (.ref a) (.ref p) (upd H p (.lst [])) Q := by
  refine ⟨nil_len, fun p hp => ⟨_, _, .lst (SqL.of (same_new hp _ _ _ ha)) (hR.same (same_new hp _).t).dr, .lst (SqL.of upd_same) .nil, shaped_rows rs, rfl, ?_⟩⟩
  have e : (!PyData.eqv (.list (rs.map dRow)) (.list [])) = !rs.isEmpty := by cases rs <;> rfl
  rw [show (if true = true then !PyData.eqv (.list (rs.map dRow)) (.list []) else PyData.eqv (.list (rs.map dRow)) (.list [])) = !rs.isEmpty from e]
  exact q _ (same_new hp _)
/-! ### from a part -/
def partS (bs ps : List Int) : List Int := ps.map fun p => bs.getD p.toNat 0
def missR (many : Int) (bs : List Int) (least : Int) (ps : List Int) (lower : Int) : List (Int × Int) := (rowsC bs (smallL many (partS bs ps) lower)).filter (ofP least)
def tellR (many : Int) (bs : List Int) (least : Int) (ps : List Int) (lower : Int) : List (Int × Int) := (rowsC bs ((oftenR (partS bs ps) lower (2 ^ many.toNat)).map Prod.fst)).filter (ofP least)
def fromW (rs : List (Int × Int)) : Str := if rs.isEmpty = true then "whole" else "missed"
def fromR (many : Int) (bs : List Int) (least : Int) (ps : List Int) (lower : Int) : List (Int × Int) := if (missR many bs least ps lower).isEmpty = true then tellR many bs least ps lower else missR many bs least ps lower
def fromD (many : Int) (bs : List Int) (least : Int) (ps : List Int) (lower : Int) : PyData := .tuple [.str (fromW (missR many bs least ps lower)), .list ((fromR many bs least ps lower).map dRow)]
def PlOk (bs ps : List Int) : Prop := ∀ p ∈ ps, 0 ≤ p ∧ p < bs.length
/-- the least ones of the rare lots -/
def rareL (many : Int) (bs : List Int) (least : Int) : List Int := (rangeI (2 ^ many.toNat)).filter fun x => !decide (least ≤ countF bs x)
def spPartOf (K : PySem.W.Frag) : Sp := fun vs H Q _ => ∃ (b p : Addr) (many : Int) (bs ps : List Int), vs = [.ref b, .ref p] ∧ Bk K H b many bs ∧ SqL K H p (ps.map V.int) ∧ ps.length ≤ 500 ∧ PlOk bs ps ∧
  ∀ (t l : Addr) (H' : Hp), Same H H' → H t = none → H l = none → H' t = some (.tup [.int many, .ref l]) → H' l = some (.lst ((partS bs ps).map V.int)) → Q (.ref t) H'
def spFrom (K : PySem.W.Frag) : Sp := fun vs H Q _ => ∃ (b p : Addr) (many : Int) (bs ps : List Int) (least lower : Int), vs = [.ref b, .int least, .ref p, .int lower] ∧ Bk K H b many bs ∧ SqL K H p (ps.map V.int) ∧ bs.length ≤ 500 ∧ ps.length ≤ 500 ∧ PlOk bs ps ∧ 0 ≤ many ∧ many ≤ 12 ∧ (∀ x ∈ bs, InB many x) ∧
  ∀ (t l : Addr) (xs : List V) (H' : Hp), Same H H' → H t = none → H l = none → H' t = some (.tup [.str (fromW (missR many bs least ps lower)), .ref l]) → H' l = some (.lst xs) → Rows H' xs (fromR many bs least ps lower) → Q (.ref t) H'
def spPlaces84 : Sp := fun vs H Q _ => ∃ (r : Addr) (ds : List Int) (many : Int), vs = [.ref r, .int many] ∧ H r = some (.lst (ds.map V.int)) ∧ D31 ds ∧ 0 ≤ many ∧ many ≤ 200 ∧
  ∀ (p : Addr) (ps ds' : List Int) (H' : Hp), SameB r H H' → H p = none → H' p = some (.lst (ps.map V.int)) → H' r = some (.lst (ds'.map V.int)) → D31 ds' → (ps.length : Int) ≤ many → (∀ x ∈ ps, 0 ≤ x ∧ x < many) → Q (.ref p) H'
end OL

namespace L2
open PySem PySem.Spec PyProof.Rows
/-- rows with any second value, as a table -/
def RowV (H : Hp) (x : V) (r : Int × V) : Prop := ∃ p, x = .ref p ∧ H p = some (.tup [.int r.1, r.2])
def tabV (rs : List (Int × V)) : List (Key × V) := rs.map fun r => (.inl r.1, r.2)
section
variable {X : Cx}
end
end L2
namespace OL
open PySem L2
section
variable {K : PySem.W.Frag} {m : Nat} {js : List Nat} {g : TG} {c : TT} {te : TE} {σ : St} {H1 : Hp} {Q : VK} {α : Type}
end
end OL

namespace L2
open PySem PySem.Spec PyProof.Rows
section
variable {X : Cx} (K : PySem.W.Frag) (hK : X.K = K)
variable {o e : Expr} {es : List Expr} {to : TE} {t : TA} {name : Str} {apos cpos : Pos} {T id : String} {r : V → List V → Hp → VK → Prop}
include hK
end
end L2

namespace L2
open PySem PySem.Spec PyProof.Rows
section
variable {X : Cx}
end
end L2

namespace L2
open PySem PySem.Spec PyProof.Rows
/-! for .. in d.keys() -/
section
variable {X : Cx}
end
/-! max(list of lists, key=len, default=[]): the first of the longest -/
section
variable {prog : Program} {w : World} {A : Around} {R : Result → Shared → Prop} {it : Addr} {fp wr : List Addr} {n : Nat} {PP : Nat → Value → Prop} {St : Nat → Heap → Prop} {h0 : Heap} {kf : Nat → Int} {d : Value}
end
section
variable {X : Cx}
def tMaxLenF (K : PySem.W.Frag) (ta : TA) : TE := fun σ H Q => ta σ H fun vs H1 => ∃ (a : Addr) (xs : List Addr) (ys : Nat → List V), vs = [.ref a] ∧ SqL K H1 a (xs.map V.ref) ∧ (∀ i x, xs[i]? = some x → SqL K H1 x (ys i)) ∧
  ∀ d, H1 d = none → (xs = [] → Q (.ref d) (upd H1 d (.lst []))) ∧ (∀ i x, xs[i]? = some x → (∀ j, j < xs.length → (ys j).length ≤ (ys i).length) → (∀ j, j < i → (ys j).length < (ys i).length) → Q (.ref x) (upd H1 d (.lst [])))
end
end L2

namespace L2
open PySem PySem.Spec PyProof.Rows
section
variable {X : Cx}
def tThaw (te : TE) : TE := fun σ H Q => ∃ d, Mut (H d) ∧ te σ H fun v H' => ∃ o u, H' d = some (.frz o u) ∧ Q v (upd H' d u)
end
end L2

namespace L2
open PySem PySem.Spec PyProof.Rows PySem.W
section
variable {prog : Program} {w : World} {K : Type} [DecidableEq K] {knd : KeyKind prog w K} {A : Around} {E : Value → Shared → Prop} {s : Shared}
/-- the iterator over pairs, wherever its first pair is -/
def ItSt (h : Heap) (it d : Addr) (i n ep : Nat) : Prop := (∃ ok ov, IsItemIter h it d i n ep ok ov) ∨ ∃ ok ov a f, KdxIt h it d i n ep ok ov a f
end
/-! ### [.. for x in d.items() ..], x a plain name -/
section
variable {X : Cx}
/-- d.update(e), two dicts of whole numbers with no key in both -/
def tDUpd (td te : TE) : TE := fun σ H Q => td σ H fun x H1 => ∃ a, x = .ref a ∧ (∃ kvs, H1 a = some (.dK kvs)) ∧ te σ H1 fun y H2 => ∃ (b : Addr) (rs ms : List (Int × Int)), y = .ref b ∧ a ≠ b ∧ H2 a = some (.dK (tabR rs)) ∧ H2 b = some (.dK (tabR ms)) ∧ ((rs ++ ms).map Prod.fst).Nodup ∧ (rs ++ ms).length ≤ 65000 ∧ Q .non (upd H2 a (.dK (tabR (rs ++ ms))))
end
end L2
namespace OL
open PySem L2
section
variable {m : Nat} {js : List Nat} {g : TG} {c : TT} {te : TE} {σ : St} {H1 : Hp} {Q : VK}
end
end OL

namespace L2
open PySem PySem.Spec PyProof.Rows
section
variable {X : Cx}
/-- xs.insert(i, y), i a place in xs or its end -/
def rInsert : V → List V → Hp → VK → Prop := fun x vs H Q => ∃ (l : Addr) (xs : List V) (i : Int) (y : V), x = .ref l ∧ vs = [.int i, y] ∧ H l = some (.lst xs) ∧ 0 ≤ i ∧ i ≤ xs.length ∧ xs.length ≤ 65000 ∧ Q .non (upd H l (.lst (xs.take i.toNat ++ y :: xs.drop i.toNat)))
theorem mt_insert : MtM X "list.insert" rInsert := by
  intro pins s σ H x vs v us Q I rx rv h
  obtain ⟨l, xs, i, y, rfl, rfl, hH, h0, h1, hz, q⟩ := h
  cases rx
  obtain ⟨u1, u2, rfl, ru1, ru2⟩ := Vals.two rv
  obtain ⟨t, rfl⟩ := ru1
  obtain ⟨z, its, n, r, hl, e⟩ := I.lstM hH
  have big : 65000 < sizeLine := by decide
  refine call_meets F.slot_list_insert ⟨_, e, rfl⟩ F.entry_list_insert (F.args_list_insert_3 _ _ _) (PySem.AutoSeq1.list_insert_list_int_val_1 l its.toArray n i t u2 (by rw [fitsIndex_both (by omega) (by omega)]; decide) (by rw [List.size_toArray]; omega)) ⟨e, ?_⟩
  have hk : i.toNat ≤ its.length := by omega
  refine ⟨.non, _, I.lset (its' := its.take i.toNat ++ u2 :: its.drop i.toNat) hH e ?_ ?_ ?_, rfl, q⟩
  · show (have k := if i < 0 then (i + (its.toArray.size : Int)).toNat else min i.toNat its.toArray.size; (its.toArray.extract 0 k).push u2 ++ its.toArray.extract k) = _
    rw [if_neg (by omega)]
    have hm : min i.toNat its.toArray.size = i.toNat := by rw [List.size_toArray]; omega
    dsimp only
    rw [hm]
    apply Array.toList_inj.mp
    simp [List.take_of_length_le]
  · exact (r.take i.toNat).append (.cons ru2 (r.drop i.toNat))
  · rw [List.length_append, List.length_cons, List.length_take, List.length_drop]; omega
/-- how many unlike numbers -/
def unlikeN (ns : List Int) : Nat := (firstMet (fun i => ns.getD i 0) ns.length).length
/-- len(set(xs)), xs a list of whole numbers -/
def tLenSet (K : PySem.W.Frag) (ta : TA) : TE := fun σ H Q => ta σ H fun vs H1 => ∃ (l : Addr) (ns : List Int), vs = [.ref l] ∧ SqL K H1 l (ns.map V.int) ∧ ns.length ≤ 4000 ∧ Q (.int (unlikeN ns : Nat)) H1
theorem pe_lenSet {a : Expr} {ta : TA} {p p2 pos pos2 : Pos} (hc : X.calm = true) (hl : Gl X "len") (hml : X.mg "len" = none) (hg : Gl X "set") (hm : X.mg "set" = none) (ha : PA X [a] ta) (hs : starEach [a] X.env = [(false, eval a X.env)] := by rfl)
    (hs2 : starEach [.Call (.Name "set" p2) [a] [] pos2] X.env = [(false, eval (.Call (.Name "set" p2) [a] [] pos2) X.env)] := by rfl) : PE X (.Call (.Name "len" p) [.Call (.Name "set" p2) [a] [] pos2] [] pos) (tLenSet X.K ta) := by
  intro pins s σ H Q I h
  refine wpAny_Call_Name_kw (ld_blt I hl hml PySem.boot_len ?_ (by decide) (by decide))
  refine Calls.callWith_builtin rfl (Calls.evalArgs_plain ?_)
  show wpAny _ _ (spliced (starEach [.Call (.Name "set" p2) [a] [] pos2] X.env)) _ _ s
  rw [hs2]
  refine Calls.spliced_cons ?_
  refine Call_ (ld_blt I hg hm boot_set (PyProof.Rows.callWith_type1 (thn (ha pos2 pins s σ H _ I h) fun us s1 ⟨vs, H1, I1, r1, q1⟩ => ?_) hs rfl))
  obtain ⟨l, ns, e, hq, hz, q⟩ := q1
  subst e
  obtain ⟨u, rfl, ru⟩ := r1.one
  cases ru
  obtain ⟨its, rv, pl, _⟩ := I1.list hq
  have hi := intsAre_of rv
  have hlen := rv.length
  rw [List.length_map] at hlen
  refine PySem.call_set_list (items := its.toArray) (ns := ns) (I1.ok.hd hc) pl.isList (by simpa using hi) (by unfold scanBound; rw [List.size_toArray]; omega) fun h' tk hS hk => Calls.spliced_nil ?_
  have hsz : its.toArray.size = ns.length := by rw [List.size_toArray]; omega
  rw [hsz] at hS
  have I2 : Inv X pins σ H1 { s1 with heap := h', toks := tk } := I1.kept fun b o e => hk b o (Heap.lt_size e) e
  obtain ⟨o, es, ep, st, ho, hex, hd, _, _, hb, hf, hn⟩ := hS
  have hsm : es.size < 4096 := hb
  refine PySem.call_len_set (s := { s1 with heap := h', toks := tk }) ho hex hd hf (by omega) ?_
  refine ⟨.int (es.size : Nat), H1, I2.kept (t' := _) fun b o e => e, ⟨_, rfl⟩, ?_⟩
  rw [hn]; exact q
end
end L2

namespace OL
open PySem L2
/-! ### k26: each list of rules has one for each lot of the few -/
section
variable {many : Int} {bs : List Int}
/-- a rule of the few, of the lot p -/
def FewAt (many : Int) (bs : List Int) (p : Int) : Prop := (p, closeF many bs p - p) ∈ fewU many bs (2 ^ many.toNat)
theorem few_down (many : Int) (bs : List Int) {n : Nat} : ∀ m, n ≤ m → ∀ r, r ∈ fewU many bs m → r.1 < (n : Int) → r ∈ fewU many bs n
  | 0, h, r, hr, _ => by cases hr
  | m + 1, h, r, hr, hlt => by
    by_cases e : n = m + 1
    · rw [e]; exact hr
    · by_cases w : wantB many bs (fewU many bs m) (m : Int) = true
      · rw [few_yes w] at hr
        rcases List.mem_append.mp hr with z | z
        · exact few_down many bs m (by omega) r z hlt
        · have : r = ((m : Int), closeF many bs (m : Int) - (m : Int)) := by simpa using z
          rw [this] at hlt
          have hlt : (m : Int) < n := hlt
          omega
      · rw [few_no w] at hr
        exact few_down many bs m (by omega) r hr hlt
theorem few_want (many : Int) (bs : List Int) : ∀ m r, r ∈ fewU many bs m → ∃ n : Nat, n < m ∧ r = ((n : Int), closeF many bs (n : Int) - (n : Int)) ∧ wantB many bs (fewU many bs n) (n : Int) = true
  | 0, r, hr => by cases hr
  | m + 1, r, hr => by
    by_cases w : wantB many bs (fewU many bs m) (m : Int) = true
    · rw [few_yes w] at hr
      rcases List.mem_append.mp hr with z | z
      · obtain ⟨n, h1, h2⟩ := few_want many bs m r z; exact ⟨n, by omega, h2⟩
      · exact ⟨m, by omega, by simpa using z, w⟩
    · rw [few_no w] at hr
      obtain ⟨n, h1, h2⟩ := few_want many bs m r hr; exact ⟨n, by omega, h2⟩
theorem few_rise (many : Int) (bs : List Int) : ∀ n, (fewU many bs n).Pairwise fun r s => r.1 < s.1
  | 0 => .nil
  | n + 1 => by
    by_cases w : wantB many bs (fewU many bs n) (n : Int) = true
    · rw [few_yes w]
      refine List.pairwise_append.mpr ⟨few_rise many bs n, List.pairwise_singleton _ _, fun r hr s hs => ?_⟩
      obtain ⟨j, hj, rfl⟩ := few_mem many bs n r hr
      rw [List.mem_singleton.mp hs]
      show (j : Int) < (n : Int)
      omega
    · rw [few_no w]; exact few_rise many bs n
theorem few_at {r : Int × Int} (h : r ∈ fewU many bs (2 ^ many.toNat)) : FewAt many bs r.1 ∧ r.2 = closeF many bs r.1 - r.1 := by
  obtain ⟨j, hj, rfl⟩ := few_mem many bs _ r h
  exact ⟨h, rfl⟩
variable (hb : ∀ x ∈ bs, InB many x)
include hb
theorem FewAt.inB {p : Int} (h : FewAt many bs p) : InB many p := (few_InB hb h).1
theorem FewAt.open {p : Int} (h : FewAt many bs p) : closeF many bs p ≠ p := by
  obtain ⟨n, _, e, w⟩ := few_want many bs _ _ h
  have e1 : p = (n : Int) := (Prod.mk.inj e).1
  unfold wantB at w
  rw [Bool.and_eq_true] at w
  rw [e1]
  simpa using w.1
/-- no other rule of the few leads on from p -/
theorem FewAt.keeps {p : Int} (h : FewAt many bs p) {s : Int × Int} (hs : s ∈ fewU many bs (2 ^ many.toNat)) (hne : s.1 ≠ p) : takeB p s = false := by
  obtain ⟨n, hn, e, w⟩ := few_want many bs _ _ h
  have e1 : p = (n : Int) := (Prod.mk.inj e).1
  have hp := h.inB hb
  have hsi := (few_InB hb hs).1
  by_cases c : s.1 < p
  · have hm := few_down many bs (n := n) _ (by omega) s hs (by omega)
    unfold wantB at w
    rw [Bool.and_eq_true, Option.isNone_iff_eq_none] at w
    have := w.2
    unfold ptF at this
    rw [List.findIdx?_eq_none_iff] at this
    rw [e1]; exact this s hm
  · cases e : takeB p s with
    | false => rfl
    | true =>
      unfold takeB at e
      rw [Bool.and_eq_true] at e
      have := hasLe hp.1 hsi.1 e.1
      omega
theorem has_then {p q : Int} (hp : InB many p) (hq : 0 ≤ q) (h1 : hasF q p = true) (h2 : hasF q (closeF many bs p - p) = true) : hasF q (closeF many bs p) = true := by
  have hc := close_in hb p
  have hd := diff_nn hc.1 hp.1 (close_has hb hp)
  refine (has_iff hq hc.1).mpr fun i hi => ?_
  by_cases z : Th p i
  · exact (has_iff hq hp.1).mp h1 i z
  · exact (has_iff hq hd).mp h2 i ((th_diff hc.1 hp.1 (close_has hb hp) i).mpr ⟨hi, z⟩)
theorem then_not {p : Int} (h : FewAt many bs p) : hasF p (closeF many bs p - p) = false := by
  have hp := h.inB hb
  cases e : hasF p (closeF many bs p - p) with
  | false => rfl
  | true =>
    have := has_then hb hp hp.1 (has_self p hp.1) e
    exact absurd (has_anti (close_in hb p).1 hp.1 (close_has hb hp) this) (h.open hb)
theorem few_apart {p q a : Int} (hp : FewAt many bs p) (hq : FewAt many bs q) (ha : InB many a) (h1 : hasF p a = true) (h2 : hasF q a = true) (e1 : closeF many bs a = closeF many bs p) (e2 : closeF many bs a = closeF many bs q) : p = q := by
  apply Classical.byContradiction
  intro hne
  have hpI := hp.inB hb
  have hqI := hq.inB hb
  have hxI := hpI.and hqI
  have tx := th_and hpI.1 hqI.1
  have key : ∀ {u v : Int}, FewAt many bs u → FewAt many bs v → u ≠ v → closeF many bs u = closeF many bs v → ¬ hasF v u = true := fun {u v} hu hv huv hc hvu => by
    have hs := hv.keeps hb hu huv
    unfold takeB at hs
    rw [hvu, Bool.true_and, Bool.not_eq_false'] at hs
    have := has_then hb (hu.inB hb) (hv.inB hb).1 hvu hs
    rw [hc] at this
    exact absurd (has_anti (close_in hb v).1 (hv.inB hb).1 (close_has hb (hv.inB hb)) this) (hv.open hb)
  have hc := e1.symm.trans e2
  have hend : ptF (fewU many bs (2 ^ many.toNat)) (Builtin.bitAnd p q) = none := by
    unfold ptF
    rw [List.findIdx?_eq_none_iff]
    intro s hs
    cases e : takeB (Builtin.bitAnd p q) s with
    | false => rfl
    | true =>
      unfold takeB at e
      rw [Bool.and_eq_true, Bool.not_eq_true'] at e
      obtain ⟨s1, s2⟩ := few_InB hb hs
      have hps : hasF p s.1 = true := (has_iff hpI.1 s1.1).mpr fun i hi => ((tx i).mp ((has_iff hxI.1 s1.1).mp e.1 i hi)).1
      have hqs : hasF q s.1 = true := (has_iff hqI.1 s1.1).mpr fun i hi => ((tx i).mp ((has_iff hxI.1 s1.1).mp e.1 i hi)).2
      obtain ⟨sa, sb⟩ := few_at hs
      have np : s.1 ≠ p := fun z => by rw [z] at hqs; exact key hp hq hne hc hqs
      have nq : s.1 ≠ q := fun z => by rw [z] at hps; exact key hq hp (Ne.symm hne) hc.symm hps
      have kp := hp.keeps hb hs np
      have kq := hq.keeps hb hs nq
      unfold takeB at kp kq
      rw [hps, Bool.true_and, Bool.not_eq_false'] at kp
      rw [hqs, Bool.true_and, Bool.not_eq_false'] at kq
      have : hasF (Builtin.bitAnd p q) s.2 = true := (has_iff hxI.1 s2.1).mpr fun i hi => (tx i).mpr ⟨(has_iff hpI.1 s2.1).mp kp i hi, (has_iff hqI.1 s2.1).mp kq i hi⟩
      rw [this] at e; cases e.2
  have hcl := few_end hb hxI hend
  have hax : ∀ i, Th a i → Th (Builtin.bitAnd p q) i := fun i hi => (tx i).mpr ⟨(has_iff hpI.1 ha.1).mp h1 i hi, (has_iff hqI.1 ha.1).mp h2 i hi⟩
  have m1 := close_mono hb ha hxI hax
  rw [hcl, e1] at m1
  refine hp.open hb (has_anti (close_in hb p).1 hpI.1 (close_has hb hpI) ?_)
  exact (has_iff hpI.1 (close_in hb p).1).mpr fun i hi => ((tx i).mp ((has_iff hxI.1 (close_in hb p).1).mp m1 i hi)).1
end
/-! ### which rule serves -/
def serveB (many : Int) (bs : List Int) (lot : Int) (r : Int × Int) : Bool := hasF lot r.1 && (!hasF lot r.2 && (closeF many bs r.1 == closeF many bs lot))
def servF (many : Int) (bs : List Int) (rs : List (Int × Int)) (lot : Int) : Option Nat := rs.findIdx? (serveB many bs lot)
def optV : Option Nat → V
  | none => .non
  | some n => .int (n : Int)
def optD : Option Nat → PyData
  | none => .none
  | some n => .int (n : Int)
def servedF (many : Int) (bs : List Int) (rs : List (Int × Int)) : List (Option Nat) := (fewU many bs (2 ^ many.toNat)).map fun f => servF many bs rs f.1
theorem serv_get {many : Int} {bs : List Int} {rs : List (Int × Int)} {lot : Int} {n : Nat} (h : servF many bs rs lot = some n) : ∃ hn : n < rs.length, serveB many bs lot rs[n] = true := by
  unfold servF at h
  obtain ⟨h1, h2, _⟩ := List.findIdx?_eq_some_iff_getElem.mp h
  exact ⟨h1, h2⟩
def RsIn (many : Int) (rs : List (Int × Int)) : Prop := ∀ r ∈ rs, InB many r.1 ∧ InB many r.2
section
variable {many : Int} {bs : List Int} (hb : ∀ x ∈ bs, InB many x)
include hb
theorem served_nodup {rs : List (Int × Int)} (hr : RsIn many rs) : (servedF many bs rs).Pairwise fun u v => ∀ n, u = some n → v ≠ some n := by
  unfold servedF
  rw [List.pairwise_map]
  refine List.Pairwise.imp_of_mem (fun {f g} hf hg hlt n e1 e2 => ?_) (few_rise many bs _)
  obtain ⟨hn, s1⟩ := serv_get e1
  obtain ⟨_, s2⟩ := serv_get e2
  unfold serveB at s1 s2
  rw [Bool.and_eq_true, Bool.and_eq_true, beq_iff_eq] at s1 s2
  have := few_apart hb (few_at hf).1 (few_at hg).1 (hr _ (List.getElem_mem hn)).1 s1.1 s2.1 s1.2.2 s2.2.2
  omega
/-- rules of which each lot of the few has one -/
def Serves (many : Int) (bs : List Int) (rs : List (Int × Int)) : Prop := ∀ f ∈ fewU many bs (2 ^ many.toNat), ∃ r ∈ rs, serveB many bs f.1 r = true
omit hb in
theorem served_some {rs : List (Int × Int)} (hs : Serves many bs rs) : ∃ ms : List Nat, servedF many bs rs = ms.map some ∧ ∀ m ∈ ms, m < rs.length := by
  unfold servedF
  unfold Serves at hs
  generalize fewU many bs (2 ^ many.toNat) = fs at hs
  induction fs with
  | nil => exact ⟨[], rfl, (fun m h => nomatch h)⟩
  | cons f fs ih =>
    obtain ⟨ms, e, hm⟩ := ih fun g hg => hs g (.tail _ hg)
    obtain ⟨r, hr, hsv⟩ := hs f (.head _)
    cases e2 : servF many bs rs f.1 with
    | none =>
      unfold servF at e2
      rw [List.findIdx?_eq_none_iff] at e2
      rw [e2 r hr] at hsv; cases hsv
    | some n =>
      obtain ⟨hn, _⟩ := serv_get e2
      refine ⟨n :: ms, by rw [List.map_cons, List.map_cons, e2, e], fun m h => ?_⟩
      rcases List.mem_cons.mp h with rfl | h
      · exact hn
      · exact hm m h
theorem served_ms {rs : List (Int × Int)} (hr : RsIn many rs) {ms : List Nat} (e : servedF many bs rs = ms.map some) : ms.Nodup := by
  have := served_nodup hb hr
  rw [e, List.pairwise_map] at this
  exact this.imp fun {a b} h z => h a rfl (by rw [z])
theorem served_len {rs : List (Int × Int)} (hr : RsIn many rs) (hs : Serves many bs rs) : (fewU many bs (2 ^ many.toNat)).length ≤ rs.length := by
  obtain ⟨ms, e, hm⟩ := served_some hs
  have nd := served_ms hb hr e
  have h1 : (fewU many bs (2 ^ many.toNat)).length = ms.length := by
    have := congrArg List.length e
    unfold servedF at this
    rwa [List.length_map, List.length_map] at this
  have h2 := nd.length_le_of_subset (l₂ := List.range rs.length) fun m h => List.mem_range.mpr (hm m h)
  rw [List.length_range] at h2
  omega
theorem serves_few : Serves many bs (fewU many bs (2 ^ many.toNat)) := fun f hf => by
  obtain ⟨h1, h2⟩ := few_at hf
  refine ⟨f, hf, ?_⟩
  unfold serveB
  rw [has_self _ (h1.inB hb).1, h2, then_not hb h1]
  simp
theorem serves_sub {rs : List (Int × Int)} (h : ∀ r ∈ fewU many bs (2 ^ many.toNat), r ∈ rs) : Serves many bs rs := fun f hf => by
  obtain ⟨r, h1, h2⟩ := serves_few hb f hf
  exact ⟨r, h r h1, h2⟩
theorem serves_single {rs : List (Int × Int)} (h : ∀ p i, InB many p → Th (closeF many bs p) i → ¬ Th p i → (p, 1 * 2 ^ i) ∈ rs) : Serves many bs rs := fun f hf => by
  obtain ⟨h1, h2⟩ := few_at hf
  have hp := h1.inB hb
  have : ∃ i, Th (closeF many bs f.1) i ∧ ¬ Th f.1 i := by
    apply Classical.byContradiction
    intro no
    refine h1.open hb (th_ext (close_in hb _).1 hp.1 fun i => ⟨fun z => Classical.byContradiction fun w => no ⟨i, z, w⟩, (has_iff (close_in hb _).1 hp.1).mp (close_has hb hp) i⟩)
  obtain ⟨i, z, w⟩ := this
  refine ⟨(f.1, 1 * 2 ^ i), h f.1 i hp z w, ?_⟩
  unfold serveB
  have hn : hasF f.1 (1 * 2 ^ i) = false := Bool.eq_false_iff.mpr fun y => w ((has_pow hp.1 i).mp y)
  rw [has_self _ hp.1, hn]
  simp
/-- without one of the few its lot has none -/
theorem served_without {j : Nat} (hj : j < (fewU many bs (2 ^ many.toNat)).length) : (servedF many bs ((fewU many bs (2 ^ many.toNat)).eraseIdx j))[j]? = some none := by
  have nd : (fewU many bs (2 ^ many.toNat)).Nodup := (few_rise many bs _).imp fun {a b} h e => by rw [e] at h; omega
  unfold servedF
  rw [List.getElem?_map, List.getElem?_eq_getElem hj]
  show some (servF _ _ _ _) = _
  congr 1
  unfold servF
  rw [List.findIdx?_eq_none_iff]
  intro s hs
  have hsm := List.mem_of_mem_eraseIdx hs
  have hne : s.1 ≠ ((fewU many bs (2 ^ many.toNat))[j]).1 := fun e => by
    have e2 : s = (fewU many bs (2 ^ many.toNat))[j] := by
      have h1 := (few_at hsm).2
      have h2 := (few_at (List.getElem_mem hj)).2
      exact Prod.ext e (by rw [h1, h2, e])
    rw [e2] at hs
    obtain ⟨i, hi, hij, e3⟩ := List.mem_eraseIdx_iff_getElem.mp hs
    exact hij ((List.getElem?_inj hi nd).mp (by rw [List.getElem?_eq_getElem hi, List.getElem?_eq_getElem hj, e3]))
  have := (few_at (List.getElem_mem hj)).1.keeps hb hsm hne
  unfold takeB at this
  unfold serveB
  cases c : hasF ((fewU many bs (2 ^ many.toNat))[j]).1 s.1 with
  | false => rfl
  | true =>
    rw [c, Bool.true_and] at this
    rw [Bool.true_and, this]; rfl
end
theorem small_down {L : Int} (h0 : 0 ≤ L) (h1 : L < 2 ^ 60) : Builtin.Range.small (L - 1) (-1) (-1) = true ∧ Builtin.Range.rangeSize (L - 1) (-1) (-1) = L := by
  have e : Builtin.Range.rangeSize (L - 1) (-1) (-1) = L := by
    unfold Builtin.Range.rangeSize
    rw [if_neg (by decide)]
    split
    · rw [show -(-1 : Int) = 1 from rfl, Int.ediv_one]; omega
    · omega
  refine ⟨?_, e⟩
  unfold Builtin.Range.small
  rw [e]
  simp only [Builtin.Range.rangeFitsLong, Bool.and_eq_true, Bool.or_eq_true, decide_eq_true_eq, beq_iff_eq, show ¬ ((-1 : Int) > 0) by decide, if_false]
  omega
/-- the first place from j on -/
def fromP (p : Int × Int → Bool) (rs : List (Int × Int)) (j : Nat) : Option Nat := ((rs.drop j).findIdx? p).map (· + j)
theorem fromP_end (p : Int × Int → Bool) (rs : List (Int × Int)) : fromP p rs rs.length = none := by
  unfold fromP
  rw [List.drop_length]; rfl
theorem fromP_zero (p : Int × Int → Bool) (rs : List (Int × Int)) : fromP p rs 0 = rs.findIdx? p := by
  unfold fromP
  rw [List.drop_zero]
  cases rs.findIdx? p <;> rfl
theorem fromP_step (p : Int × Int → Bool) {rs : List (Int × Int)} {j : Nat} (hj : j < rs.length) : fromP p rs j = if p rs[j] = true then some j else fromP p rs (j + 1) := by
  unfold fromP
  rw [List.drop_eq_getElem_cons hj, List.findIdx?_cons]
  cases p rs[j] with
  | true => simp
  | false =>
    simp only [Bool.false_eq_true, if_false, Option.map_map]
    congr 1
    funext n
    show n + 1 + j = n + (j + 1)
    omega
def spServes (K : PySem.W.Frag) : Sp := fun vs H Q _ => ∃ (b r : Addr) (many : Int) (bs : List Int) (lot x y : Int), vs = [.ref b, .int lot, .ref r] ∧ Bk K H b many bs ∧ bs.length ≤ 500 ∧ 0 ≤ many ∧ many ≤ 12 ∧ Rl K H r x y ∧ ∀ H', Same H H' → Q (.bl (serveB many bs lot (x, y))) H'
def spServing (K : PySem.W.Frag) : Sp := fun vs H Q _ => ∃ (b a : Addr) (many : Int) (bs : List Int) (lot : Int) (rs : List (Int × Int)), vs = [.ref b, .int lot, .ref a] ∧ Bk K H b many bs ∧ bs.length ≤ 500 ∧ 0 ≤ many ∧ many ≤ 12 ∧ RL H a rs ∧ ∀ H', Same H H' → Q (optV (servF many bs rs lot)) H'
def spServed (K : PySem.W.Frag) : Sp := fun vs H Q _ => ∃ (b a : Addr) (many : Int) (bs : List Int) (rs : List (Int × Int)), vs = [.ref b, .ref a] ∧ Bk K H b many bs ∧ bs.length ≤ 500 ∧ 0 ≤ many ∧ many ≤ 12 ∧ (∀ x ∈ bs, InB many x) ∧ RL H a rs ∧ ∀ (r : Addr) (H' : Hp), Same H H' → H r = none → H' r = some (.lst ((servedF many bs rs).map optV)) → Q (.ref r) H'
def spDue26 (K : PySem.W.Frag) : Sp := fun vs H Q _ => ∃ (b a l : Addr) (many : Int) (bs ls : List Int) (rs : List (Int × Int)), vs = [.ref b, .ref a, .ref l] ∧ Bk K H b many bs ∧ bs.length ≤ 500 ∧ 0 ≤ many ∧ many ≤ 12 ∧ RL H a rs ∧ rs.length ≤ 1000 ∧ RsIn many rs ∧ SqL K H l (ls.map V.int) ∧ ls.length ≤ 1000 ∧ (∀ x ∈ ls, InB many x) ∧ ∀ (r : Addr) (H' : Hp), Same H H' → H r = none → H' r = some (.lst ((ls.map fun x => servF many bs rs x).map optV)) → Q (.ref r) H'
def spDrawn26 (K : PySem.W.Frag) : Sp := fun vs H Q _ => ∃ (b : Addr) (many : Int) (bs : List Int) (c : Int), vs = [.ref b, .int c] ∧ Bk K H b many bs ∧ 0 ≤ many ∧ many ≤ 12 ∧ ∀ (r : Addr) (rs : List (Int × Int)) (H' : Hp), Same H H' → H r = none → RL H' r rs → rs.length ≤ 100 → RsIn many rs → Q (.ref r) H'
def spSingle26 (K : PySem.W.Frag) : Sp := fun vs H Q _ => ∃ (b : Addr) (many : Int) (bs : List Int), vs = [.ref b] ∧ Bk K H b many bs ∧ bs.length ≤ 500 ∧ 0 ≤ many ∧ many ≤ 5 ∧ (∀ x ∈ bs, InB many x) ∧ ∀ (r : Addr) (rs : List (Int × Int)) (H' : Hp), Same H H' → H r = none → RL H' r rs → rs.length ≤ 200 → RsIn many rs → Serves many bs rs → Q (.ref r) H'
def spMore26 (K : PySem.W.Frag) : Sp := fun vs H Q _ => ∃ (b a : Addr) (many : Int) (bs : List Int) (rs : List (Int × Int)) (c : Int), vs = [.ref b, .ref a, .int c] ∧ Bk K H b many bs ∧ bs.length ≤ 500 ∧ 0 ≤ many ∧ many ≤ 12 ∧ (∀ x ∈ bs, InB many x) ∧ RL H a rs ∧ rs.length ≤ 100 ∧ RsIn many rs ∧ ∀ (r : Addr) (rs' : List (Int × Int)) (H' : Hp), Same H H' → H r = none → RL H' r rs' → rs'.length ≤ 105 → RsIn many rs' → (∀ x ∈ rs, x ∈ rs') → Q (.ref r) H'
theorem opt_drs {K : PySem.W.Frag} {H : Hp} : ∀ os : List (Option Nat), DRs K H (os.map optV) (os.map optD)
  | [] => .nil
  | none :: r => .cons .non (opt_drs r)
  | some n :: r => .cons (.int _) (opt_drs r)
theorem opt_lay : ∀ os : List (Option Nat), PyData.canLayAll0 (os.map optD) = true
  | [] => rfl
  | none :: r => by
    show (true && PyData.canLayAll0 (r.map optD)) = true
    rw [opt_lay r]; rfl
  | some n :: r => by
    show (true && PyData.canLayAll0 (r.map optD)) = true
    rw [opt_lay r]; rfl
theorem opt_depth : ∀ os : List (Option Nat), PyData.depthAll (os.map optD) = 0
  | [] => rfl
  | none :: r => by
    show max 0 (PyData.depthAll (r.map optD)) = 0
    rw [opt_depth r]; rfl
  | some n :: r => by
    show max 0 (PyData.depthAll (r.map optD)) = 0
    rw [opt_depth r]; rfl
theorem opt_shaped (os : List (Option Nat)) : PySem.SeqAt.shaped (.list (os.map optD)) = true := by
  unfold PySem.SeqAt.shaped
  rw [show PyData.canLay0 (.list (os.map optD)) = true from opt_lay os]
  rw [show PyData.depth (.list (os.map optD)) = 0 + 1 from by rw [← opt_depth os]; rfl]
  rfl
theorem opt_eqv (os : List (Option Nat)) : PyData.eqv (.list (os.map optD)) (.list (os.map optD)) = true := PySem.SeqAt.eqv_refl _ (opt_lay os)
theorem opt_dr {K : PySem.W.Frag} {H : Hp} {a : Addr} {os : List (Option Nat)} (h : H a = some (.lst (os.map optV))) : DR K H (.ref a) (.list (os.map optD)) := .lst (SqL.of h) (opt_drs os)
theorem opt_some (ms : List Nat) : (ms.map some).map optV = (ms.map fun (n : Nat) => (n : Int)).map V.int := by rw [List.map_map, List.map_map]; rfl
theorem none_in (ns : List Int) : inV .non (ns.map V.int) = false := by
  induction ns with
  | nil => rfl
  | cons n ns ih => show (eqV (.int n) .non || inV .non (ns.map V.int)) = false; rw [ih]; rfl
theorem unlike_nodup {ns : List Int} (h : ns.Nodup) : unlikeN ns = ns.length := by
  have go : ∀ k, k ≤ ns.length → PyProof.Rows.firstMet (fun i => ns.getD i 0) k = ns.take k := by
    intro k
    induction k with
    | zero => intro _; rfl
    | succ k ih =>
      intro hk
      rw [PyProof.Rows.firstMet_succ, ih (by omega), take_get (show k < ns.length by omega)]
      have hno : ((ns.take k).any fun x => x == ns.getD k 0) = false := by
        rw [List.any_eq_false]
        intro x hx e
        obtain ⟨j, hj, rfl⟩ := List.getElem_of_mem hx
        rw [List.length_take] at hj
        rw [List.getElem_take, beq_iff_eq, List.getD_eq_getElem?_getD, List.getElem?_eq_getElem (show k < ns.length by omega)] at e
        have e : ns[j] = ns[k] := e
        have : j = k := (List.getElem?_inj (j := k) (show j < ns.length by omega) h).mp (by rw [List.getElem?_eq_getElem (show j < ns.length by omega), List.getElem?_eq_getElem (show k < ns.length by omega), e])
        omega
      unfold PyProof.Rows.step_dedup
      rw [if_neg (by rw [hno]; decide)]
  unfold unlikeN
  rw [go _ (Nat.le_refl _), List.take_length]
theorem cut_upto' (xs : List V) (k : Nat) : cutV xs none (some (k : Int)) = xs.take k := by
  unfold cutV
  rw [HT.sIx_nat]
  show (xs.drop 0).take (_ - 0) = _
  rw [List.drop_zero, Nat.sub_zero]
  by_cases h : k ≤ xs.length
  · rw [Nat.min_eq_left h]
  · rw [Nat.min_eq_right (by omega), List.take_length, List.take_of_length_le (by omega)]
theorem cut_from' (xs : List V) (k : Nat) : cutV xs (some (k : Int)) none = xs.drop k := by
  unfold cutV
  rw [HT.sIx_nat]
  show (xs.drop (min k xs.length)).take (xs.length - min k xs.length) = _
  by_cases h : k ≤ xs.length
  · rw [Nat.min_eq_left h, List.take_of_length_le (by rw [List.length_drop]; exact Nat.le_refl _)]
  · rw [Nat.min_eq_right (by omega), List.drop_length, List.drop_eq_nil_of_le (by omega)]; simp
theorem rows_take {H : Hp} : ∀ {xs : List V} {rs : List (Int × Int)} (k : Nat), Rows H xs rs → Rows H (xs.take k) (rs.take k)
  | _, _, 0, _ => .nil
  | _, _, k + 1, .nil => .nil
  | _, _, k + 1, .cons a t => .cons a (rows_take k t)
theorem rows_drop {H : Hp} : ∀ {xs : List V} {rs : List (Int × Int)} (k : Nat), Rows H xs rs → Rows H (xs.drop k) (rs.drop k)
  | _, _, 0, h => h
  | _, _, k + 1, .nil => .nil
  | _, _, k + 1, .cons a t => rows_drop k t
theorem rows_rev {H : Hp} {xs : List V} {rs : List (Int × Int)} (h : Rows H xs rs) : Rows H xs.reverse rs.reverse := by
  induction h with
  | nil => exact .nil
  | cons a t ih => rw [List.reverse_cons, List.reverse_cons]; exact Rows.snoc ih a
theorem due_served (many : Int) (bs : List Int) (rs : List (Int × Int)) : ((fewU many bs (2 ^ many.toNat)).map Prod.fst).map (fun x => servF many bs rs x) = servedF many bs rs := by
  unfold servedF
  rw [List.map_map]; rfl
/-- from the others nothing leads on from its lot -/
theorem few_shut {many : Int} {bs : List Int} (hb : ∀ x ∈ bs, InB many x) {j : Nat} (hj : j < (fewU many bs (2 ^ many.toNat)).length) : comeF ((fewU many bs (2 ^ many.toNat)).eraseIdx j) ((fewU many bs (2 ^ many.toNat))[j]).1 = ((fewU many bs (2 ^ many.toNat))[j]).1 ∧ hasF ((fewU many bs (2 ^ many.toNat))[j]).1 ((fewU many bs (2 ^ many.toNat))[j]).2 = false := by
  have hat := few_at (List.getElem_mem hj)
  have nd : (fewU many bs (2 ^ many.toNat)).Nodup := (few_rise many bs _).imp fun {a b} h e => by rw [e] at h; omega
  refine ⟨?_, by rw [hat.2]; exact then_not hb hat.1⟩
  have hp : ptF ((fewU many bs (2 ^ many.toNat)).eraseIdx j) ((fewU many bs (2 ^ many.toNat))[j]).1 = none := by
    unfold ptF
    rw [List.findIdx?_eq_none_iff]
    intro s hs
    have hsm := List.mem_of_mem_eraseIdx hs
    refine hat.1.keeps hb hsm fun e => ?_
    have e2 : s = (fewU many bs (2 ^ many.toNat))[j] := by
      have h1 := (few_at hsm).2
      exact Prod.ext e (by rw [h1, hat.2, e])
    rw [e2] at hs
    obtain ⟨i, hi, hij, e3⟩ := List.mem_eraseIdx_iff_getElem.mp hs
    exact hij ((List.getElem?_inj hi nd).mp (by rw [List.getElem?_eq_getElem hi, List.getElem?_eq_getElem hj, e3]))
  unfold comeF
  rw [bF_none hp]
def PairO (H : Hp) (e : Addr) (x : V) : Prop := ∃ (p t d : Addr) (os : List (Option Nat)), x = .ref p ∧ t ≠ e ∧ d ≠ e ∧ H p = some (.tup [.ref t, .ref d]) ∧ H t = some (.lst (os.map optV)) ∧ H d = some (.lst (os.map optV))
theorem PairO.b {H H' : Hp} {e : Addr} {x : V} (h : PairO H e x) (SB : SameB e H H') (T : TSame H H') : PairO H' e x := by
  obtain ⟨p, t, d, os, h1, h2, h3, h4, h5, h6⟩ := h
  exact ⟨p, t, d, os, h1, h2, h3, T _ _ h4, SB _ _ h2 h5, SB _ _ h3 h6⟩
theorem nodup_cast {ms : List Nat} (h : ms.Nodup) : (ms.map fun (n : Nat) => (n : Int)).Nodup := by
  unfold List.Nodup at h ⊢
  rw [List.pairwise_map]
  exact h.imp fun {a b} hab e => hab (by omega)
end OL

namespace L2
open PySem PySem.Spec PyProof.Rows
/-! ### rows of tuples of whole numbers -/
def RowT (H : Hp) (x : V) (r : List Int) : Prop := ∃ p, x = .ref p ∧ H p = some (.tup (r.map V.int))
abbrev RowsT (H : Hp) (xs : List V) (rs : List (List Int)) : Prop := Paired (RowT H) xs rs
def dRowT (r : List Int) : PyData := .tuple (r.map PyData.int)
end L2
namespace OL
open PySem L2
def aheadF (n : Nat) : Nat := n - 2 ^ n.log2
def goneRow (bs : List Int) (n : Nat) : List Int := [(n : Int), ((aheadF n : Nat) : Int), colF bs ((aheadF n : Nat) : Int) - colF bs (n : Int)]
def goneR (bs : List Int) (least : Int) (n : Nat) : List (List Int) := (((List.range n).filter (ofB bs least)).filter fun i => decide (i ≠ 0)).map (goneRow bs)
section
variable {many : Int} {bs : List Int} (hb : ∀ x ∈ bs, InB many x)
include hb
end
def bitB (lot : Int) (t : Int) : Bool := Builtin.bitAnd (lot / 2 ^ t.toNat) 1 == 1
def spWithout : Sp := fun vs H Q _ => ∃ x y : Int, vs = [.int x, .int y] ∧ 0 ≤ x ∧ 0 ≤ y ∧ Q (.int (x - Builtin.bitAnd x y)) H
def spGreat : Sp := fun vs H Q _ => ∃ n : Nat, vs = [.int (n : Int)] ∧ 0 < n ∧ n < 4096 ∧ Q (.int ((aheadF n : Nat) : Int)) H
def spGoneRow : Sp := fun vs H Q _ => ∃ (d : Addr) (many : Int) (bs : List Int) (least : Int) (n N : Nat), vs = [.ref d, .int (n : Int)] ∧ Rd H d (.dK (oftenKV bs least N)) ∧ (∀ x ∈ bs, InB many x) ∧ 0 < n ∧ n < 4096 ∧ n ∈ (List.range N).filter (ofB bs least) ∧ ∀ (p : Addr) (H' : Hp), Same H H' → H p = none → H' p = some (.tup ((goneRow bs n).map V.int)) → Q (.ref p) H'
def spGone (K : PySem.W.Frag) : Sp := fun vs H Q _ => ∃ (b : Addr) (many : Int) (bs : List Int) (least : Int), vs = [.ref b, .int least] ∧ Bk K H b many bs ∧ bs.length ≤ 500 ∧ 0 ≤ many ∧ many ≤ 10 ∧ (∀ x ∈ bs, InB many x) ∧ ∀ (r : Addr) (xs : List V) (H' : Hp), Same H H' → H r = none → H' r = some (.lst xs) → RowsT H' xs (goneR bs least (2 ^ many.toNat)) → Q (.ref r) H'
def spThingsL : Sp := fun vs H Q _ => ∃ n : Nat, vs = [.int (n : Int)] ∧ 0 < n ∧ n < 4096 ∧ ∀ (r : Addr) (ys : List V) (H' : Hp), Same H H' → H r = none → H' r = some (.lst (ys ++ [.int ((n.log2 : Nat) : Int)])) → Q (.ref r) H'
end OL

namespace OL
open PySem L2
/-! ### papers of marks -/
def MRow (H : Hp) (x : V) (m : Int × List Int) : Prop := ∃ p l, x = .ref p ∧ H p = some (.tup [.int m.1, .ref l]) ∧ H l = some (.lst (m.2.map V.int))
def MRows (H : Hp) : List V → List (Int × List Int) → Prop := Paired (MRow H)
/-- marks rows whose lists are newer than a heap -/
def MRowN (H0 H : Hp) (x : V) (m : Int × List Int) : Prop := ∃ p l, x = .ref p ∧ H0 l = none ∧ H p = some (.tup [.int m.1, .ref l]) ∧ H l = some (.lst (m.2.map V.int))
def MRowsN (H0 H : Hp) : List V → List (Int × List Int) → Prop := Paired (MRowN H0 H)
/-- rows of which the first is known -/
def FRow (H : Hp) (x : V) (k : Int) : Prop := ∃ p ys, x = .ref p ∧ H p = some (.tup (.int k :: ys))
def riseFrom (top : Int) : Int → List Int → Bool
  | last, [] => decide (last ≤ top)
  | last, k :: ks => if k ≤ last then false else riseFrom top k ks
def riseB (many : Int) (ks : List Int) : Bool := riseFrom (topF many) (-1) ks
def lackM (lot b : Int) : List Int := thingsF (lot - Builtin.bitAnd lot b)
def markB (b lot mk : Int) : Bool := if mk = -1 then hasF b lot else (lackM lot b).any fun t => t == mk
def marksFrom (lot : Int) : List Int → List Int → Bool
  | b :: bs, m :: ms => markB b lot m && marksFrom lot bs ms
  | _, _ => true
def marksB (bs : List Int) (lot : Int) (ms : List Int) : Bool := decide (ms.length = bs.length) && marksFrom lot bs ms
def cntM (ms : List Int) : Int := ((ms.countP fun y => y == -1 : Nat) : Int)
def leadsB (many : Int) (lots rares : List Int) : Bool := (lots.any (fun x => x == 0) || rares.any fun x => x == 0) && lots.all fun l => (lackF many l).all fun t => lots.any (fun x => x == wt l t.toNat) || rares.any fun r => hasF (wt l t.toNat) r
def wholeB (many : Int) (bs : List Int) (least : Int) (P R : List (Int × List Int)) : Bool :=
  riseB many (P.map Prod.fst) && riseB many (R.map Prod.fst) && (P.all fun m => marksB bs m.1 m.2 && !decide (cntM m.2 < least)) && (R.all fun m => marksB bs m.1 m.2 && !decide (least ≤ cntM m.2)) && leadsB many (P.map Prod.fst) (R.map Prod.fst)
def spRise : Sp := fun vs H Q _ => ∃ (p : Addr) (many : Int) (xs : List V) (ks : List Int), vs = [.int many, .ref p] ∧ 0 ≤ many ∧ many ≤ 12 ∧ H p = some (.lst xs) ∧ Paired (FRow H) xs ks ∧ Q (.bl (riseB many ks)) H
def spMarkR : Sp := fun vs H Q _ => ∃ b lot mk : Int, vs = [.int b, .int lot, .int mk] ∧ 0 ≤ b ∧ Sm lot ∧ ∀ H', Same H H' → Q (.bl (markB b lot mk)) H'
def spMarksR (K : PySem.W.Frag) : Sp := fun vs H Q _ => ∃ (b r l : Addr) (many : Int) (bs : List Int) (lot : Int) (ms : List Int), vs = [.ref b, .ref r] ∧ Bk K H b many bs ∧ bs.length ≤ 500 ∧ (∀ x ∈ bs, 0 ≤ x) ∧ H r = some (.tup [.int lot, .ref l]) ∧ H l = some (.lst (ms.map V.int)) ∧ Sm lot ∧ ∀ H', Same H H' → Q (.bl (marksB bs lot ms)) H'
def spLeadsOn (K : PySem.W.Frag) : Sp := fun vs H Q _ => ∃ (d r : Addr) (many : Int) (kvs : List (Int × V)) (rares : List Int), vs = [.int many, .ref d, .ref r] ∧ 0 ≤ many ∧ many ≤ 12 ∧ H d = some (.dK (tabV kvs)) ∧ H r = some (.lst (rares.map V.int)) ∧ (∀ k ∈ kvs, InB many k.1) ∧
  ∀ H', SameB d H H' → Q (.bl (leadsB many (kvs.map Prod.fst) rares)) H'
def spWholeH (K : PySem.W.Frag) : Sp := fun vs H Q _ => ∃ (b pp p1 p2 : Addr) (many : Int) (bs : List Int) (least : Int) (xs ys : List V) (P R : List (Int × List Int)), vs = [.ref b, .int least, .ref pp] ∧ Bk K H b many bs ∧ bs.length ≤ 500 ∧ (∀ x ∈ bs, InB many x) ∧ 0 ≤ many ∧ many ≤ 12 ∧ H pp = some (.tup [.ref p1, .ref p2]) ∧ H p1 = some (.lst xs) ∧ H p2 = some (.lst ys) ∧ MRows H xs P ∧ MRows H ys R ∧ P.length ≤ 5000 ∧ R.length ≤ 5000 ∧
  ∀ H', Same H H' → Q (.bl (wholeB many bs least P R)) H'
def markF (b lot : Int) : Int := if (lackM lot b).length = 0 then -1 else bstmin (lackM lot b) ((lackM lot b).length - 1)
def markedF (bs : List Int) (rs : List (Int × Int)) : List (Int × List Int) := rs.map fun r => (r.1, bs.map fun b => markF b r.1)
def spMarkFor : Sp := fun vs H Q _ => ∃ b lot : Int, vs = [.int b, .int lot] ∧ 0 ≤ b ∧ Sm lot ∧ ∀ H', Same H H' → Q (.int (markF b lot)) H'
def spMarked (K : PySem.W.Frag) : Sp := fun vs H Q _ => ∃ (b r : Addr) (many : Int) (bs : List Int) (xs : List V) (rs : List (Int × Int)), vs = [.ref b, .ref r] ∧ Bk K H b many bs ∧ bs.length ≤ 500 ∧ (∀ x ∈ bs, 0 ≤ x) ∧ H r = some (.lst xs) ∧ Rows H xs rs ∧ rs.length ≤ 5000 ∧ (∀ r ∈ rs, Sm r.1) ∧
  ∀ (t : Addr) (ys : List V) (H' : Hp), Same H H' → H t = none → H' t = some (.lst ys) → MRowsN H H' ys (markedF bs rs) → Q (.ref t) H'
def spWholeP (K : PySem.W.Frag) : Sp := fun vs H Q _ => ∃ (b : Addr) (many : Int) (bs : List Int) (least : Int), vs = [.ref b, .int least] ∧ Bk K H b many bs ∧ bs.length ≤ 500 ∧ 0 ≤ many ∧ many ≤ 12 ∧ (∀ x ∈ bs, InB many x) ∧
  ∀ (pp p1 p2 : Addr) (xs ys : List V) (H' : Hp), Same H H' → H pp = none → H p1 = none → H p2 = none → H' pp = some (.tup [.ref p1, .ref p2]) → H' p1 = some (.lst xs) → H' p2 = some (.lst ys) → MRowsN H H' xs (markedF bs (oftenR bs least (2 ^ many.toNat))) → MRowsN H H' ys (markedF bs (bordR bs least (2 ^ many.toNat))) → Q (.ref pp) H'
end OL

namespace OL
open PySem L2
section
variable {many : Int} {bs : List Int} {least : Int} (hb : ∀ x ∈ bs, InB many x)
include hb
end
end OL

namespace OL
open PySem L2
/-! ### a whole paper that holds tells the often lots -/
section
variable {many : Int} {bs : List Int} {least : Int} (hb : ∀ x ∈ bs, InB many x)
include hb
end
def lacks12 (n : Nat) (b : Int) : List Int := (th12 n).filter fun x => !hasF b (1 * 2 ^ x.toNat)
def spDraws62b (K : PySem.W.Frag) : Sp := fun vs H Q _ => ∃ (a : Addr) (ns : List Int) (tn mn : Int), vs = [.ref a, .int tn, .int mn] ∧ SqL K H a (ns.map V.int) ∧ ns.length ≤ 63 ∧ 0 ≤ tn ∧ tn ≤ 100 ∧ 0 ≤ mn ∧ mn ≤ 900 ∧ ∀ (r : Addr) (ds : List Int) (H' : Hp), Same H H' → H r = none → H' r = some (.lst (ds.map V.int)) → Q (.ref r) H'
def spLotMarks : Sp := fun vs H Q _ => ∃ (b bl r : Addr) (many : Int) (bs : List Int) (lot : Int) (ds : List Int), vs = [.ref b, .int lot, .ref r] ∧ H b = some (.tup [.int many, .ref bl]) ∧ H bl = some (.lst (bs.map V.int)) ∧ bl ≠ r ∧ H r = some (.lst (ds.map V.int)) ∧ bs.length ≤ 500 ∧ (∀ x ∈ bs, 0 ≤ x) ∧ 0 ≤ lot ∧ lot < 4096 ∧
  ∀ (t : Addr) (ms ds' : List Int) (H' : Hp), SameB r H H' → H t = none → H' t = some (.lst (ms.map V.int)) → H' r = some (.lst (ds'.map V.int)) → marksB bs lot ms = true → Q (.ref t) H'
def spPaper55 : Sp := fun vs H Q _ => ∃ (b bl q r : Addr) (many : Int) (bs : List Int) (least : Int) (ks ds : List Int), vs = [.ref b, .int least, .ref q, .ref r] ∧ H b = some (.tup [.int many, .ref bl]) ∧ H bl = some (.lst (bs.map V.int)) ∧ bl ≠ r ∧ q ≠ r ∧ H r = some (.lst (ds.map V.int)) ∧ H q = some (.lst (ks.map V.int)) ∧ ks.length ≤ 5000 ∧ bs.length ≤ 500 ∧ 0 ≤ many ∧ many ≤ 12 ∧ (∀ x ∈ bs, 0 ≤ x) ∧ (∀ k ∈ ks, 0 ≤ k ∧ k < 4096) ∧
  ∀ (pp p1 p2 : Addr) (xs ys : List V) (P R : List (Int × List Int)) (ds' : List Int) (H' : Hp), SameB r H H' → H pp = none → H' pp = some (.tup [.ref p1, .ref p2]) → H' p1 = some (.lst xs) → H' p2 = some (.lst ys) → MRows H' xs P → MRows H' ys R → H' r = some (.lst (ds'.map V.int)) → P.map Prod.fst = (ks.filter fun x => decide (least ≤ countF bs x)) → R.map Prod.fst = (ks.filter fun x => !decide (least ≤ countF bs x)) → (∀ m ∈ P, marksB bs m.1 m.2 = true) → (∀ m ∈ R, marksB bs m.1 m.2 = true) → Q (.ref pp) H'
end OL

namespace OL
open PySem L2
/-! ### rows of marks with the places of their lists -/
structure MRL (H : Hp) (xs : List V) (ms : List (Int × List Int)) (ls : List Addr) : Prop where
  l1 : xs.length = ms.length
  l2 : ls.length = ms.length
  row : ∀ (i : Nat) (m : Int × List Int) (l : Addr), ms[i]? = some m → ls[i]? = some l → ∃ p, xs[i]? = some (.ref p) ∧ H p = some (.tup [.int m.1, .ref l]) ∧ H l = some (.lst (m.2.map V.int))
/-- all that was there, but at some places, is as it was -/
def SameS (S : List Addr) (H H' : Hp) : Prop := ∀ b o, b ∉ S → H b = some o → H' b = some o
/-! ### as data -/
def dMR (m : Int × List Int) : PyData := .tuple [.int m.1, .list (m.2.map PyData.int)]
def dPap (P R : List (Int × List Int)) : PyData := .tuple [.list (P.map dMR), .list (R.map dMR)]
/-! ### marks held row by row -/
def spMarksL (K : PySem.W.Frag) : Sp := fun vs H Q _ => ∃ (b l : Addr) (many : Int) (bs : List Int) (lot : Int) (ms : List Int), vs = [.ref b, .int lot, .ref l] ∧ Bk K H b many bs ∧ bs.length ≤ 500 ∧ (∀ x ∈ bs, 0 ≤ x) ∧ H l = some (.lst (ms.map V.int)) ∧ 0 ≤ lot ∧ lot < 4096 ∧ ∀ H', Same H H' → Q (.bl (marksB bs lot ms)) H'
def spRightL (K : PySem.W.Frag) : Sp := fun vs H Q _ => ∃ (b p d : Addr) (many : Int) (bs : List Int) (xs ys : List V) (rs : List (Int × Int)) (ls : List Addr), vs = [.ref b, .ref p, .ref d] ∧ bs.length ≤ 500 ∧ rs.length ≤ 5000 ∧ many ≤ 12 ∧ (∀ x ∈ bs, 0 ≤ x) ∧ (∀ r ∈ rs, InB many r.1) ∧ H p = some (.lst xs) ∧ MRL H xs (markedF bs rs) ls ∧ ls.Nodup ∧ H d = some (.lst ys) ∧ Rows H ys rs ∧ p ∉ ls ∧ d ∉ ls ∧ (∀ H', SameS ls H H' → Bk K H' b many bs) ∧
  ∀ H', SameS ls H H' → Q (.bl true) H'
def spMarkedD (K : PySem.W.Frag) : Sp := fun vs H Q _ => ∃ (b r : Addr) (many : Int) (bs : List Int) (xs : List V) (rs : List (Int × Int)), vs = [.ref b, .ref r] ∧ Bk K H b many bs ∧ bs.length ≤ 500 ∧ (∀ x ∈ bs, 0 ≤ x) ∧ H r = some (.lst xs) ∧ Rows H xs rs ∧ rs.length ≤ 5000 ∧ (∀ r ∈ rs, Sm r.1) ∧
  ∀ (t : Addr) (ys : List V) (ls : List Addr) (H' : Hp), Same H H' → H t = none → H' t = some (.lst ys) → MRL H' ys (markedF bs rs) ls → ls.Nodup → (∀ l ∈ ls, H l = none ∧ l ≠ t) → Q (.ref t) H'
def spWholeD (K : PySem.W.Frag) : Sp := fun vs H Q _ => ∃ (b : Addr) (many : Int) (bs : List Int) (least : Int), vs = [.ref b, .int least] ∧ Bk K H b many bs ∧ bs.length ≤ 500 ∧ 0 ≤ many ∧ many ≤ 12 ∧ (∀ x ∈ bs, InB many x) ∧
  ∀ (pp p1 p2 : Addr) (xs ys : List V) (l1 l2 : List Addr) (H' : Hp), Same H H' → H pp = none → H p1 = none → H p2 = none → p1 ≠ p2 → H' pp = some (.tup [.ref p1, .ref p2]) → H' p1 = some (.lst xs) → H' p2 = some (.lst ys) → MRL H' xs (markedF bs (oftenR bs least (2 ^ many.toNat))) l1 → MRL H' ys (markedF bs (bordR bs least (2 ^ many.toNat))) l2 → l1.Nodup → l2.Nodup → (∀ l ∈ l1, l ∉ l2) → (∀ l ∈ l1, H l = none ∧ l ≠ p1 ∧ l ≠ p2) → (∀ l ∈ l2, H l = none ∧ l ≠ p1 ∧ l ≠ p2) → Q (.ref pp) H'
end OL
namespace OL
open PySem L2
end OL

namespace OL.Q26
open PySem L2 OL
def top (i : Nat) : Stmt := PySem.Challenge.pw_oftenlots_k26_whole_no_fewer_rules.main.body.getD i (.Pass ⟨0, 0, 0, 0⟩)
abbrev sTop : Stmt := top 1
abbrev sHas : Stmt := top 2
abbrev sAll : Stmt := top 3
abbrev sHold : Stmt := top 5
abbrev sCommon : Stmt := top 6
abbrev sClosing : Stmt := top 7
abbrev sIsClosed : Stmt := top 8
abbrev sBrought : Stmt := top 10
abbrev sPlace : Stmt := top 11
abbrev sKeeps : Stmt := top 12
abbrev sFollows : Stmt := top 13
abbrev sNeeded : Stmt := top 14
abbrev sFew : Stmt := top 16
abbrev s_served : Stmt := top 17
abbrev s_serving_place : Stmt := top 18
abbrev s_serves : Stmt := top 19
abbrev sCell : Stmt := top 21
abbrev sDraws : Stmt := top 22
abbrev sBook : Stmt := top 23
abbrev sCloseL : Stmt := top 24
abbrev sWithinL : Stmt := top 25
abbrev s_L_due : Stmt := top 26
abbrev s_L_drawn : Stmt := top 27
abbrev s_L_single : Stmt := top 28
abbrev s_L_more : Stmt := top 29
abbrev s_law : Stmt := top 30
section
variable {P : Program} {w : World} {K : PySem.W.Frag} {mg : Str → Option Value} {base : Heap} {f : Addr} {fd : FuncData} {k : Nat}
theorem scTop : FnScope ["number"] ["number"] (defScope sTop) := ⟨rfl, rfl, rfl, by decide +kernel, rfl, by decide +kernel, by decide +kernel⟩
theorem ok_top (F : Fun K "things_below" "things_below" sTop f fd) (b : Binds K fd ["number"] []) (m : mg "things_below" = some (.ref f)) : Dfn P w K mg base (k + 1) "things_below" ["number"] spTop := by
  refine .of F b m scTop (fun vs H Q E h => ?_) (fun cdv A outer s H vs Q E hr h => ?_)
  · obtain ⟨n, rfl, _⟩ := h; rfl
  obtain ⟨n, rfl, h0, h1, q⟩ := h
  refine ⟨_, pss_one (ps_ret (pe_op op_sub (pe_op op_shl pe_int (pv 0)) pe_int)), ?_⟩
  exact ⟨_, rfl, _, _, rfl, rfl, ⟨h0, by omega, by decide⟩, _, _, rfl, rfl, q⟩

theorem scHas : FnScope ["one", "other"] ["one", "other"] (defScope sHas) := ⟨rfl, rfl, rfl, by decide +kernel, rfl, by decide +kernel, by decide +kernel⟩
theorem ok_has (F : Fun K "has" "has" sHas f fd) (b : Binds K fd ["one", "other"] []) (m : mg "has" = some (.ref f)) : Dfn P w K mg base (k + 1) "has" ["one", "other"] spHas := by
  refine .of F b m scHas (fun vs H Q E h => ?_) (fun cdv A outer s H vs Q E hr h => ?_)
  · obtain ⟨x, y, rfl, _⟩ := h; rfl
  obtain ⟨x, y, rfl, q⟩ := h
  refine ⟨_, pss_one (ps_ret (pe_cmpR op_eq (pe_op op_and (pv 0) (pv 1)) (pv 1) (nomark _))), ?_⟩
  refine ⟨_, rfl, _, rfl, _, _, rfl, rfl, _, rfl, rfl, ?_⟩
  rw [int_eq]; exact q

theorem scAll : FnScope ["many"] ["many"] (defScope sAll) := ⟨rfl, rfl, rfl, by decide +kernel, rfl, by decide +kernel, by decide +kernel⟩
theorem ok_all (F : Fun K "all_lots" "all_lots" sAll f fd) (b : Binds K fd ["many"] []) (m : mg "all_lots" = some (.ref f)) (ml : mg "list" = none) (mr : mg "range" = none) (G : Dfn P w K mg base k "things_below" ["number"] spTop) : Dfn P w K mg base (k + 1) "all_lots" ["many"] spAll := by
  refine .of F b m scAll (fun vs H Q E h => ?_) (fun cdv A outer s H vs Q E hr h => ?_)
  · obtain ⟨n, rfl, _⟩ := h; rfl
  obtain ⟨n, rfl, n0, n1, q⟩ := h
  refine ⟨_, pss_one (ps_ret (pe_callTy (call_listRng rfl) (by rfl) ml PyProof.Rows.boot_list (pa_cons (pe_callTy call_rngV (by rfl) mr PyProof.Rows.boot_range (pa_cons (pe_op op_add (pe_def G hr (Nat.le_refl _) rfl (pa_cons (pv 0) pa_nil)) pe_int) pa_nil)) pa_nil))), ?_⟩
  have e : topF n + 1 = ((2 ^ n.toNat : Nat) : Int) := by unfold topF; rw [Int.one_mul, pow_cast]; omega
  have hp := pow12 n1
  refine ⟨_, rfl, n, rfl, n0, by omega, _, _, rfl, rfl, _, rfl, fun p hp0 => ⟨p, topF n + 1, rfl, upd_same, (by rw [e]; exact Int.natCast_nonneg _), (by rw [e]; omega), fun l hl => ?_⟩⟩
  have e2 : (topF n + 1).toNat = 2 ^ n.toNat := by rw [e]; exact Int.toNat_natCast _
  rw [e2]
  have S1 := same_new hp0 (.rng 0 (topF n + 1))
  exact q l _ (S1.trans (same_new hl _)) (S1.free hl) upd_same

theorem scHold : FnScope ["book", "lot"] ["book", "lot"] (defScope sHold) := ⟨rfl, rfl, rfl, by decide +kernel, rfl, by decide +kernel, by decide +kernel⟩
theorem ndPB : (["place", "basket", "lot"] : List Str).Nodup := by decide +kernel
theorem ok_hold (F : Fun K "holders" "holders" sHold f fd) (b : Binds K fd ["book", "lot"] []) (m : mg "holders" = some (.ref f)) (me : mg "enumerate" = none) (G : Dfn P w K mg base k "has" ["one", "other"] spHas) :
    Dfn P w K mg base (k + 1) "holders" ["book", "lot"] (spHold K) := by
  refine .of F b m scHold (fun vs H Q E h => ?_) (fun cdv A outer s H vs Q E hr h => ?_)
  · obtain ⟨b, many, bs, lot, rfl, _⟩ := h; rfl
  obtain ⟨bk, many, bs, lot, rfl, hB, hz, q⟩ := h
  refine ⟨_, pss_one (ps_ret (pe_comp ["place", "basket"] [1] (sc := defScope sHold) (N := ["book", "lot"]) rfl rfl ⟨rfl, by decide +kernel, by decide +kernel, by decide +kernel, by decide +kernel⟩ rfl (pi_enum rfl me (pa_cons (pe_ix ix_tup (pv 0) pe_int (fun _ _ => rfl)) pa_nil))
    (fun cl s H C fp => pg_tupK (n := 2) K rfl rfl (pgs_cons (pg_name (i := 0) ndPB rfl (Or.inl rfl)) (pgs_cons (pg_name (i := 1) ndPB rfl (Or.inl rfl)) pgs_nil)))
    (fun cl s H C fp => pifs_one (pt_val (pe_def G hr (Nat.le_refl _) rfl (pa_cons (pv 1) (pa_cons (pv 2) pa_nil)))))
    (fun cl s H C fp => pv 0))), ?_⟩
  obtain ⟨l, hb, hl⟩ := hB
  refine ⟨_, rfl, bk, _, _, _, rfl, rfl, hb, rfl, l, rfl, ⟨_, hl⟩, ?_⟩
  refine comp_enum hl (fun i => (hold bs lot i).map V.int) rfl (fun acc i x p H' hacc hi hx S h0 hp => ?_) (fun acc H' hacc S h0 => ?_)
  · have hx' := ints_get hx
    subst hx'
    refine ⟨p, _, rfl, SqT.of upd_same, rfl, _, _, rfl, _, _, rfl, rfl, ?_⟩
    refine ⟨(Wk.set (i := 1) ((Wk.refl _).set (i := 0) (by decide)) (by decide)), ?_⟩
    refine ⟨_, rfl, _, rfl, _, _, rfl, _, rfl, ?_⟩
    refine ite2 (fun c => ?_) (fun c => ?_)
    · refine ⟨_, rfl, cput hi hacc S h0 (same_new hp _) ?_ ?_⟩
      · show (hold bs lot (i + 1)).map V.int = _
        rw [hold_yes c, List.map_append]; rfl
      · rw [List.length_map]
        have h1 := hold_len bs lot i
        rw [List.length_map] at hi
        exact small1000 (by omega)
    · refine cskip hi S h0 (same_new hp _) ?_
      show (hold bs lot (i + 1)).map V.int = _
      rw [hold_no (by simpa using c)]
  · rw [List.length_map] at h0
    exact q acc H' S hacc h0

theorem scCommon : FnScope ["book", "places", "shared", "place"] ["book", "places"] (defScope sCommon) := ⟨rfl, rfl, rfl, by decide +kernel, rfl, by decide +kernel, by decide +kernel⟩
theorem ok_common (F : Fun K "common" "common" sCommon f fd) (b : Binds K fd ["book", "places"] []) (m : mg "common" = some (.ref f)) (G : Dfn P w K mg base k "things_below" ["number"] spTop) : Dfn P w K mg base (k + 1) "common" ["book", "places"] (spCommon K) := by
  refine .of F b m scCommon (fun vs H Q E h => ?_) (fun cdv A outer s H vs Q E hr h => ?_)
  · obtain ⟨b, p, many, bs, ps, rfl, _⟩ := h; rfl
  obtain ⟨bk, p, many, bs, ps, rfl, hB, hp, h0, h1, hps, q⟩ := h
  obtain ⟨l, hb, hl⟩ := hB
  refine ⟨_, pss_cons (ps_set (i := 2) scCommon.nd rfl (Or.inl rfl) (pe_def G hr (Nat.le_refl _) rfl (pa_cons (pe_ix ix_tup (pv 0) pe_int (fun _ _ => rfl)) pa_nil)))
    (pss_cons (ps_for PassesOwn.never rfl (pi_list (pv 1)) (pg_name (i := 3) scCommon.nd rfl (Or.inl rfl)) (pss_one (ps_set (i := 2) scCommon.nd rfl (Or.inl rfl) (pe_op op_and (pv 2) (pe_ix ix_list (pe_ix ix_tup (pv 0) pe_int (fun _ _ => rfl)) (pv 3) (fun _ _ => rfl))))))
    (pss_one (ps_ret (pv 2)))), ?_⟩
  refine ⟨_, rfl, bk, _, _, _, rfl, rfl, hb, rfl, many, rfl, h0, h1, ?_⟩
  refine ⟨_, rfl, p, rfl, ⟨_, hp⟩, for_list (xs := ps.map V.int) (fun i σ H' => H' = H ∧ ∃ z, σ = [some (.ref bk), some (.ref p), some (.int (commonF many bs (ps.take i))), z]) ⟨rfl, _, rfl⟩ (fun i σ H' _ h => by rw [h.1]; exact hp) ?_ ?_⟩
  · rintro i x σ H' hx ⟨rfl, z, rfl⟩
    have hi : i < ps.length := by have := (List.getElem?_eq_some_iff.mp hx).1; rwa [List.length_map] at this
    have hx' := ints_get hx
    subst hx'
    have hm : ps.getD i 0 ∈ ps := by
      rw [List.getD_eq_getElem?_getD, List.getElem?_eq_getElem hi]; exact List.getElem_mem hi
    obtain ⟨g0, g1⟩ := hps _ hm
    refine ⟨_, rfl, _, rfl, bk, _, _, _, rfl, rfl, hb, rfl, _, rfl, l, _, _, _, rfl, rfl, hl, atI_int g0 g1, _, _, rfl, rfl, ?_⟩
    exact ⟨rfl, _, by rw [common_succ hi]; rfl⟩
  · rintro σ H' ⟨rfl, z, rfl⟩
    rw [List.length_map, List.take_length]
    exact ⟨_, rfl, q⟩

theorem scClosing : FnScope ["book", "lot"] ["book", "lot"] (defScope sClosing) := ⟨rfl, rfl, rfl, by decide +kernel, rfl, by decide +kernel, by decide +kernel⟩
theorem ok_closing (F : Fun K "closing" "closing" sClosing f fd) (b : Binds K fd ["book", "lot"] []) (m : mg "closing" = some (.ref f)) (GC : Dfn P w K mg base k "common" ["book", "places"] (spCommon K)) (GH : Dfn P w K mg base k "holders" ["book", "lot"] (spHold K)) :
    Dfn P w K mg base (k + 1) "closing" ["book", "lot"] (spClose K fun many bs lot => .int (closeF many bs lot)) := by
  refine .of F b m scClosing (fun vs H Q E h => ?_) (fun cdv A outer s H vs Q E hr h => ?_)
  · obtain ⟨b, many, bs, lot, rfl, _⟩ := h; rfl
  obtain ⟨bk, many, bs, lot, rfl, hB, hz, h0, h1, q⟩ := h
  refine ⟨_, pss_one (ps_ret (pe_def GC hr (Nat.le_refl _) rfl (pa_cons (pv 0) (pa_cons (pe_def GH hr (Nat.le_refl _) rfl (pa_cons (pv 0) (pa_cons (pv 1) pa_nil))) pa_nil)))), ?_⟩
  refine ⟨_, rfl, _, rfl, _, rfl, bk, many, bs, lot, rfl, hB, hz, fun r H' S hr' h' => ?_⟩
  exact ⟨bk, r, many, bs, holdF bs lot, rfl, hB.same S, SqL.of h', h0, h1, fun p hp => hold_mem hp, q H' S⟩

theorem scIsClosed : FnScope ["book", "lot"] ["book", "lot"] (defScope sIsClosed) := ⟨rfl, rfl, rfl, by decide +kernel, rfl, by decide +kernel, by decide +kernel⟩
theorem ok_isclosed (F : Fun K "is_closed" "is_closed" sIsClosed f fd) (b : Binds K fd ["book", "lot"] []) (m : mg "is_closed" = some (.ref f)) (GC : Dfn P w K mg base k "closing" ["book", "lot"] (spClose K fun many bs lot => .int (closeF many bs lot))) :
    Dfn P w K mg base (k + 1) "is_closed" ["book", "lot"] (spClose K fun many bs lot => .bl (closeF many bs lot == lot)) := by
  refine .of F b m scIsClosed (fun vs H Q E h => ?_) (fun cdv A outer s H vs Q E hr h => ?_)
  · obtain ⟨b, many, bs, lot, rfl, _⟩ := h; rfl
  obtain ⟨bk, many, bs, lot, rfl, hB, hz, h0, h1, q⟩ := h
  refine ⟨_, pss_one (ps_ret (pe_cmpR op_eq (pe_def GC hr (Nat.le_refl _) rfl (pa_cons (pv 0) (pa_cons (pv 1) pa_nil))) (pv 1) (nomark _))), ?_⟩
  refine ⟨_, rfl, _, rfl, bk, many, bs, lot, rfl, hB, hz, h0, h1, fun H' S => ?_⟩
  refine ⟨_, rfl, rfl, ?_⟩
  rw [int_eq]; exact q H' S

theorem scPlace : FnScope ["rules", "lot", "place", "rule"] ["rules", "lot"] (defScope sPlace) := ⟨rfl, rfl, rfl, by decide +kernel, rfl, by decide +kernel, by decide +kernel⟩
theorem ok_place (F : Fun K "place_to_take" "place_to_take" sPlace f fd) (b : Binds K fd ["rules", "lot"] []) (m : mg "place_to_take" = some (.ref f)) (me : mg "enumerate" = none) (G : Dfn P w K mg base k "has" ["one", "other"] spHas) :
    Dfn P w K mg base (k + 1) "place_to_take" ["rules", "lot"] spPlace := by
  refine .of F b m scPlace (fun vs H Q E h => ?_) (fun cdv A outer s H vs Q E hr h => ?_)
  · obtain ⟨a, rs, lot, rfl, _⟩ := h; rfl
  obtain ⟨a, rs, lot, rfl, hR, q⟩ := h
  have nd := scPlace.nd
  have le := Nat.le_refl k
  refine ⟨_, pss_cons (ps_for PassesOwn.never rfl (pi_enum rfl me (pa_cons (pv 0) pa_nil)) (pg_tup (n := 2) rfl (pgs_cons (pg_name (i := 2) nd rfl (Or.inl rfl)) (pgs_cons (pg_name (i := 3) nd rfl (Or.inl rfl)) pgs_nil)))
      (pss_one (ps_if (PW.pt (pw_and (pt_val (pe_def G hr le rfl (pa_cons (pv 1) (pa_cons (pe_ix ix_tup (pv 3) pe_int (fun _ _ => rfl)) pa_nil)))) (pw_and1 (pt_not (pt_val (pe_def G hr le rfl (pa_cons (pv 1) (pa_cons (pe_ix ix_tup (pv 3) pe_int (fun _ _ => rfl)) pa_nil)))))))) (pss_one (ps_ret (pv 2))) pss_nil)))
    (pss_one (ps_ret pe_non)), ?_⟩
  obtain ⟨xs, hx, hrows⟩ := hR
  have hlen := hrows.length
  refine ⟨_, rfl, a, rfl, ⟨_, SqL.of hx⟩, for_enum (xs := xs) (fun i σ H' => ∃ z2 z3 : Option V, σ = [some (.ref a), some (.int lot), z2, z3] ∧ Same H H' ∧ ∀ j, j < i → takeB lot (rs.getD j (0, 0)) = false) ⟨_, _, rfl, Same.refl _, fun j hj => absurd hj (Nat.not_lt_zero _)⟩
    (fun i σ H' _ h => by obtain ⟨_, _, _, S, _⟩ := h; exact SqL.of (S _ _ hx)) ?_ ?_⟩
  · rintro i x p σ H' hxi ⟨z2, z3, rfl, S, hn⟩ hp
    have hi : i < xs.length := (List.getElem?_eq_some_iff.mp hxi).1
    obtain ⟨rp, rfl, hrow⟩ := Rows.getD hrows hxi
    have Sp := S.trans (same_new hp (.tup [.int (i : Nat), .ref rp]))
    have hrow2 := Sp _ _ hrow
    refine ⟨p, _, rfl, SqT.of upd_same, rfl, _, _, rfl, _, _, rfl, rfl, ?_⟩
    dsimp only
    refine one_if (lookAnd (c := _) (d := _) (.pure fun Q h => ⟨_, rfl, _, rfl, rp, _, _, _, rfl, rfl, SqT.of hrow2, rfl, _, _, rfl, _, rfl, h⟩) (fun _ H2 S2 => .pure fun Q h => ⟨_, rfl, _, rfl, rp, _, _, _, rfl, rfl, SqT.of (S2 _ _ hrow2), rfl, _, _, rfl, _, rfl, h⟩)) fun H2 S2 => ?_
    refine ite2 (fun c => ?_) (fun c => ?_)
    · refine ⟨_, rfl, ?_⟩
      have := q H2 (Sp.trans S2)
      rw [pt_some (by omega) c hn] at this
      exact this
    · refine ⟨_, _, rfl, Sp.trans S2, fun j hj => ?_⟩
      by_cases e : j = i
      · subst e; exact Bool.eq_false_iff.mpr c
      · exact hn j (by omega)
  · rintro σ H' ⟨z2, z3, rfl, S, hn⟩
    have := q H' S
    rw [pt_none (fun j hj => hn j (by omega))] at this
    exact this
theorem scBrought : FnScope ["rules", "lot", "come", "steps", "place"] ["rules", "lot"] (defScope sBrought) := ⟨rfl, rfl, rfl, by decide +kernel, rfl, by decide +kernel, by decide +kernel⟩
theorem ok_brought (F : Fun K "brought_on" "brought_on" sBrought f fd) (b : Binds K fd ["rules", "lot"] []) (m : mg "brought_on" = some (.ref f)) (G : Dfn P w K mg base k "place_to_take" ["rules", "lot"] spPlace) :
    Dfn P w K mg base (k + 1) "brought_on" ["rules", "lot"] spBrought := by
  refine .of F b m scBrought (fun vs H Q E h => ?_) (fun cdv A outer s H vs Q E hr h => ?_)
  · obtain ⟨a, rs, lot, rfl, _⟩ := h; rfl
  obtain ⟨a, rs, lot, rfl, hR, h100, hN, hl0, q⟩ := h
  have nd := scBrought.nd
  have le := Nat.le_refl k
  refine ⟨_, pss_cons (ps_set (i := 2) nd rfl (Or.inl rfl) (pv 1)) (pss_cons (ps_set (i := 3) nd rfl (Or.inl rfl) (pe_lst pa_nil)) (pss_cons (ps_set (i := 4) nd rfl (Or.inl rfl) (pe_def G hr le rfl (pa_cons (pv 0) (pa_cons (pv 2) pa_nil))))
    (pss_cons (ps_while PassesOwn.never (pt_cmpR op_notN (pv 4) pe_non (nomark _))
      (pss_cons (ps_expr (pe_bm PySem.F.plainAttrs_list PySem.F.slot_list_append PySem.F.type_list_append mt_append (pv 3) (pa_cons (pv 4) pa_nil)))
      (pss_cons (ps_set (i := 2) nd rfl (Or.inl rfl) (pe_op op_or (pv 2) (pe_ix ix_tup (pe_ix ix_list (pv 0) (pv 4) (fun _ _ => rfl)) pe_int (fun _ _ => rfl))))
      (pss_one (ps_set (i := 4) nd rfl (Or.inl rfl) (pe_def G hr le rfl (pa_cons (pv 0) (pa_cons (pv 2) pa_nil))))))))
    (pss_one (ps_ret (pe_tup (pa_cons (pv 2) (pa_cons (pv 3) pa_nil)))))))), ?_⟩
  refine ⟨_, rfl, (by show 0 ≤ sizeLine; decide), fun st hst => ?_⟩
  have S0 := same_new hst (.lst [])
  refine ⟨_, rfl, _, rfl, a, rs, lot, rfl, hR.same S0, fun H1 S1 => ?_⟩
  refine while_by (fun σ H' => ∃ (m : Nat) (come : Int) (ss : List Int) (o : Option Nat), σ = [some (.ref a), some (.int lot), some (.int come), some (.ref st), some (ptV o)] ∧ ptF rs come = o ∧ Run rs lot m come ss ∧ Same H H' ∧ H' st = some (.lst (ss.map V.int)))
    (fun σ _ => match σ with | [_, _, some (V.int c), _, _] => unsat rs c | _ => 0) ⟨rs.length, lot, [], _, rfl, rfl, .start hl0, S0.trans S1, S1 _ _ upd_same⟩ ?_ ?_
  · rintro σ H' ⟨m, come, ss, o, rfl, e, R, S, hss⟩
    refine ⟨_, rfl, rfl, _, rfl, ?_⟩
    cases o with
    | none =>
      refine iteF ?_
      have key := R.last e
      refine ⟨_, rfl, _, rfl, (by show 2 ≤ sizeLine; decide), fun t ht => ?_⟩
      refine q t st _ (S.trans (same_new ht _)) (S.free ht) hst ?_ ?_
      · rw [upd_same, key]
      · rw [key]; exact same_new ht _ _ _ hss
    | some i =>
      refine iteT ?_
      obtain ⟨hi, ht⟩ := pt_get e
      obtain ⟨m', R'⟩ := R.step hN e
      have hln := R.ln
      have hu := unsat_lt hN R.nn e
      obtain ⟨xs, hx, hrows⟩ := hR.same S
      obtain ⟨rp, e1, hrp⟩ := hrows.at hi
      have stne : ∀ b o, H b = some o → b ≠ st := fun b o e w => by rw [w, hst] at e; cases e
      have S2 : Same H (upd H' st (.lst (ss.map V.int ++ [.int (i : Nat)]))) := fun b o e => by rw [upd_ne (stne b o e)]; exact S b o e
      have ane : a ≠ st := by obtain ⟨ys, hy, _⟩ := hR; exact stne _ _ hy
      have rne : rp ≠ st := fun w => by rw [w, hss] at hrp; cases hrp
      refine ⟨_, rfl, .inl ⟨rfl, _, SqL.of hss⟩, _, rfl, st, _, _, rfl, rfl, hss, (by rw [List.length_map]; exact small1000 (by omega)), ?_⟩
      refine ⟨_, rfl, _, rfl, _, rfl, a, _, _, _, rfl, rfl, SqL.of (by rw [upd_ne ane]; exact hx), atI_nat e1, rp, _, _, _, rfl, rfl, SqT.of (by rw [upd_ne rne]; exact hrp), rfl, _, _, rfl, rfl, ?_⟩
      refine ⟨_, rfl, _, rfl, a, rs, _, rfl, hR.same S2, fun H3 S3 => ⟨⟨m', Builtin.bitOr come (sndF rs i), ss ++ [((i : Nat) : Int)], _, rfl, rfl, R', S2.trans S3, ?_⟩, hu⟩⟩
      rw [S3 _ _ upd_same, List.map_append]; rfl
  · rintro σ H' Q Q' hm ⟨a, h1, h2, d, h4, h5⟩
    exact ⟨a, h1, h2, d, h4, hm _ _ h5⟩
theorem scKeeps : FnScope ["lot", "rules"] ["lot", "rules"] (defScope sKeeps) := ⟨rfl, rfl, rfl, by decide +kernel, rfl, by decide +kernel, by decide +kernel⟩
theorem ok_keeps (F : Fun K "keeps_all" "keeps_all" sKeeps f fd) (b : Binds K fd ["lot", "rules"] []) (m : mg "keeps_all" = some (.ref f)) (G : Dfn P w K mg base k "place_to_take" ["rules", "lot"] spPlace) : Dfn P w K mg base (k + 1) "keeps_all" ["lot", "rules"] spKeeps := by
  refine .of F b m scKeeps (fun vs H Q E h => ?_) (fun cdv A outer s H vs Q E hr h => ?_)
  · obtain ⟨a, rs, lot, rfl, _⟩ := h; rfl
  obtain ⟨a, rs, lot, rfl, hR, q⟩ := h
  refine ⟨_, pss_one (ps_ret (pe_cmpR op_isN (pe_def G hr (Nat.le_refl _) rfl (pa_cons (pv 1) (pa_cons (pv 0) pa_nil))) pe_non (nomark _))), _, rfl, _, rfl, a, rs, lot, rfl, hR, fun H' S => ⟨rfl, ?_⟩⟩
  have e : decide (ptV (ptF rs lot) = .non) = (ptF rs lot).isNone := by
    cases ptF rs lot with
    | none => rfl
    | some i => rfl
  rw [e]; exact q H' S
theorem scNeeded : FnScope ["rules", "rule", "steps", "come", "needed", "place"] ["rules", "rule", "steps"] (defScope sNeeded) := ⟨rfl, rfl, rfl, by decide +kernel, rfl, by decide +kernel, by decide +kernel⟩
theorem ok_needed (F : Fun K "steps_needed" "steps_needed" sNeeded f fd) (b : Binds K fd ["rules", "rule", "steps"] []) (m : mg "steps_needed" = some (.ref f)) (G : Dfn P w K mg base k "has" ["one", "other"] spHas) :
    Dfn P w K mg base (k + 1) "steps_needed" ["rules", "rule", "steps"] (spNeeded K) := by
  refine .of F b m scNeeded (fun vs H Q E h => ?_) (fun cdv A outer s H vs Q E hr h => ?_)
  · obtain ⟨a, r, s, rs, x, y, ps, rfl, _⟩ := h; rfl
  obtain ⟨a, r, st, rs, x, y, ps, rfl, hR, hl, hst, h100, hps, q⟩ := h
  have nd := scNeeded.nd
  have le := Nat.le_refl k
  refine ⟨_, pss_cons (ps_set (i := 3) nd rfl (Or.inl rfl) (pe_ix ix_tup (pv 1) pe_int (fun _ _ => rfl)))
    (pss_cons (ps_set (i := 4) nd rfl (Or.inl rfl) (pe_lst pa_nil))
    (pss_cons (ps_for PassesOwn.never rfl (pi_list (pv 2)) (pg_name (i := 5) nd rfl (Or.inl rfl))
      (pss_cons (ps_if (pt_val (pe_def G hr le rfl (pa_cons (pv 3) (pa_cons (pe_ix ix_tup (pv 1) pe_int (fun _ _ => rfl)) pa_nil)))) (pss_one ps_break) pss_nil)
      (pss_cons (ps_expr (pe_bm PySem.F.plainAttrs_list PySem.F.slot_list_append PySem.F.type_list_append mt_append (pv 4) (pa_cons (pv 5) pa_nil)))
      (pss_one (ps_set (i := 3) nd rfl (Or.inl rfl) (pe_op op_or (pv 3) (pe_ix ix_tup (pe_ix ix_list (pv 0) (pv 5) (fun _ _ => rfl)) pe_int (fun _ _ => rfl))))))))
    (pss_one (ps_ret (pv 4))))), ?_⟩
  refine ⟨_, rfl, r, _, _, _, rfl, rfl, hl, rfl, (by show 0 ≤ sizeLine; decide), fun n hn0 => ?_⟩
  have S0 := same_new hn0 (.lst [])
  have stn : st ≠ n := fun e => by rw [e, hn0] at hst; cases hst
  refine ⟨_, rfl, st, rfl, ⟨_, SqL.of (S0 _ _ hst)⟩, for_list (xs := ps.map V.int) (fun i σ H' => ∃ (c : Int) (tk : List Int) (z5 : Option V), σ = [some (.ref a), some (.ref r), some (.ref st), some (.int c), some (.ref n), z5] ∧ Same H H' ∧ H' n = some (.lst (tk.map V.int)) ∧ needF rs y x ps = tk ++ needF rs y c (ps.drop i) ∧ tk.length ≤ i) ⟨x, [], _, rfl, S0, upd_same, rfl, Nat.le_refl _⟩
    (fun i σ H' _ h => by obtain ⟨_, _, _, _, S, _⟩ := h; exact SqL.of (S _ _ hst)) ?_ ?_⟩
  · rintro i v σ H' hv ⟨c, tk, z5, rfl, S, hn, e, htl⟩
    have hi : i < ps.length := by have := (List.getElem?_eq_some_iff.mp hv).1; rwa [List.length_map] at this
    have hv' := ints_get hv
    subst hv'
    rw [drop_get hi] at e
    obtain ⟨j, hj, ej⟩ := hps _ (getD_mem hi)
    rw [ej] at e ⊢
    dsimp only
    refine seq_if (.pure fun Q h => ⟨_, rfl, _, rfl, r, _, _, _, rfl, rfl, S.tup hl, rfl, _, _, rfl, _, rfl, h⟩) fun H2 S2 => ?_
    refine ite2 (fun hc => ?_) (fun hc => ?_)
    · rw [need_stop hc, List.append_nil] at e
      exact ⟨_, rfl, q n H2 (S.trans S2) hn0 (by rw [e]; exact S2 _ _ hn)⟩
    rw [need_go hc] at e
    have hn2 := S2 _ _ hn
    have SH := S.trans S2
    obtain ⟨xs, hx, hrows⟩ := hR.same SH
    obtain ⟨rp, e1, hrp⟩ := hrows.at hj
    have stne : ∀ b o, H b = some o → b ≠ n := fun b o e w => by rw [w, hn0] at e; cases e
    have S3 : Same H (upd H2 n (.lst (tk.map V.int ++ [.int (j : Nat)]))) := fun b o e => by rw [upd_ne (stne b o e)]; exact SH b o e
    have ane : a ≠ n := by obtain ⟨ys, hy, _⟩ := hR; exact stne _ _ hy
    have rne : rp ≠ n := fun w => by rw [w, hn2] at hrp; cases hrp
    dsimp only [tNext]
    refine ⟨_, rfl, .inl ⟨rfl, _, SqL.of hn2⟩, _, rfl, n, _, _, rfl, rfl, hn2, (by rw [List.length_map]; exact small1000 (by omega)), ?_⟩
    refine ⟨_, rfl, _, rfl, _, rfl, a, _, _, _, rfl, rfl, SqL.of (by rw [upd_ne ane]; exact hx), atI_nat e1, rp, _, _, _, rfl, rfl, SqT.of (by rw [upd_ne rne]; exact hrp), rfl, _, _, rfl, rfl, ?_⟩
    refine ⟨Builtin.bitOr c (sndF rs j), tk ++ [((j : Nat) : Int)], _, rfl, S3, by rw [upd_same, List.map_append]; rfl, by rw [e, Int.toNat_natCast]; simp, by rw [List.length_append]; show _ + 1 ≤ _; omega⟩
  · rintro σ H' ⟨c, tk, z5, rfl, S, hn, e, htl⟩
    rw [List.length_map, List.drop_length] at e
    have e' : needF rs y x ps = tk := e.trans (List.append_nil _)
    exact ⟨_, rfl, q n H' S hn0 (by rw [e']; exact hn)⟩
theorem scFollows : FnScope ["rules", "rule", "whole"] ["rules", "rule"] (defScope sFollows) := ⟨rfl, rfl, rfl, by decide +kernel, rfl, by decide +kernel, by decide +kernel⟩
theorem ok_follows (F : Fun K "follows" "follows" sFollows f fd) (b : Binds K fd ["rules", "rule"] []) (m : mg "follows" = some (.ref f)) (GB : Dfn P w K mg base k "brought_on" ["rules", "lot"] spBrought) (GH : Dfn P w K mg base k "has" ["one", "other"] spHas) (GN : Dfn P w K mg base k "steps_needed" ["rules", "rule", "steps"] (spNeeded K)) :
    Dfn P w K mg base (k + 1) "follows" ["rules", "rule"] (spFollows K) := by
  refine .of F b m scFollows (fun vs H Q E h => ?_) (fun cdv A outer s H vs Q E hr h => ?_)
  · obtain ⟨a, r, rs, x, y, rfl, _⟩ := h; rfl
  obtain ⟨a, r, rs, x, y, rfl, hR, hl, h100, hN, x0, y0, q⟩ := h
  have nd := scFollows.nd
  have le := Nat.le_refl k
  refine ⟨_, pss_cons (ps_set (i := 2) nd rfl (Or.inl rfl) (pe_def GB hr le rfl (pa_cons (pv 0) (pa_cons (pe_ix ix_tup (pv 1) pe_int (fun _ _ => rfl)) pa_nil))))
    (pss_cons (ps_if (pt_not (pt_val (pe_def GH hr le rfl (pa_cons (pe_ix ix_tup (pv 2) pe_int (fun _ _ => rfl)) (pa_cons (pe_ix ix_tup (pv 1) pe_int (fun _ _ => rfl)) pa_nil))))) (pss_one (ps_ret (pe_tup (pa_cons pe_str (pa_cons (pe_ix ix_tup (pv 2) pe_int (fun _ _ => rfl)) pa_nil))))) pss_nil)
    (pss_one (ps_ret (pe_tup (pa_cons pe_str (pa_cons (pe_def GN hr le rfl (pa_cons (pv 0) (pa_cons (pv 1) (pa_cons (pe_ix ix_tup (pv 2) pe_int (fun _ _ => rfl)) pa_nil)))) pa_nil)))))), ?_⟩
  refine ⟨_, rfl, _, rfl, r, _, _, _, rfl, rfl, hl, rfl, a, rs, x, rfl, hR, h100, hN, x0, fun t s H1 S1 ht0 hs0 ht hs => ?_⟩
  dsimp only
  refine seq_if (.pure fun Q h => ⟨_, rfl, t, _, _, _, rfl, rfl, SqT.of ht, rfl, _, rfl, r, _, _, _, rfl, rfl, S1.tup hl, rfl, _, _, rfl, _, rfl, h⟩) fun H2 S2 => ?_
  have ht2 := S2 _ _ ht
  have hs2 := S2 _ _ hs
  have S02 := S1.trans S2
  refine ite2 (fun hc => ?_) (fun hc => ?_)
  · have hc' : hasF (comeF rs x) y = false := by simpa [comeF] using hc
    refine ⟨_, rfl, t, _, _, _, rfl, rfl, SqT.of ht2, rfl, (by show 2 ≤ sizeLine; decide), fun p hp => ?_⟩
    exact q p _ (S02.trans (same_new hp _)) (.inr ⟨hc', upd_same⟩)
  · have hc' : hasF (comeF rs x) y = true := by simpa [comeF] using hc
    refine ⟨_, rfl, _, rfl, _, rfl, t, _, _, _, rfl, rfl, SqT.of ht2, rfl, a, r, s, rs, x, y, _, rfl, hR.same S02, S02.tup hl, hs2, ?_, fun p hp => bF_places _ _ p hp, fun n H3 S3 hn0 hn => ⟨(by show 2 ≤ sizeLine; decide), fun p hp => ?_⟩⟩
    · have := bF_len (rs := rs) rs.length x; omega
    have Sp := same_new hp (.tup [.str "by", .ref n])
    exact q p _ (S02.trans (S3.trans Sp)) (.inl ⟨hc', n, upd_same, Sp _ _ hn⟩)
theorem scFew : FnScope ["book", "told", "lot"] ["book"] (defScope sFew) := ⟨rfl, rfl, rfl, by decide +kernel, rfl, by decide +kernel, by decide +kernel⟩
theorem ok_few (F : Fun K "few_rules" "few_rules" sFew f fd) (b : Binds K fd ["book"] []) (m : mg "few_rules" = some (.ref f)) (GA : Dfn P w K mg base k "all_lots" ["many"] spAll) (GI : Dfn P w K mg base k "is_closed" ["book", "lot"] (spClose K fun many bs lot => .bl (closeF many bs lot == lot))) (GC : Dfn P w K mg base k "closing" ["book", "lot"] (spClose K fun many bs lot => .int (closeF many bs lot))) (GK : Dfn P w K mg base k "keeps_all" ["lot", "rules"] spKeeps) :
    Dfn P w K mg base (k + 1) "few_rules" ["book"] (spFew K) := by
  refine .of F b m scFew (fun vs H Q E h => ?_) (fun cdv A outer s H vs Q E hr h => ?_)
  · obtain ⟨b, many, bs, rfl, _⟩ := h; rfl
  obtain ⟨bk, many, bs, rfl, hB, hz, h0, h1, hbs, q⟩ := h
  have nd := scFew.nd
  have le := Nat.le_refl k
  refine ⟨_, pss_cons (ps_set (i := 1) nd rfl (Or.inl rfl) (pe_lst pa_nil)) (pss_cons (ps_for PassesOwn.never rfl (pi_list (pe_def GA hr le rfl (pa_cons (pe_ix ix_tup (pv 0) pe_int (fun _ _ => rfl)) pa_nil))) (pg_name (i := 2) nd rfl (Or.inl rfl))
      (pss_one (ps_if (PW.pt (pw_and (pt_not (pt_val (pe_def GI hr le rfl (pa_cons (pv 0) (pa_cons (pv 2) pa_nil))))) (pw_and1 (pt_val (pe_def GK hr le rfl (pa_cons (pv 2) (pa_cons (pv 1) pa_nil)))))))
        (pss_one (ps_expr (pe_bm PySem.F.plainAttrs_list PySem.F.slot_list_append PySem.F.type_list_append mt_append (pv 1) (pa_cons (pe_tup (pa_cons (pv 2) (pa_cons (pe_op op_sub (pe_def GC hr le rfl (pa_cons (pv 0) (pa_cons (pv 2) pa_nil))) (pv 2)) pa_nil))) pa_nil)))) pss_nil)))
    (pss_one (ps_ret (pv 1)))), ?_⟩
  have hB2 := hB
  obtain ⟨l, hb, hl⟩ := hB
  refine ⟨(by show 0 ≤ sizeLine; decide), fun td htd => ?_⟩
  have S0 := same_new htd (.lst [])
  refine ⟨_, rfl, bk, _, _, _, rfl, rfl, S0.tup hb, rfl, many, rfl, h0, h1, fun al H2 S2 hal0 hal => ?_⟩
  have ht2 := S2 _ _ (upd_same (H := H) (a := td) (o := .lst []))
  have al_ne : al ≠ td := fun e => by rw [e, upd_same] at hal0; cases hal0
  have S02 := S0.trans S2
  have hp := pow12 h1
  have hlen : ((rangeI (2 ^ many.toNat)).map V.int).length = 2 ^ many.toNat := by rw [List.length_map, rangeI_length]
  refine ⟨al, rfl, ⟨_, SqL.of hal⟩, for_list (xs := (rangeI (2 ^ many.toNat)).map V.int) (fun i σ H' => ∃ (z2 : Option V) (xs : List V), σ = [some (.ref bk), some (.ref td), z2] ∧ SameB td H2 H' ∧ H' td = some (.lst xs) ∧ Rows H' xs (fewU many bs i)) ⟨_, [], rfl, (Same.refl _).b, ht2, .nil⟩
    (fun i σ H' _ h => by obtain ⟨_, _, _, SB, _⟩ := h; exact SqL.of (SB _ _ al_ne hal)) ?_ ?_⟩
  · rintro i x σ H' hx ⟨z2, xs, rfl, SB, ht', hR⟩
    have hi : i < 2 ^ many.toNat := by have := (List.getElem?_eq_some_iff.mp hx).1; rwa [hlen] at this
    have hx' := ints_get hx
    rw [rangeI_getD hi] at hx'
    subst hx'
    have SH : Same H H' := SB.same S02 htd
    dsimp only
    refine one_if (lookAnd (c := _) (d := _) (fun Q h => ⟨_, rfl, _, rfl, bk, many, bs, _, rfl, hB2.same SH, hz, h0, by omega, fun H3 S3 => ⟨_, rfl, h _ S3⟩⟩)
      (fun _ H3 S3 => fun Q h => ⟨_, rfl, _, rfl, td, fewU many bs i, _, rfl, ⟨xs, S3 _ _ ht', hR.same S3.t⟩, fun H4 S4 => ⟨_, rfl, h _ S4⟩⟩)) fun H3 S3 => ?_
    have ht3 := S3 _ _ ht'
    have hln := hR.length
    have hl2 := fewU_len many bs i
    refine ite2 (fun c => ?_) (fun c => ?_)
    · have c' : wantB many bs (fewU many bs i) (i : Int) = true := c
      refine ⟨_, rfl, .inl ⟨rfl, _, SqL.of ht3⟩, _, rfl, _, rfl, _, rfl, bk, many, bs, _, rfl, hB2.same (SH.trans S3), hz, h0, by omega, fun H4 S4 => ⟨_, rfl, _, _, rfl, rfl, (by show 2 ≤ sizeLine; decide), fun p hp0 => ?_⟩⟩
      have Sp := same_new hp0 (.tup [.int (i : Int), .int (closeF many bs (i : Int) - (i : Int))])
      have ht5 := Sp _ _ (S4 _ _ ht3)
      refine ⟨td, _, _, rfl, rfl, ht5, small4096 (by omega), ?_⟩
      have T5 := tsame_upd (o := .lst (xs ++ [.ref p])) ht5
      have S35 := S3.trans (S4.trans Sp)
      refine ⟨_, xs ++ [.ref p], rfl, SB.trans (S35.b.trans sameB_upd), upd_same, ?_⟩
      rw [few_yes c']
      exact ((hR.same S35.t).same T5).snoc ⟨p, rfl, T5 _ _ upd_same⟩
    · have c' : ¬ wantB many bs (fewU many bs i) (i : Int) = true := c
      exact ⟨_, xs, rfl, SB.trans S3.b, ht3, by rw [few_no c']; exact hR.same S3.t⟩
  · rintro σ H' ⟨z2, xs, rfl, SB, ht', hR⟩
    rw [hlen] at hR
    exact ⟨_, rfl, q td xs H' (SB.same S02 htd) htd ht' hR⟩
end
end OL.Q26

namespace OL.Q26
open PySem L2 OL
section
variable {P : Program} {w : World} {K : PySem.W.Frag} {mg : Str → Option Value} {base : Heap} {f : Addr} {fd : FuncData} {k : Nat}
abbrev n_serves : List Str := ["book", "lot", "rule"]
theorem sc_serves : FnScope n_serves ["book", "lot", "rule"] (defScope s_serves) := ⟨rfl, rfl, rfl, by decide +kernel, rfl, by decide +kernel, by decide +kernel⟩
theorem ok_serves (F : Fun K "serves" "serves" s_serves f fd) (b : Binds K fd ["book", "lot", "rule"] []) (m : mg "serves" = some (.ref f))  (G_closing : Dfn P w K mg base k "closing" ["book", "lot"] (spClose K fun many bs lot => .int (closeF many bs lot))) (G_has : Dfn P w K mg base k "has" ["one", "other"] spHas) : Dfn P w K mg base (k + 1) "serves" ["book", "lot", "rule"] (spServes K) := by
  refine .of F b m sc_serves (fun vs H Q E h => ?_) (fun cdv A outer s H vs Q E hr h => ?_)
  · obtain ⟨bk, r, many, bs, lot, x, y, rfl, hB, zb, h0, h1, hr', q⟩ := h; rfl
  obtain ⟨bk, r, many, bs, lot, x, y, rfl, hB, zb, h0, h1, hr', q⟩ := h
  have nd := sc_serves.nd
  have le := Nat.le_refl k
  refine ⟨_, pss_one (ps_ret (pe_and (pe_def G_has hr le rfl (pa_cons (pv 1) (pa_cons (pe_ix ix_tup (pv 2) pe_int (fun _ _ => rfl)) pa_nil))) (pe_and (pe_not (pe_def G_has hr le rfl (pa_cons (pv 1) (pa_cons (pe_ix ix_tup (pv 2) pe_int (fun _ _ => rfl)) pa_nil)))) (pe_one (pe_cmpR op_eq (pe_def G_closing hr le rfl (pa_cons (pv 0) (pa_cons (pe_ix ix_tup (pv 2) pe_int (fun _ _ => rfl)) pa_nil))) (pe_def G_closing hr le rfl (pa_cons (pv 0) (pa_cons (pv 1) pa_nil))) (nomark _)))))), ?_⟩
  refine look_andV (c := hasF lot x) (d := !hasF lot y && (closeF many bs x == closeF many bs lot)) (.pure fun Q h => ⟨_, rfl, _, rfl, r, _, _, _, rfl, rfl, hr', rfl, _, _, rfl, h⟩) (fun _ H1 S1 => look_andV (.pure fun Q h => ⟨_, rfl, _, rfl, r, _, _, _, rfl, rfl, S1.tup hr', rfl, _, _, rfl, ⟨_, rfl, h⟩⟩) (fun _ H2 S2 Q h => ⟨_, rfl, _, rfl, r, _, _, _, rfl, rfl, (S1.trans S2).tup hr', rfl, bk, many, bs, x, rfl, hB.same (S1.trans S2), zb, h0, by omega, fun H3 S3 => ⟨_, rfl, _, rfl, bk, many, bs, lot, rfl, hB.same (S1.trans (S2.trans S3)), zb, h0, by omega, fun H4 S4 => ⟨rfl, ?_⟩⟩⟩)) _ fun H' S' => q H' S'
  rw [int_eq]
  exact h _ (S3.trans S4)
abbrev n_serving_place : List Str := ["book", "lot", "rules", "place", "rule"]
theorem sc_serving_place : FnScope n_serving_place ["book", "lot", "rules"] (defScope s_serving_place) := ⟨rfl, rfl, rfl, by decide +kernel, rfl, by decide +kernel, by decide +kernel⟩
theorem ok_serving_place (F : Fun K "serving_place" "serving_place" s_serving_place f fd) (b : Binds K fd ["book", "lot", "rules"] []) (m : mg "serving_place" = some (.ref f)) (M_enumerate : mg "enumerate" = none) (G_serves : Dfn P w K mg base k "serves" ["book", "lot", "rule"] (spServes K)) : Dfn P w K mg base (k + 1) "serving_place" ["book", "lot", "rules"] (spServing K) := by
  refine .of F b m sc_serving_place (fun vs H Q E h => ?_) (fun cdv A outer s H vs Q E hr h => ?_)
  · obtain ⟨bk, a, many, bs, lot, rs, rfl, hB, zb, h0, h1, hR, q⟩ := h; rfl
  obtain ⟨bk, a, many, bs, lot, rs, rfl, hB, zb, h0, h1, hR, q⟩ := h
  have nd := sc_serving_place.nd
  have le := Nat.le_refl k
  refine ⟨_, pss_cons (ps_for PassesOwn.never rfl (pi_enum rfl M_enumerate (pa_cons (pv 2) pa_nil)) (pg_tupK (n := 2) K rfl rfl (pgs_cons (pg_name (i := 3) nd rfl (Or.inl rfl)) (pgs_cons (pg_name (i := 4) nd rfl (Or.inl rfl)) pgs_nil)))
      (pss_one (ps_if (pt_val (pe_def G_serves hr le rfl (pa_cons (pv 0) (pa_cons (pv 1) (pa_cons (pv 4) pa_nil))))) (pss_one (ps_ret (pv 3))) pss_nil)))
    (pss_one (ps_ret pe_non)), ?_⟩
  obtain ⟨xs, hxs, hrows⟩ := hR
  have hlen := hrows.length
  refine ⟨_, rfl, a, rfl, ⟨_, SqL.of hxs⟩, for_enum (xs := xs) (fun i σ H' => ∃ z3 z4 : Option V, σ = [some (.ref bk), some (.int lot), some (.ref a), z3, z4] ∧ Same H H' ∧ ∀ j (hj : j < rs.length), j < i → serveB many bs lot rs[j] = false) ⟨_, _, rfl, Same.refl _, fun j _ hj => absurd hj (Nat.not_lt_zero _)⟩ (fun i σ H' _ h => by obtain ⟨_, _, _, S, _⟩ := h; exact SqL.of (S _ _ hxs)) ?_ ?_⟩
  · rintro i x p σ H1 hx ⟨z3, z4, rfl, S1, hno⟩ hp0
    have hi : i < rs.length := by have := (List.getElem?_eq_some_iff.mp hx).1; omega
    obtain ⟨row, hrow, hR1⟩ := paired_take hrows hx
    have erow : row = rs[i] := by rw [List.getElem?_eq_getElem hi] at hrow; exact (Option.some.inj hrow).symm
    obtain ⟨ra, rfl, hra⟩ := hR1
    have S2 := S1.trans (same_new hp0 (.tup [.int (i : Nat), .ref ra]))
    refine ⟨p, _, rfl, SqT.of upd_same, rfl, _, _, rfl, _, _, rfl, rfl, ?_⟩
    generalize upd H1 p (.tup [.int (i : Nat), .ref ra]) = H2 at S2 ⊢
    refine one_if (b := serveB many bs lot rs[i]) (fun Q h => ⟨_, rfl, _, rfl, _, rfl, bk, ra, many, bs, lot, row.1, row.2, rfl, hB.same S2, zb, h0, h1, SqT.of (S2 _ _ hra), fun H3 S3 => ⟨_, rfl, by rw [erow]; exact h _ S3⟩⟩) fun H3 S3 => ?_
    refine ite2 (fun c => ?_) (fun c => ⟨_, _, rfl, S2.trans S3, fun j hj hji => ?_⟩)
    · refine ⟨_, rfl, ?_⟩
      have e : servF many bs rs lot = some i := List.findIdx?_eq_some_iff_getElem.mpr ⟨hi, c, fun j hji => by rw [hno j (by omega) hji]; decide⟩
      have := q H3 (S2.trans S3)
      rw [e] at this; exact this
    · by_cases z : j = i
      · subst z; exact Bool.eq_false_iff.mpr c
      · exact hno j hj (by omega)
  · rintro σ H1 ⟨z3, z4, rfl, S1, hno⟩
    have e : servF many bs rs lot = none := List.findIdx?_eq_none_iff.mpr fun r hr => by
      obtain ⟨j, hj, rfl⟩ := List.getElem_of_mem hr
      exact hno j hj (by omega)
    have := q H1 S1
    rw [e] at this; exact this
abbrev n_served : List Str := ["book", "rules"]
theorem sc_served : FnScope n_served ["book", "rules"] (defScope s_served) := ⟨rfl, rfl, rfl, by decide +kernel, rfl, by decide +kernel, by decide +kernel⟩
theorem nd_served_0 : (["few", "book", "rules"] : List Str).Nodup := by decide +kernel
theorem ok_served (F : Fun K "served" "served" s_served f fd) (b : Binds K fd ["book", "rules"] []) (m : mg "served" = some (.ref f))  (G_few_rules : Dfn P w K mg base k "few_rules" ["book"] (spFew K)) (G_serving_place : Dfn P w K mg base k "serving_place" ["book", "lot", "rules"] (spServing K)) : Dfn P w K mg base (k + 1) "served" ["book", "rules"] (spServed K) := by
  refine .of F b m sc_served (fun vs H Q E h => ?_) (fun cdv A outer s H vs Q E hr h => ?_)
  · obtain ⟨bk, a, many, bs, rs, rfl, hB, zb, h0, h1, hin, hR, q⟩ := h; rfl
  obtain ⟨bk, a, many, bs, rs, rfl, hB, zb, h0, h1, hin, hR, q⟩ := h
  have nd := sc_served.nd
  have le := Nat.le_refl k
  refine ⟨_, pss_one (ps_ret (pe_compC ["few"] [0, 1] (sc := defScope s_served) (N := n_served) (.inl rfl) rfl ⟨rfl, by decide +kernel, by decide +kernel, by decide +kernel, by decide +kernel⟩ rfl (pi_list (pe_def G_few_rules hr le rfl (pa_cons (pv 0) pa_nil))) (fun cl s H C fp => (pg_name (i := 0) nd_served_0 rfl (Or.inl rfl))) (fun cl s H C fp => pifs_nil) (fun cl s H C fp => (pe_def G_serving_place hr le rfl (pa_cons (pv 1) (pa_cons (pe_ix (ix_tupK K rfl) (pv 0) pe_int (fun _ _ => rfl)) (pa_cons (pv 2) pa_nil))))))), ?_⟩
  have h4 := p12 h1
  have hfl := fewU_len many bs (2 ^ many.toNat)
  refine ⟨_, rfl, bk, many, bs, rfl, hB, zb, h0, h1, hin, fun fw xs H1 S1 hfw0 hfw hRf => ⟨fw, rfl, ⟨_, SqL.of hfw⟩, compV_rows (SqL.of hfw) hRf (fun _ => true) (fun f => optV (servF many bs rs f.1)) (by omega) (fun r t H2 hr ht S2 => turn_pick (y := optV (servF many bs rs r.1)) look_yes (fun _ H3 S3 => fun Q h => ⟨_, rfl, _, rfl, t, _, _, _, rfl, rfl, SqT.of (S3 _ _ ht), rfl, _, rfl, bk, a, many, bs, r.1, rs, rfl, hB.same (S1.trans (S2.trans S3)), zb, h0, h1, hR.same (S1.trans (S2.trans S3)), fun H4 S4 => h _ S4⟩) fun _ _ _ => rfl) (fun acc H2 hacc S2 h2 => q acc H2 (S1.trans S2) (S1.free hacc) ?_)⟩⟩
  rw [h2, filter_true]
  unfold servedF
  rw [List.map_map]; rfl
end
end OL.Q26

namespace OL.Q26
open PySem L2 OL
section
variable {P : Program} {w : World} {K : PySem.W.Frag} {mg : Str → Option Value} {base : Heap} {f : Addr} {fd : FuncData} {k : Nat}
theorem scCell : FnScope ["_law_script", "_law_k"] ["_law_script", "_law_k"] (defScope sCell) := ⟨rfl, rfl, rfl, by decide +kernel, rfl, by decide +kernel, by decide +kernel⟩
theorem ok_cell (F : Fun K "_law_cell_at" "_law_cell_at" sCell f fd) (b : Binds K fd ["_law_script", "_law_k"] []) (m : mg "_law_cell_at" = some (.ref f)) (ml : mg "len" = none) : Dfn P w K mg base (k + 1) "_law_cell_at" ["_law_script", "_law_k"] (spCell K) := by
  refine .of F b m scCell (fun vs H Q E h => ?_) (fun cdv A outer s H vs Q E hr h => ?_)
  · obtain ⟨a, ns, k, rfl, _⟩ := h; rfl
  obtain ⟨a, ns, i, rfl, hS, h0, q⟩ := h
  refine ⟨_, pss_cons (ps_if (pt_cmpR op_lt (pv 1) (pe_callB call_len_seq rfl ml PySem.boot_len (pa_cons (pv 0) pa_nil)) (nomark _)) (pss_one (ps_ret (pe_ix ix_list (pv 0) (pv 1) (fun _ _ => rfl)))) pss_nil) (pss_one (ps_ret pe_int)), ?_⟩
  refine ⟨_, rfl, _, rfl, a, _, rfl, .inl hS, _, _, rfl, rfl, _, rfl, ?_⟩
  rw [List.length_map]
  refine ite2 (fun c => ?_) (fun c => ?_)
  · have c' : i < (ns.length : Int) := of_decide_eq_true c
    exact ⟨_, rfl, _, rfl, a, _, _, _, rfl, rfl, hS, atI_int h0 c', q⟩
  · have c' : ¬ i < (ns.length : Int) := of_decide_eq_false (Bool.eq_false_iff.mpr c)
    have e : cellF ns i = 0 := by
      unfold cellF
      rw [List.getD_eq_getElem?_getD, List.getElem?_eq_none (by omega)]; rfl
    rw [e] at q
    exact q

theorem scDraws : FnScope ["_law_cell", "_law_many", "_law_base", "_law_found", "_law_left", "_law_k", "_law_number"] ["_law_cell", "_law_many", "_law_base"] (defScope sDraws) := ⟨rfl, rfl, rfl, by decide +kernel, rfl, by decide +kernel, by decide +kernel⟩
theorem ok_draws (F : Fun K "_law_draws" "_law_draws" sDraws f fd) (b : Binds K fd ["_law_cell", "_law_many", "_law_base"] []) (m : mg "_law_draws" = some (.ref f)) (ma : mg "abs" = none) (mr : mg "range" = none) : Dfn P w K mg base (k + 1) "_law_draws" ["_law_cell", "_law_many", "_law_base"] spDraws := by
  refine .of F b m scDraws (fun vs H Q E h => ?_) (fun cdv A outer s H vs Q E hr h => ?_)
  · obtain ⟨c, m, b, rfl, _⟩ := h; rfl
  obtain ⟨c, n, bs, rfl, n0, n1, b0, b1, q⟩ := h
  refine ⟨_, pss_cons (ps_set (i := 3) scDraws.nd rfl (Or.inl rfl) (pe_lst pa_nil))
    (pss_cons (ps_set (i := 4) scDraws.nd rfl (Or.inl rfl) (pv 0))
    (pss_cons (ps_for PassesOwn.never rfl (pi_range1 rfl mr (pa_cons (pv 1) pa_nil)) (pg_name (i := 5) scDraws.nd rfl (Or.inl rfl))
      (pss_one (ps_if (pw_and (pt_cmpR op_ge (pe_callB call_abs (by rfl) ma PyProof.Rows.boot_abs (pa_cons (pv 0) pa_nil)) (pe_op op_pow pe_int pe_int) (nomark _)) (pw_and (pt_cmpR op_ne (pv 4) pe_int (nomark _)) (pw_and1 (pt_cmpR op_ne (pv 4) (pe_un un_neg pe_int) (nomark _))))).pt
        (pss_cons (ps_expr (pe_bm PySem.F.plainAttrs_list PySem.F.slot_list_append PySem.F.type_list_append mt_append (pv 3) (pa_cons (pe_op op_mod (pv 4) (pv 2)) pa_nil)))
          (pss_one (ps_set (i := 4) scDraws.nd rfl (Or.inl rfl) (pe_op op_fdiv (pv 4) (pv 2)))))
        (pss_cons (ps_set (i := 6) scDraws.nd rfl (Or.inl rfl) (pe_op op_mod (pe_op op_add (pe_op op_mul (pe_op op_add (pv 0) pe_int) pe_int) (pe_op op_mul pe_int (pv 5))) pe_int))
          (pss_cons (ps_set (i := 6) scDraws.nd rfl (Or.inl rfl) (pe_op op_mod (pe_op op_add (pe_op op_add (pe_op op_mul (pv 6) (pv 6)) (pe_op op_mul pe_int (pv 5))) pe_int) pe_int))
            (pss_one (ps_expr (pe_bm PySem.F.plainAttrs_list PySem.F.slot_list_append PySem.F.type_list_append mt_append (pv 3) (pa_cons (pe_op op_mod (pe_op op_fdiv (pe_op op_mod (pe_op op_mul (pv 6) (pv 6)) pe_int) pe_int) (pv 2)) pa_nil)))))))))
    (pss_one (ps_ret (pv 3))))), ?_⟩
  refine ⟨(by show 0 ≤ sizeLine; decide), fun r hr0 => ?_⟩
  refine ⟨_, rfl, ?_⟩
  refine ⟨_, rfl, n, rfl, by omega, by omega, for_range (fun i σ H' => ∃ (ds : List Int) (left : Int) (z1 z2 : Option V), σ = [some (.int c), some (.int n), some (.int bs), some (.ref r), some (.int left), z1, z2] ∧ ds.length = i ∧ (∀ d ∈ ds, 0 ≤ d ∧ d < bs) ∧ Same H H' ∧ H' r = some (.lst (ds.map V.int)))
    ⟨[], c, none, none, rfl, rfl, (fun d hd => nomatch hd), same_new hr0 _, upd_same⟩ ?_ ?_⟩
  · rintro i σ H' hi ⟨ds, left, z1, z2, rfl, hl, hd, S, h'⟩
    have hz : (ds.map V.int).length < sizeLine := by rw [List.length_map]; exact small1000 (by omega)
    have put : ∀ (y : Int), 0 ≤ y → y < bs → ∀ d ∈ ds ++ [y], 0 ≤ d ∧ d < bs := fun y y0 y1 d hm => by
      rcases List.mem_append.mp hm with z | z
      · exact hd d z
      · have : d = y := by simpa using z
        omega
    have S2 : ∀ o, Same H (upd H' r o) := fun o b u e => by rw [upd_ne (ne_of_none e hr0)]; exact S b u e
    have e2 : ∀ y : Int, ds.map V.int ++ [.int y] = (ds ++ [y]).map V.int := fun y => by rw [List.map_append]; rfl
    have len2 : ∀ y : Int, (ds ++ [y]).length = i + 1 := fun y => by rw [List.length_append, hl]; rfl
    refine pureAnd (c := _) (d := _) (fun Q h => ⟨_, rfl, _, rfl, _, _, rfl, rfl, ⟨by decide, by decide, by decide⟩, _, _, rfl, rfl, _, rfl, h⟩) (fun _ => pureAnd (c := _) (d := _) (fun Q h => ⟨_, rfl, rfl, _, rfl, h⟩) (fun _ => fun Q h => ⟨_, rfl, _, rfl, rfl, _, rfl, h⟩)) _ ?_
    refine ite2 (fun c => ?_) (fun c => ?_)
    · refine ⟨_, rfl, .inl ⟨rfl, _, SqL.of h'⟩, _, rfl, _, rfl, _, _, rfl, rfl, b0, r, _, _, rfl, rfl, h', hz, ?_⟩
      refine ⟨_, rfl, _, rfl, _, _, rfl, rfl, ⟨b0, b1⟩, ?_⟩
      exact ⟨ds ++ [left % bs], _, _, _, rfl, len2 _, put _ (Int.emod_nonneg _ (by omega)) (Int.emod_lt_of_pos _ b0), S2 _, by rw [upd_same, e2]⟩
    · refine ⟨_, rfl, _, _, rfl, rfl, _, _, rfl, rfl, .inr ⟨by decide, by decide⟩, _, rfl, _, _, rfl, rfl, .inl ⟨by decide, by decide⟩, _, _, rfl, rfl, _, _, rfl, rfl, (by show (0 : Int) < 2147483629; decide), ?_⟩
      refine ⟨_, rfl, _, rfl, _, _, rfl, rfl, .inl (mod_ok _ (by decide) (by decide)), _, rfl, _, _, rfl, rfl, .inl ⟨by decide, by decide⟩, _, _, rfl, rfl, _, _, rfl, rfl, _, _, rfl, rfl, (by show (0 : Int) < 2147483629; decide), ?_⟩
      refine ⟨_, rfl, .inl ⟨rfl, _, SqL.of h'⟩, _, rfl, _, rfl, _, _, rfl, rfl, .inl (mod_ok _ (by decide) (by decide)), _, _, rfl, rfl, (by show (0 : Int) < 2147483587; decide), _, _, rfl, rfl, ⟨by decide, by decide⟩, _, rfl, _, _, rfl, rfl, b0, r, _, _, rfl, rfl, h', hz, ?_⟩
      exact ⟨ds ++ [_ % bs], _, _, _, rfl, len2 _, put _ (Int.emod_nonneg _ (by omega)) (Int.emod_lt_of_pos _ b0), S2 _, by rw [upd_same, e2]⟩
  · rintro σ H' ⟨ds, left, z1, z2, rfl, hl, hd, S, h'⟩
    exact ⟨_, rfl, q r H' ds S hr0 h' (by omega) hd⟩

theorem scBook : FnScope ["_law_cell", "_law_most", "_law_top", "_law_digits", "_law_many", "_law_baskets", "_law_digit", "_law_basket"] ["_law_cell", "_law_most", "_law_top"] (defScope sBook) := ⟨rfl, rfl, rfl, by decide +kernel, rfl, by decide +kernel, by decide +kernel⟩
theorem ok_book (F : Fun K "_law_book" "_law_book" sBook f fd) (b : Binds K fd ["_law_cell", "_law_most", "_law_top"] []) (m : mg "_law_book" = some (.ref f)) (ml : mg "len" = none) (G : Dfn P w K mg base k "_law_draws" ["_law_cell", "_law_many", "_law_base"] spDraws) :
    Dfn P w K mg base (k + 1) "_law_book" ["_law_cell", "_law_most", "_law_top"] spBook := by
  refine .of F b m scBook (fun vs H Q E h => ?_) (fun cdv A outer s H vs Q E hr h => ?_)
  · obtain ⟨c, most, tp, rfl, _⟩ := h; rfl
  obtain ⟨c, most, tp, rfl, m0, m1, t0, t1, q⟩ := h
  refine ⟨_, pss_cons (ps_set (i := 3) scBook.nd rfl (Or.inl rfl) (pe_def G hr (Nat.le_refl _) rfl (pa_cons (pv 0) (pa_cons (pe_op op_add pe_int (pv 2)) (pa_cons pe_int pa_nil)))))
    (pss_cons (ps_set (i := 4) scBook.nd rfl (Or.inl rfl) (pe_op op_add pe_int (pe_op op_mod (pe_ix ix_list (pv 3) pe_int (fun _ _ => rfl)) (pv 1))))
    (pss_cons (ps_set (i := 5) scBook.nd rfl (Or.inl rfl) (pe_lst pa_nil))
    (pss_cons (ps_for PassesOwn.never rfl (pi_list (pe_slice sl_list (pv 3) (po_some pe_int) (po_some (pe_op op_add pe_int (pe_op op_mod (pe_ix ix_list (pv 3) pe_int (fun _ _ => rfl)) (pe_op op_add (pv 2) pe_int)))))) (pg_name (i := 6) scBook.nd rfl (Or.inl rfl))
      (pss_cons (ps_set (i := 7) scBook.nd rfl (Or.inl rfl) (pe_op op_mod (pv 6) (pe_op op_shl pe_int (pv 4))))
      (pss_mid (ps_if (pw_and (pt_cmpR op_eq (pe_op op_mod (pe_op op_fdiv (pv 6) pe_int) pe_int) pe_int (nomark _)) (pw_and1 (pt_cmpR (op_neD hr) (pv 5) (pe_lst pa_nil) (nomark _)))).pt
        (pss_one (ps_set (i := 7) scBook.nd rfl (Or.inl rfl) (pe_ix ix_list (pv 5) (pe_op op_mod (pv 6) (pe_callB call_len_seq (by rfl) ml PySem.boot_len (pa_cons (pv 5) pa_nil))) (fun _ _ => rfl)))) pss_nil)
      (pss_mid (ps_if (pw_and (pt_cmpR op_eq (pe_op op_mod (pe_op op_fdiv (pv 6) pe_int) pe_int) pe_int (nomark _)) (pw_and1 (pt_cmpR (op_neD hr) (pv 5) (pe_lst pa_nil) (nomark _)))).pt
        (pss_one (ps_set (i := 7) scBook.nd rfl (Or.inl rfl) (pe_op op_and (pv 7) (pe_ix ix_list (pv 5) (pe_op op_mod (pe_op op_fdiv (pv 6) pe_int) (pe_callB call_len_seq (by rfl) ml PySem.boot_len (pa_cons (pv 5) pa_nil))) (fun _ _ => rfl))))) pss_nil)
      (pss_one (ps_expr (pe_bm PySem.F.plainAttrs_list PySem.F.slot_list_append PySem.F.type_list_append mt_append (pv 5) (pa_cons (pv 7) pa_nil))))))))
    (pss_one (ps_ret (pe_tup (pa_cons (pv 4) (pa_cons (pv 5) pa_nil)))))))), ?_⟩
  refine ⟨_, rfl, _, rfl, _, _, rfl, rfl, c, 2 + tp, 65536, rfl, by omega, by omega, by decide, by decide, fun d H1 ds S1 hd0 hd hlen hds => ?_⟩
  have hl2 : 2 ≤ ds.length := by omega
  have i0 : atI (ds.map V.int) 0 = some (.int (ds.getD 0 0)) := atI_int (by decide) (by omega)
  have i1 : atI (ds.map V.int) 1 = some (.int (ds.getD 1 0)) := atI_int (by decide) (by omega)
  refine ⟨_, rfl, d, _, _, _, rfl, rfl, SqL.of hd, i0, _, rfl, _, _, rfl, rfl, (by omega), _, _, rfl, rfl, ?_⟩
  have hm0 := Int.emod_nonneg (ds.getD 0 0) (show most ≠ 0 by omega)
  have hm1 := Int.emod_lt_of_pos (ds.getD 0 0) (show 0 < most by omega)
  obtain ⟨many, hmany⟩ : ∃ many, many = 1 + ds.getD 0 0 % most := ⟨_, rfl⟩
  have q1 : 1 ≤ many := by omega
  have q2 : many ≤ most := by omega
  refine ⟨(by show 0 ≤ sizeLine; decide), fun l hl0 => ?_⟩
  have hl0H : H l = none := S1.free hl0
  have S2 : Same H (upd H1 l (.lst [])) := S1.trans (same_new hl0 _)
  have hd2 : upd H1 l (.lst []) d = some (.lst (ds.map V.int)) := same_new hl0 _ _ _ hd
  have he0 := Int.emod_nonneg (ds.getD 1 0) (show tp + 1 ≠ 0 by omega)
  have he1 := Int.emod_lt_of_pos (ds.getD 1 0) (show 0 < tp + 1 by omega)
  refine ⟨_, rfl, _, rfl, _, rfl, d, _, _, _, rfl, rfl, SqL.of hd2, i1, _, rfl, _, _, rfl, rfl, _, _, rfl, rfl, (by omega), _, _, rfl, rfl, _, rfl, d, _, rfl, SqL.of hd2, fun sl hsl => ?_⟩
  rw [cut_ints]
  generalize hcut : cutI ds (some 2) (some (2 + ds.getD 1 0 % (tp + 1))) = cs
  have hcs : (cs.length : Int) ≤ tp := by
    have z := cutI_len ds 2 (2 + ds.getD 1 0 % (tp + 1)).toNat
    have e : (((2 + ds.getD 1 0 % (tp + 1)).toNat : Nat) : Int) = 2 + ds.getD 1 0 % (tp + 1) := by omega
    rw [e] at z
    have e2 : cutI ds (some ((2 : Nat) : Int)) (some (2 + ds.getD 1 0 % (tp + 1))) = cs := hcut
    rw [e2] at z
    omega
  have slne : sl ≠ l := fun e => by rw [e, upd_same] at hsl; cases hsl
  have S3 : Same H (upd (upd H1 l (.lst [])) sl (.lst (cs.map V.int))) := S2.trans (same_new hsl _)
  generalize hH3 : upd (upd H1 l (.lst [])) sl (.lst (cs.map V.int)) = H3 at S3
  have h3sl : SqL K H3 sl (cs.map V.int) := by rw [← hH3]; exact SqL.of upd_same
  have h3l : H3 l = some (.lst []) := by rw [← hH3, upd_ne (Ne.symm slne)]; exact upd_same
  refine ⟨sl, rfl, ⟨_, h3sl⟩, for_list (xs := cs.map V.int) (fun i σ H' => ∃ (bs : List Int) (z1 z2 : Option V), σ = [some (.int c), some (.int most), some (.int tp), some (.ref d), some (.int many), some (.ref l), z1, z2] ∧ bs.length = i ∧ (∀ x ∈ bs, InB many x) ∧ SameB l H3 H' ∧ H' l = some (.lst (bs.map V.int)))
    ⟨[], none, none, by rw [hmany]; rfl, rfl, (fun d hd => nomatch hd), (Same.refl _).b, h3l⟩ (fun i σ H' _ h => ?_) ?_ ?_⟩
  · obtain ⟨bs, z1, z2, _, _, _, SB, _⟩ := h
    exact SB.seq slne h3sl
  · rintro i x σ H' hx ⟨bs, z1, z2, rfl, hl, hb, SB, h'⟩
    have hi : i < cs.length := by have := (List.getElem?_eq_some_iff.mp hx).1; rwa [List.length_map] at this
    have hx' := ints_get hx
    subst hx'
    generalize hdig : cs.getD i 0 = dig
    refine ⟨_, rfl, _, rfl, _, _, rfl, rfl, ⟨by omega, by omega, by decide⟩, _, _, rfl, rfl, two_pow_pos _, ?_⟩
    refine ⟨fun σ H1 => ∃ y : Int, σ = [some (.int c), some (.int most), some (.int tp), some (.ref d), some (.int many), some (.ref l), some (.int dig), some (.int y)] ∧ InB many y ∧ Same H' H1, ?_, ?_⟩
    · refine lookAnd (c := _) (d := _) (.pure fun Q h => ⟨_, rfl, _, _, rfl, rfl, ⟨by decide, by decide⟩, _, _, rfl, rfl, (by show (0 : Int) < 4; decide), rfl, _, rfl, h⟩)
        (fun _ H1 SH => fun Q h => ⟨_, rfl, (by show 0 ≤ sizeLine; decide), fun p hp => ⟨_, _, .lst (SqL.of (same_new hp _ _ _ (SH _ _ h'))) (DRs.ints bs), .lst (SqL.of upd_same) .nil, shaped_ints bs, rfl, _, rfl, h _ (same_new hp _)⟩⟩) _ fun H1 SH => ?_
      refine ite2 (fun hc => ?_) (fun hc => ⟨_, rfl, mod_InB _ _, SH⟩)
      have hne := ne_nil (bs := bs) (by
        have := (Bool.and_eq_true_iff.mp hc).2
        exact this)
      obtain ⟨e0, e1⟩ := emod_in dig hne
      exact ⟨_, rfl, _, rfl, _, rfl, l, _, rfl, .inl (SqL.of (SH _ _ h')), _, _, rfl, rfl, pos_len hne, l, _, _, _, rfl, rfl, SqL.of (SH _ _ h'), atI_map e0 e1, _, rfl, hb _ (getD_in dig hne), SH⟩
    rintro σ' H1 ⟨y, rfl, hy, SH⟩
    refine ⟨fun σ H1 => ∃ y : Int, σ = [some (.int c), some (.int most), some (.int tp), some (.ref d), some (.int many), some (.ref l), some (.int dig), some (.int y)] ∧ InB many y ∧ Same H' H1, ?_, ?_⟩
    · refine lookAnd (c := _) (d := _) (.pure fun Q h => ⟨_, rfl, _, _, rfl, rfl, ⟨by decide, by decide⟩, _, _, rfl, rfl, (by show (0 : Int) < 4; decide), rfl, _, rfl, h⟩)
        (fun _ H2 SH2 => fun Q h => ⟨_, rfl, (by show 0 ≤ sizeLine; decide), fun p hp => ⟨_, _, .lst (SqL.of (same_new hp _ _ _ (SH2 _ _ (SH _ _ h')))) (DRs.ints bs), .lst (SqL.of upd_same) .nil, shaped_ints bs, rfl, _, rfl, h _ (same_new hp _)⟩⟩) _ fun H2 SH2 => ?_
      refine ite2 (fun hc => ?_) (fun hc => ⟨_, rfl, hy, SH.trans SH2⟩)
      have hne := ne_nil (bs := bs) (by
        have := (Bool.and_eq_true_iff.mp hc).2
        exact this)
      obtain ⟨e0, e1⟩ := emod_in (dig / 16) hne
      exact ⟨_, rfl, _, rfl, _, rfl, _, _, rfl, rfl, ⟨by decide, by decide⟩, _, rfl, l, _, rfl, .inl (SqL.of (SH2 _ _ (SH _ _ h'))), _, _, rfl, rfl, pos_len hne, l, _, _, _, rfl, rfl, SqL.of (SH2 _ _ (SH _ _ h')), atI_map e0 e1, _, _, rfl, rfl, _, rfl, hy.and (hb _ (getD_in (dig / 16) hne)), SH.trans SH2⟩
    rintro σ' H2 ⟨y, rfl, hy, SH2⟩
    refine ⟨_, rfl, .inl ⟨rfl, _, SqL.of (SH2 _ _ h')⟩, _, rfl, l, _, _, rfl, rfl, SH2 _ _ h', (by rw [List.length_map]; exact small1000 (by omega)), ?_⟩
    refine ⟨bs ++ [y], _, _, rfl, by rw [List.length_append, hl]; rfl, fun x hx => ?_, SB.trans (SH2.b.trans sameB_upd), by rw [upd_same, List.map_append]; rfl⟩
    rcases List.mem_append.mp hx with z | z
    · exact hb x z
    · have : x = y := by simpa using z
      rw [this]; exact hy
  · rintro σ H' ⟨bs, z1, z2, rfl, hl, hb, SB, h'⟩
    rw [List.length_map] at hl
    refine ⟨_, rfl, _, rfl, (by show 2 ≤ sizeLine; decide), fun p hp => ?_⟩
    have S4 : Same H H' := SB.same S3 hl0H
    exact q p l _ many bs (S4.trans (same_new hp _)) (S4.free hp) hl0H upd_same (same_new hp _ _ _ h') ⟨q1, q2, by omega, hb⟩

theorem scCloseL : FnScope ["_law_book_here", "_law_lot", "_law_found", "_law_basket"] ["_law_book_here", "_law_lot"] (defScope sCloseL) := ⟨rfl, rfl, rfl, by decide +kernel, rfl, by decide +kernel, by decide +kernel⟩
theorem ok_closeL (F : Fun K "_law_closing" "_law_closing" sCloseL f fd) (b : Binds K fd ["_law_book_here", "_law_lot"] []) (m : mg "_law_closing" = some (.ref f)) :
    Dfn P w K mg base (k + 1) "_law_closing" ["_law_book_here", "_law_lot"] (spClose K fun many bs lot => .int (closeL many bs lot)) := by
  refine .of F b m scCloseL (fun vs H Q E h => ?_) (fun cdv A outer s H vs Q E hr h => ?_)
  · obtain ⟨b, many, bs, lot, rfl, _⟩ := h; rfl
  obtain ⟨bk, many, bs, lot, rfl, hB, hz, h0, h1, q⟩ := h
  obtain ⟨l, hb, hl⟩ := hB
  refine ⟨_, pss_cons (ps_set (i := 2) scCloseL.nd rfl (Or.inl rfl) (pe_op op_sub (pe_op op_shl pe_int (pe_ix ix_tup (pv 0) pe_int (fun _ _ => rfl))) pe_int))
    (pss_cons (ps_for PassesOwn.never rfl (pi_list (pe_ix ix_tup (pv 0) pe_int (fun _ _ => rfl))) (pg_name (i := 3) scCloseL.nd rfl (Or.inl rfl))
      (pss_one (ps_if (pt_cmpR op_eq (pe_op op_and (pv 3) (pv 1)) (pv 1) (nomark _)) (pss_one (ps_set (i := 2) scCloseL.nd rfl (Or.inl rfl) (pe_op op_and (pv 2) (pv 3)))) pss_nil)))
    (pss_one (ps_ret (pv 2)))), ?_⟩
  refine ⟨_, rfl, bk, _, _, _, rfl, rfl, hb, rfl, _, _, rfl, rfl, ⟨h0, by omega, by decide⟩, _, _, rfl, rfl, ?_⟩
  refine ⟨_, rfl, bk, _, _, _, rfl, rfl, hb, rfl, l, rfl, ⟨_, hl⟩, for_list (xs := bs.map V.int) (fun i σ H' => H' = H ∧ ∃ z, σ = [some (.ref bk), some (.int lot), some (.int ((bs.take i).foldl (fun acc b => if hasF b lot then Builtin.bitAnd acc b else acc) (topF many))), z]) ⟨rfl, _, rfl⟩ (fun i σ H' _ h => by rw [h.1]; exact hl) ?_ ?_⟩
  · rintro i x σ H' hx ⟨rfl, z, rfl⟩
    have hi : i < bs.length := by have := (List.getElem?_eq_some_iff.mp hx).1; rwa [List.length_map] at this
    have hx' := ints_get hx
    subst hx'
    have e : bs.take (i + 1) = bs.take i ++ [bs.getD i 0] := by
      rw [List.getD_eq_getElem?_getD, List.getElem?_eq_getElem hi]
      exact List.take_succ_eq_append_getElem hi
    refine ⟨_, rfl, _, rfl, _, _, rfl, rfl, _, rfl, rfl, _, rfl, ?_⟩
    rw [int_eq]
    refine ite2 (fun c => ?_) (fun c => ?_)
    · refine ⟨_, rfl, _, rfl, _, _, rfl, rfl, rfl, some (.int (bs.getD i 0)), ?_⟩
      have c' : hasF (bs.getD i 0) lot = true := c
      rw [e, List.foldl_append]
      simp only [List.foldl_cons, List.foldl_nil, c', if_true]
      rfl
    · refine ⟨rfl, some (.int (bs.getD i 0)), ?_⟩
      have c' : hasF (bs.getD i 0) lot = false := by simpa [hasF] using c
      rw [e, List.foldl_append]
      simp only [List.foldl_cons, List.foldl_nil, c', Bool.false_eq_true, if_false]
      rfl
  · rintro σ H' ⟨rfl, z, rfl⟩
    rw [List.length_map, List.take_length]
    exact ⟨_, rfl, q _ (Same.refl _)⟩

theorem scWithinL : FnScope ["_law_one", "_law_other"] ["_law_one", "_law_other"] (defScope sWithinL) := ⟨rfl, rfl, rfl, by decide +kernel, rfl, by decide +kernel, by decide +kernel⟩
theorem ok_withinL (F : Fun K "_law_within" "_law_within" sWithinL f fd) (b : Binds K fd ["_law_one", "_law_other"] []) (m : mg "_law_within" = some (.ref f)) : Dfn P w K mg base (k + 1) "_law_within" ["_law_one", "_law_other"] spWithin := by
  refine .of F b m scWithinL (fun vs H Q E h => ?_) (fun cdv A outer s H vs Q E hr h => ?_)
  · obtain ⟨x, y, rfl, _⟩ := h; rfl
  obtain ⟨x, y, rfl, q⟩ := h
  refine ⟨_, pss_one (ps_ret (pe_cmpR op_eq (pe_op op_and (pv 0) (pv 1)) (pv 0) (nomark _))), _, rfl, _, rfl, _, _, rfl, rfl, _, rfl, rfl, ?_⟩
  rw [int_eq]; exact q

abbrev n_L_due : List Str := ["_law_book_here", "_law_rules", "_law_lots", "_law_found", "_law_lot", "_law_place", "_law_k", "_law_first", "_law_then", "_law_alike"]
theorem sc_L_due : FnScope n_L_due ["_law_book_here", "_law_rules", "_law_lots"] (defScope s_L_due) := ⟨rfl, rfl, rfl, by decide +kernel, rfl, by decide +kernel, by decide +kernel⟩
set_option maxHeartbeats 1000000 in
theorem ok_L_due (F : Fun K "_law_due" "_law_due" s_L_due f fd) (b : Binds K fd ["_law_book_here", "_law_rules", "_law_lots"] []) (m : mg "_law_due" = some (.ref f)) (M_range : mg "range" = none) (M_len : mg "len" = none) (G_L_closing : Dfn P w K mg base k "_law_closing" ["_law_book_here", "_law_lot"] (spClose K fun many bs lot => .int (closeL many bs lot))) (G_L_within : Dfn P w K mg base k "_law_within" ["_law_one", "_law_other"] spWithin) : Dfn P w K mg base (k + 1) "_law_due" ["_law_book_here", "_law_rules", "_law_lots"] (spDue26 K) := by
  refine .of F b m sc_L_due (fun vs H Q E h => ?_) (fun cdv A outer s H vs Q E hr h => ?_)
  · obtain ⟨bk, a, l, many, bs, ls, rs, rfl, hB, zb, h0, h1, hR, zr, hri, hl, zl, hli, q⟩ := h; rfl
  obtain ⟨bk, a, l, many, bs, ls, rs, rfl, hB, zb, h0, h1, hR, zr, hri, hl, zl, hli, q⟩ := h
  have nd := sc_L_due.nd
  have le := Nat.le_refl k
  refine ⟨_, pss_cons (ps_set (i := 3) nd rfl (Or.inl rfl) (pe_lst pa_nil))
    (pss_cons (ps_for PassesOwn.never rfl (pi_list (pv 2)) (pg_name (i := 4) nd rfl (Or.inl rfl))
      (pss_cons (ps_set (i := 5) nd rfl (Or.inl rfl) pe_non)
      (pss_cons (ps_for PassesOwn.never rfl (pi_range3 rfl M_range (pa_cons (pe_op op_sub (pe_callB call_len_seq (by rfl) M_len PySem.boot_len (pa_cons (pv 1) pa_nil)) pe_int) (pa_cons (pe_un un_neg pe_int) (pa_cons (pe_un un_neg pe_int) pa_nil)))) (pg_name (i := 6) nd rfl (Or.inl rfl))
        (pss_cons (ps_asg (pe_ix ix_list (pv 1) (pv 6) (fun _ _ => rfl)) (pg_tupK (n := 2) K rfl rfl (pgs_cons (pg_name (i := 7) nd rfl (Or.inl rfl)) (pgs_cons (pg_name (i := 8) nd rfl (Or.inl rfl)) pgs_nil))))
        (pss_cons (ps_set (i := 9) nd rfl (Or.inl rfl) (pe_cmpR op_eq (pe_def G_L_closing hr le rfl (pa_cons (pv 0) (pa_cons (pv 7) pa_nil))) (pe_def G_L_closing hr le rfl (pa_cons (pv 0) (pa_cons (pv 4) pa_nil))) (nomark _)))
        (pss_one (ps_if (PW.pt (pw_and (pt_val (pv 9)) (pw_and (pt_val (pe_def G_L_within hr le rfl (pa_cons (pv 7) (pa_cons (pv 4) pa_nil)))) (pw_and1 (pt_not (pt_val (pe_def G_L_within hr le rfl (pa_cons (pv 8) (pa_cons (pv 4) pa_nil))))))))) (pss_one (ps_set (i := 5) nd rfl (Or.inl rfl) (pv 6))) pss_nil)))))
      (pss_one (ps_expr (pe_bm PySem.F.plainAttrs_list PySem.F.slot_list_append PySem.F.type_list_append mt_append (pv 3) (pa_cons (pv 5) pa_nil)))))))
    (pss_one (ps_ret (pv 3)))), ?_⟩
  obtain ⟨xs, hxs, hrows⟩ := id hR
  have hlen := hrows.length
  refine ⟨nil_len, fun fo hfo => ?_⟩
  have S1 := same_new hfo (.lst [])
  have hf1 : upd H fo (.lst []) fo = some (.lst []) := upd_same
  generalize upd H fo (.lst []) = H1 at S1 hf1 ⊢
  dsimp only [gName]
  have hl1 := S1.seq hl
  refine ⟨_, rfl, l, rfl, ⟨_, hl1⟩, for_list (xs := ls.map V.int) (fun i σ H' => ∃ z4 z5 z6 z7 z8 z9 : Option V, σ = [some (.ref bk), some (.ref a), some (.ref l), some (.ref fo), z4, z5, z6, z7, z8, z9] ∧ SameB fo H1 H' ∧ H' fo = some (.lst (((ls.take i).map fun x => servF many bs rs x).map optV))) ⟨_, _, _, _, _, _, rfl, (Same.refl _).b, hf1⟩ (fun i σ H' _ h => by obtain ⟨_, _, _, _, _, _, _, SB, _⟩ := h; exact (SB.same S1 hfo).seq hl) ?_ ?_⟩
  · rintro i y σ H2 hy ⟨z4, z5, z6, z7, z8, z9, rfl, SB2, hf2⟩
    have hi : i < ls.length := by have := (List.getElem?_eq_some_iff.mp hy).1; rwa [List.length_map] at this
    have hyx : ls[i]? = some (ls.getD i 0) := by rw [List.getD_eq_getElem?_getD, List.getElem?_eq_getElem hi]; rfl
    have hy' := ints_get hy
    subst hy'
    have hxB := hli _ (getD_mem hi)
    generalize ls.getD i 0 = lot at hxB hyx ⊢
    have S02 : Same H H2 := SB2.same S1 hfo
    have hxs2 := S02 _ _ hxs
    have sd := small_down (L := (xs.length : Int)) (Int.natCast_nonneg _) (by omega)
    dsimp only [gName]
    refine ⟨_, rfl, a, _, rfl, .inl (SqL.of hxs2), _, _, rfl, rfl, _, rfl, _, rfl, _, _, _, rfl, ⟨by decide, by decide⟩, sd.1, by rw [sd.2]; omega, ?_⟩
    rw [sd.2, Int.toNat_natCast]
    refine for_range3 (n := xs.length) (fun j σ H' => ∃ z6 z7 z8 z9 : Option V, σ = [some (.ref bk), some (.ref a), some (.ref l), some (.ref fo), some (.int lot), some (optV (fromP (serveB many bs lot) rs (rs.length - j))), z6, z7, z8, z9] ∧ Same H2 H') ⟨_, _, _, _, by rw [Nat.sub_zero, fromP_end]; rfl, Same.refl _⟩ ?_ ?_
    · rintro j σ H3 hj ⟨z6, z7, z8, z9, rfl, S3⟩
      have hk : ((xs.length : Int) - 1 + (j : Nat) * -1) = (((rs.length - (j + 1) : Nat)) : Int) := by omega
      rw [hk]
      have hkl : rs.length - (j + 1) < rs.length := by omega
      have hstep := fromP_step (serveB many bs lot) hkl
      rw [show rs.length - (j + 1) + 1 = rs.length - j by omega] at hstep
      generalize hkk : rs.length - (j + 1) = kk at hkl hstep ⊢
      have hxk : xs[kk]? = some (xs[kk]'(by omega)) := List.getElem?_eq_getElem (by omega)
      obtain ⟨row, hrow, hR1⟩ := paired_take hrows hxk
      have erow : row = rs[kk] := by rw [List.getElem?_eq_getElem hkl] at hrow; exact (Option.some.inj hrow).symm
      obtain ⟨ra, era, hra⟩ := hR1
      rw [era] at hxk
      have S03 := S02.trans S3
      obtain ⟨rx, ry⟩ := hri _ (List.getElem_mem hkl)
      dsimp only [gName]
      refine ⟨_, rfl, _, rfl, a, _, _, _, rfl, rfl, SqL.of (S3 _ _ hxs2), atI_nat hxk, ra, _, rfl, SqT.of (S03 _ _ hra), rfl, _, _, rfl, _, _, rfl, rfl, ?_⟩
      dsimp only [gName]
      rw [erow]
      refine ⟨_, rfl, _, rfl, bk, many, bs, rs[kk].1, rfl, hB.same S03, zb, h0, by omega, fun H4 S4 => ⟨_, rfl, _, rfl, bk, many, bs, lot, rfl, hB.same (S03.trans S4), zb, h0, by omega, fun H5 S5 => ⟨rfl, ?_⟩⟩⟩
      dsimp only [gName]
      have e1 : decide (V.int (closeL many bs rs[kk].1) = V.int (closeL many bs lot)) = (closeF many bs rs[kk].1 == closeF many bs lot) := by rw [int_eq, ← close_eq, ← close_eq]
      rw [e1]
      refine one_if (b := (closeF many bs rs[kk].1 == closeF many bs lot) && (hasF lot rs[kk].1 && !hasF lot rs[kk].2)) (lookAnd (.pure fun Q h => ⟨_, rfl, ⟨_, rfl, h⟩⟩) fun _ H6 S6 => lookAnd (.pure fun Q h => ⟨_, rfl, _, rfl, _, _, rfl, ⟨_, rfl, by rw [within_has rx.1 hxB.1]; exact h⟩⟩) fun _ H7 S7 => .pure fun Q h => ⟨_, rfl, _, rfl, _, _, rfl, ⟨_, rfl, by rw [within_has ry.1 hxB.1]; exact h⟩⟩) fun H6 S6 => ?_
      have e2 : ((closeF many bs rs[kk].1 == closeF many bs lot) && (hasF lot rs[kk].1 && !hasF lot rs[kk].2)) = serveB many bs lot rs[kk] := by
        unfold serveB
        cases closeF many bs rs[kk].1 == closeF many bs lot <;> cases hasF lot rs[kk].1 <;> cases hasF lot rs[kk].2 <;> rfl
      rw [e2]
      have S26 := S3.trans (S4.trans (S5.trans S6))
      refine ite2 (fun c => ⟨_, rfl, some (.int (kk : Int)), some (.int rs[kk].1), some (.int rs[kk].2), some (.bl (closeF many bs rs[kk].1 == closeF many bs lot)), ?_, S26⟩) (fun c => ⟨some (.int (kk : Int)), some (.int rs[kk].1), some (.int rs[kk].2), some (.bl (closeF many bs rs[kk].1 == closeF many bs lot)), ?_, S26⟩)
      · rw [hstep, if_pos c]; rfl
      · rw [hstep, if_neg c]; rfl
    · rintro σ H3 ⟨z6, z7, z8, z9, rfl, S3⟩
      rw [hlen, Nat.sub_self, fromP_zero]
      have hf3 := S3 _ _ hf2
      dsimp only
      refine ⟨_, rfl, .inl ⟨rfl, _, SqL.of hf3⟩, _, rfl, fo, _, _, rfl, rfl, hf3, (by rw [List.length_map, List.length_map, List.length_take]; exact small1000 (by omega)), ?_⟩
      refine ⟨_, _, _, _, _, _, rfl, (SB2.trans S3.b).trans sameB_upd, ?_⟩
      rw [upd_same, take_at hyx, List.map_append, List.map_append]; rfl
  · rintro σ H2 ⟨z4, z5, z6, z7, z8, z9, rfl, SB2, hf2⟩
    rw [List.length_map, List.take_length] at hf2
    exact ⟨_, rfl, q fo H2 (SB2.same S1 hfo) hfo hf2⟩
abbrev n_L_drawn : List Str := ["_law_book_here", "_law_cell", "_law_found", "_law_digit"]
theorem sc_L_drawn : FnScope n_L_drawn ["_law_book_here", "_law_cell"] (defScope s_L_drawn) := ⟨rfl, rfl, rfl, by decide +kernel, rfl, by decide +kernel, by decide +kernel⟩
theorem ok_L_drawn (F : Fun K "_law_drawn" "_law_drawn" s_L_drawn f fd) (b : Binds K fd ["_law_book_here", "_law_cell"] []) (m : mg "_law_drawn" = some (.ref f))  (G_L_draws : Dfn P w K mg base k "_law_draws" ["_law_cell", "_law_many", "_law_base"] spDraws) : Dfn P w K mg base (k + 1) "_law_drawn" ["_law_book_here", "_law_cell"] (spDrawn26 K) := by
  refine .of F b m sc_L_drawn (fun vs H Q E h => ?_) (fun cdv A outer s H vs Q E hr h => ?_)
  · obtain ⟨bk, many, bs, c, rfl, hB, h0, h1, q⟩ := h; rfl
  obtain ⟨bk, many, bs, c, rfl, hB, h0, h1, q⟩ := h
  have nd := sc_L_drawn.nd
  have le := Nat.le_refl k
  refine ⟨_, pss_cons (ps_set (i := 2) nd rfl (Or.inl rfl) (pe_lst pa_nil))
    (pss_cons (ps_for PassesOwn.never rfl (pi_list (pe_def G_L_draws hr le rfl (pa_cons (pv 1) (pa_cons pe_int (pa_cons pe_int pa_nil))))) (pg_name (i := 3) nd rfl (Or.inl rfl))
      (pss_one (ps_expr (pe_bm PySem.F.plainAttrs_list PySem.F.slot_list_append PySem.F.type_list_append mt_append (pv 2) (pa_cons (pe_tup (pa_cons (pe_op op_mod (pv 3) (pe_op op_shl pe_int (pe_ix ix_tup (pv 0) pe_int (fun _ _ => rfl)))) (pa_cons (pe_op op_mod (pe_op op_fdiv (pv 3) pe_int) (pe_op op_shl pe_int (pe_ix ix_tup (pv 0) pe_int (fun _ _ => rfl)))) pa_nil))) pa_nil)))))
    (pss_one (ps_ret (pv 2)))), ?_⟩
  refine ⟨nil_len, fun fo hfo => ?_⟩
  have S1 := same_new hfo (.lst [])
  have hf1 : upd H fo (.lst []) fo = some (.lst []) := upd_same
  generalize upd H fo (.lst []) = H1 at S1 hf1 ⊢
  dsimp only [gName]
  refine ⟨_, rfl, c, 8, 65536, rfl, by decide, by decide, by decide, by decide, fun dg H2 ds S2 hdg0 hdg hdl hdd => ?_⟩
  have hf2 := S2 _ _ hf1
  have dgf : dg ≠ fo := fun e => by rw [e, hf1] at hdg0; cases hdg0
  have S02 := S1.trans S2
  refine ⟨dg, rfl, ⟨_, SqL.of hdg⟩, for_list (xs := ds.map V.int) (fun i σ H' => ∃ (z3 : Option V) (xs : List V) (rs : List (Int × Int)), σ = [some (.ref bk), some (.int c), some (.ref fo), z3] ∧ SameB fo H2 H' ∧ H' fo = some (.lst xs) ∧ Rows H' xs rs ∧ rs.length = i ∧ RsIn many rs) ⟨_, [], [], rfl, (Same.refl _).b, hf2, .nil, rfl, (fun r hr => nomatch hr)⟩ (fun i σ H' _ h => by obtain ⟨_, _, _, _, SB, _⟩ := h; exact SqL.of (SB _ _ dgf hdg)) ?_ ?_⟩
  · rintro i y σ H3 hy ⟨z3, xs, rs, rfl, SB3, hf3, hR3, hln, hri⟩
    have hi : i < ds.length := by have := (List.getElem?_eq_some_iff.mp hy).1; rwa [List.length_map] at this
    have hy' := ints_get hy
    subst hy'
    generalize ds.getD i 0 = d
    have hxl := hR3.length
    have S03 : Same H H3 := SB3.same S02 hfo
    obtain ⟨lb, hb1, hb2⟩ := hB.same S03
    dsimp only [gName]
    refine ⟨_, rfl, .inl ⟨rfl, _, SqL.of hf3⟩, _, rfl, _, rfl, bk, _, _, _, rfl, rfl, hb1, rfl, _, _, rfl, rfl, ⟨by omega, by omega, by decide⟩, _, _, rfl, rfl, two_pow_pos _, _, rfl, _, _, rfl, rfl, ⟨by decide, by decide⟩, _, rfl, bk, _, _, _, rfl, rfl, hb1, rfl, _, _, rfl, rfl, ⟨by omega, by omega, by decide⟩, _, _, rfl, rfl, two_pow_pos _, (by show 2 ≤ sizeLine; decide), fun tp htp => ?_⟩
    have m1 := mod_InB d many
    have m2 := mod_InB (d / 256) many
    dsimp only
    generalize d % (1 * 2 ^ many.toNat) = x at m1 ⊢
    generalize d / 256 % (1 * 2 ^ many.toNat) = y at m2 ⊢
    have St := same_new htp (.tup [.int x, .int y])
    have hf4 := St _ _ hf3
    refine ⟨fo, _, _, rfl, rfl, hf4, small1000 (by omega), ?_⟩
    have T5 := tsame_upd (o := .lst (xs ++ [.ref tp])) hf4
    refine ⟨_, xs ++ [.ref tp], rs ++ [(x, y)], rfl, fun u o hu e => by rw [upd_ne hu]; exact St _ _ (SB3 _ _ hu e), upd_same, Rows.snoc ((hR3.same St.t).same T5) (Row.same ⟨tp, rfl, upd_same⟩ T5), by rw [List.length_append, hln]; rfl, fun r hr => ?_⟩
    rcases List.mem_append.mp hr with w | w
    · exact hri r w
    · rw [List.mem_singleton.mp w]; exact ⟨m1, m2⟩
  · rintro σ H3 ⟨z3, xs, rs, rfl, SB3, hf3, hR3, hln, hri⟩
    rw [List.length_map] at hln
    exact ⟨_, rfl, q fo rs H3 (SB3.same S02 hfo) hfo ⟨xs, hf3, hR3⟩ (by omega) hri⟩
abbrev n_L_single : List Str := ["_law_book_here", "_law_found", "_law_lot", "_law_whole", "_law_thing"]
theorem sc_L_single : FnScope n_L_single ["_law_book_here"] (defScope s_L_single) := ⟨rfl, rfl, rfl, by decide +kernel, rfl, by decide +kernel, by decide +kernel⟩
theorem bit_gt {x : Int} (hx : 0 ≤ x) (t : Nat) : decide (Builtin.bitAnd x (1 * 2 ^ t) > 0) = hasF x (1 * 2 ^ t) := by
  rw [Bool.eq_iff_iff, decide_eq_true_eq, has_pow hx]
  have := meet_pos hx (pow_nn t)
  constructor
  · intro h
    obtain ⟨i, h1, h2⟩ := this.mp h
    rw [th_pow] at h2
    rw [← h2]; exact h1
  · intro h; exact this.mpr ⟨t, h, (th_pow t t).mpr rfl⟩
theorem bit_zero {x : Int} (hx : 0 ≤ x) (t : Nat) : (Builtin.bitAnd x (1 * 2 ^ t) == 0) = !hasF x (1 * 2 ^ t) := by
  rw [← bit_gt hx t]
  have := and_nn hx (pow_nn t)
  rw [Bool.eq_iff_iff, beq_iff_eq, Bool.not_eq_true', decide_eq_false_iff_not]
  omega
set_option maxHeartbeats 1000000 in
theorem ok_L_single (F : Fun K "_law_single" "_law_single" s_L_single f fd) (b : Binds K fd ["_law_book_here"] []) (m : mg "_law_single" = some (.ref f)) (M_range : mg "range" = none) (G_L_closing : Dfn P w K mg base k "_law_closing" ["_law_book_here", "_law_lot"] (spClose K fun many bs lot => .int (closeL many bs lot))) : Dfn P w K mg base (k + 1) "_law_single" ["_law_book_here"] (spSingle26 K) := by
  refine .of F b m sc_L_single (fun vs H Q E h => ?_) (fun cdv A outer s H vs Q E hr h => ?_)
  · obtain ⟨bk, many, bs, rfl, hB, zb, h0, h1, hin, q⟩ := h; rfl
  obtain ⟨bk, many, bs, rfl, hB, zb, h0, h1, hin, q⟩ := h
  have nd := sc_L_single.nd
  have le := Nat.le_refl k
  refine ⟨_, pss_cons (ps_set (i := 1) nd rfl (Or.inl rfl) (pe_lst pa_nil))
    (pss_cons (ps_for PassesOwn.never rfl (pi_range1 rfl M_range (pa_cons (pe_op op_shl pe_int (pe_ix ix_tup (pv 0) pe_int (fun _ _ => rfl))) pa_nil)) (pg_name (i := 2) nd rfl (Or.inl rfl))
      (pss_cons (ps_set (i := 3) nd rfl (Or.inl rfl) (pe_def G_L_closing hr le rfl (pa_cons (pv 0) (pa_cons (pv 2) pa_nil))))
      (pss_one (ps_for PassesOwn.never rfl (pi_range1 rfl M_range (pa_cons (pe_ix ix_tup (pv 0) pe_int (fun _ _ => rfl)) pa_nil)) (pg_name (i := 4) nd rfl (Or.inl rfl))
        (pss_one (ps_if (PW.pt (pw_and (pt_cmpR op_gt (pe_op op_and (pv 3) (pe_op op_shl pe_int (pv 4))) pe_int (nomark _)) (pw_and1 (pt_cmpR op_eq (pe_op op_and (pv 2) (pe_op op_shl pe_int (pv 4))) pe_int (nomark _))))) (pss_one (ps_expr (pe_bm PySem.F.plainAttrs_list PySem.F.slot_list_append PySem.F.type_list_append mt_append (pv 1) (pa_cons (pe_tup (pa_cons (pv 2) (pa_cons (pe_op op_shl pe_int (pv 4)) pa_nil))) pa_nil)))) pss_nil))))))
    (pss_one (ps_ret (pv 1)))), ?_⟩
  have h32 : (2 : Nat) ^ many.toNat ≤ 32 := Nat.pow_le_pow_right (n := 2) (i := many.toNat) (j := 5) (by decide) (by omega)
  refine ⟨nil_len, fun fo hfo => ?_⟩
  have S1 := same_new hfo (.lst [])
  have hf1 : upd H fo (.lst []) fo = some (.lst []) := upd_same
  generalize upd H fo (.lst []) = H1 at S1 hf1 ⊢
  dsimp only [gName]
  obtain ⟨lb, hb1, hb2⟩ := hB.same S1
  refine ⟨_, rfl, bk, _, _, _, rfl, rfl, hb1, rfl, _, _, rfl, rfl, ⟨by omega, by omega, by decide⟩, _, rfl, (by have := two_pow_pos many; omega), one_pow_le (by omega), ?_⟩
  rw [one_pow_toNat]
  refine for_range (n := 2 ^ many.toNat) (fun i σ H' => ∃ (z2 z3 z4 : Option V) (xs : List V) (rs : List (Int × Int)), σ = [some (.ref bk), some (.ref fo), z2, z3, z4] ∧ SameB fo H1 H' ∧ H' fo = some (.lst xs) ∧ Rows H' xs rs ∧ rs.length ≤ 5 * i ∧ RsIn many rs ∧ ∀ (p t : Nat), p < i → t < many.toNat → Th (closeF many bs (p : Int)) t → ¬ Th (p : Int) t → ((p : Int), 1 * 2 ^ t) ∈ rs) ⟨_, _, _, [], [], rfl, (Same.refl _).b, hf1, .nil, Nat.le_refl _, (fun r hr => nomatch hr), fun p t hp => absurd hp (Nat.not_lt_zero _)⟩ ?_ ?_
  · rintro i σ H2 hi ⟨z2, z3, z4, xs, rs, rfl, SB2, hf2, hR2, hl2, hri2, hhas2⟩
    rw [show (0 + (i : Int)) = (i : Int) from Int.zero_add _]
    have S02 : Same H H2 := SB2.same S1 hfo
    have hiB : InB many (i : Int) := nat_InB hi
    have hcB := close_in hin (i : Int)
    dsimp only [gName]
    refine ⟨_, rfl, _, rfl, bk, many, bs, (i : Int), rfl, hB.same S02, zb, h0, by omega, fun H3 S3 => ?_⟩
    dsimp only [gName]
    rw [← close_eq]
    have S03 := S02.trans S3
    obtain ⟨lb3, hb13, hb23⟩ := hB.same S03
    refine ⟨_, rfl, bk, _, _, _, rfl, rfl, hb13, rfl, _, rfl, by omega, by omega, ?_⟩
    refine for_range (n := many.toNat) (fun j σ H' => ∃ (z4 : Option V) (xs : List V) (rs : List (Int × Int)), σ = [some (.ref bk), some (.ref fo), some (.int (i : Int)), some (.int (closeF many bs (i : Int))), z4] ∧ SameB fo H1 H' ∧ H' fo = some (.lst xs) ∧ Rows H' xs rs ∧ rs.length ≤ 5 * i + j ∧ RsIn many rs ∧ (∀ (p t : Nat), p < i → t < many.toNat → Th (closeF many bs (p : Int)) t → ¬ Th (p : Int) t → ((p : Int), 1 * 2 ^ t) ∈ rs) ∧ ∀ t : Nat, t < j → Th (closeF many bs (i : Int)) t → ¬ Th (i : Int) t → ((i : Int), 1 * 2 ^ t) ∈ rs) ⟨_, xs, rs, rfl, fun u o hu e => S3 _ _ (SB2 _ _ hu e), S3 _ _ hf2, hR2.same S3.t, hl2, hri2, hhas2, fun t ht => absurd ht (Nat.not_lt_zero _)⟩ ?_ ?_
    · rintro j σ H4 hj ⟨z4, xs, rs, rfl, SB4, hf4, hR4, hl4, hri4, hhas4, hnow4⟩
      rw [show (0 + (j : Int)) = (j : Int) from Int.zero_add _]
      have hxl := hR4.length
      dsimp only [gName]
      refine one_if (b := hasF (closeF many bs (i : Int)) (1 * 2 ^ j) && !hasF (i : Int) (1 * 2 ^ j)) (lookAnd (.pure fun Q h => ⟨_, rfl, _, rfl, _, _, rfl, rfl, ⟨by omega, by omega, by decide⟩, _, _, rfl, rfl, _, _, rfl, rfl, _, rfl, (by rw [Int.toNat_natCast, bit_gt hcB.1]; exact h)⟩) fun _ H5 S5 => .pure fun Q h => ⟨_, rfl, _, rfl, _, _, rfl, rfl, ⟨by omega, by omega, by decide⟩, _, _, rfl, rfl, rfl, _, rfl, (by rw [Int.toNat_natCast, int_eq, bit_zero hiB.1]; exact h)⟩) fun H5 S5 => ?_
      have SB5 : SameB fo H1 H5 := fun u o hu e => S5 _ _ (SB4 _ _ hu e)
      have hf5 := S5 _ _ hf4
      have hR5 := hR4.same S5.t
      refine ite2 (fun c => ?_) (fun c => ⟨_, xs, rs, rfl, SB5, hf5, hR5, by omega, hri4, hhas4, fun t ht h1 h2 => ?_⟩)
      · refine ⟨_, rfl, .inl ⟨rfl, _, SqL.of hf5⟩, _, rfl, _, rfl, _, _, rfl, rfl, ⟨by omega, by omega, by decide⟩, (by show 2 ≤ sizeLine; decide), fun tp htp => ?_⟩
        dsimp only
        rw [Int.toNat_natCast]
        have St := same_new htp (.tup [.int (i : Int), .int (1 * 2 ^ j)])
        have hf6 := St _ _ hf5
        refine ⟨fo, _, _, rfl, rfl, hf6, small1000 (by omega), ?_⟩
        have T7 := tsame_upd (o := .lst (xs ++ [.ref tp])) hf6
        refine ⟨_, xs ++ [.ref tp], rs ++ [((i : Int), 1 * 2 ^ j)], rfl, fun u o hu e => by rw [upd_ne hu]; exact St _ _ (SB5 _ _ hu e), upd_same, Rows.snoc ((hR5.same St.t).same T7) (Row.same ⟨tp, rfl, upd_same⟩ T7), by rw [List.length_append]; show _ + 1 ≤ _; omega, fun r hr => ?_, fun p t a1 a2 a3 a4 => List.mem_append_left _ (hhas4 p t a1 a2 a3 a4), fun t ht a1 a2 => ?_⟩
        · rcases List.mem_append.mp hr with w | w
          · exact hri4 r w
          · rw [List.mem_singleton.mp w]
            exact ⟨hiB, .of_th (pow_nn j) fun u hu => by rw [th_pow] at hu; omega⟩
        · by_cases z : t = j
          · rw [z]; exact List.mem_append_right _ (by simp)
          · exact List.mem_append_left _ (hnow4 t (by omega) a1 a2)
      · by_cases z : t = j
        · subst z
          have g1 := (has_pow hcB.1 t).mpr h1
          have g2 : hasF (i : Int) (1 * 2 ^ t) = false := Bool.eq_false_iff.mpr fun y => h2 ((has_pow hiB.1 t).mp y)
          rw [g1, g2] at c
          exact absurd rfl c
        · exact hnow4 t (by omega) h1 h2
    · rintro σ H4 ⟨z4, xs, rs, rfl, SB4, hf4, hR4, hl4, hri4, hhas4, hnow4⟩
      refine ⟨_, _, _, xs, rs, rfl, SB4, hf4, hR4, by omega, hri4, fun p t a1 a2 a3 a4 => ?_⟩
      by_cases z : p = i
      · subst z; exact hnow4 t a2 a3 a4
      · exact hhas4 p t (by omega) a2 a3 a4
  · rintro σ H2 ⟨z2, z3, z4, xs, rs, rfl, SB2, hf2, hR2, hl2, hri2, hhas2⟩
    refine ⟨_, rfl, q fo rs H2 (SB2.same S1 hfo) hfo ⟨xs, hf2, hR2⟩ (by omega) hri2 (serves_single hin fun p i hp a1 a2 => ?_)⟩
    have hpn : p = ((p.toNat : Nat) : Int) := by have := hp.1; omega
    rw [hpn] at a1 a2 ⊢
    exact hhas2 p.toNat i (by have := hp.2; rw [pow_cast] at this; omega) ((close_in hin _).th a1) a1 a2
abbrev n_L_more : List Str := ["_law_book_here", "_law_rules", "_law_cell", "_law_found", "_law_digit", "_law_lot"]
theorem sc_L_more : FnScope n_L_more ["_law_book_here", "_law_rules", "_law_cell"] (defScope s_L_more) := ⟨rfl, rfl, rfl, by decide +kernel, rfl, by decide +kernel, by decide +kernel⟩
theorem rows_ins {H : Hp} {xs : List V} {rs : List (Int × Int)} {v : V} {r : Int × Int} (h : Rows H xs rs) (hv : Row H v r) (k : Nat) : Rows H (xs.take k ++ v :: xs.drop k) (rs.take k ++ r :: rs.drop k) := by
  induction h generalizing k with
  | nil => simp only [List.take_nil, List.drop_nil, List.nil_append]; exact .cons hv .nil
  | cons z t ih =>
    cases k with
    | zero => exact .cons hv (.cons z t)
    | succ k => exact .cons z (ih k)
set_option maxHeartbeats 1000000 in
theorem ok_L_more (F : Fun K "_law_more" "_law_more" s_L_more f fd) (b : Binds K fd ["_law_book_here", "_law_rules", "_law_cell"] []) (m : mg "_law_more" = some (.ref f)) (M_list : mg "list" = none) (M_len : mg "len" = none) (G_L_draws : Dfn P w K mg base k "_law_draws" ["_law_cell", "_law_many", "_law_base"] spDraws) (G_L_closing : Dfn P w K mg base k "_law_closing" ["_law_book_here", "_law_lot"] (spClose K fun many bs lot => .int (closeL many bs lot))) : Dfn P w K mg base (k + 1) "_law_more" ["_law_book_here", "_law_rules", "_law_cell"] (spMore26 K) := by
  refine .of F b m sc_L_more (fun vs H Q E h => ?_) (fun cdv A outer s H vs Q E hr h => ?_)
  · obtain ⟨bk, a, many, bs, rs, c, rfl, hB, zb, h0, h1, hin, hR, zr, hri, q⟩ := h; rfl
  obtain ⟨bk, a, many, bs, rs, c, rfl, hB, zb, h0, h1, hin, hR, zr, hri, q⟩ := h
  have nd := sc_L_more.nd
  have le := Nat.le_refl k
  refine ⟨_, pss_cons (ps_set (i := 3) nd rfl (Or.inl rfl) (pe_callTy call_list_of (by rfl) M_list PyProof.Rows.boot_list (pa_cons (pv 1) pa_nil)))
    (pss_cons (ps_for PassesOwn.never rfl (pi_list (pe_def G_L_draws hr le rfl (pa_cons (pv 2) (pa_cons pe_int (pa_cons pe_int pa_nil))))) (pg_name (i := 4) nd rfl (Or.inl rfl))
      (pss_cons (ps_set (i := 5) nd rfl (Or.inl rfl) (pe_op op_mod (pv 4) (pe_op op_shl pe_int (pe_ix ix_tup (pv 0) pe_int (fun _ _ => rfl)))))
      (pss_one (ps_expr (pe_bm PySem.F.plainAttrs_list PySem.F.slot_list_insert PySem.F.type_list_insert mt_insert (pv 3) (pa_cons (pe_op op_mod (pe_op op_fdiv (pv 4) pe_int) (pe_op op_add (pe_callB call_len_seq (by rfl) M_len PySem.boot_len (pa_cons (pv 3) pa_nil)) pe_int)) (pa_cons (pe_tup (pa_cons (pv 5) (pa_cons (pe_def G_L_closing hr le rfl (pa_cons (pv 0) (pa_cons (pv 5) pa_nil))) pa_nil))) pa_nil)))))))
    (pss_one (ps_ret (pv 3)))), ?_⟩
  obtain ⟨xr, hxr, hrows⟩ := id hR
  have hxl := hrows.length
  refine ⟨_, rfl, a, _, rfl, .inl (SqL.of hxr), fun fo hfo => ?_⟩
  have S1 := same_new hfo (.lst xr)
  have hf1 : upd H fo (.lst xr) fo = some (.lst xr) := upd_same
  generalize upd H fo (.lst xr) = H1 at S1 hf1 ⊢
  dsimp only [gName]
  refine ⟨_, rfl, c, 5, 4096, rfl, by decide, by decide, by decide, by decide, fun dg H2 ds S2 hdg0 hdg hdl hdd => ?_⟩
  have hf2 := S2 _ _ hf1
  have dgf : dg ≠ fo := fun e => by rw [e, hf1] at hdg0; cases hdg0
  have S02 := S1.trans S2
  refine ⟨dg, rfl, ⟨_, SqL.of hdg⟩, for_list (xs := ds.map V.int) (fun i σ H' => ∃ (z4 z5 : Option V) (xs : List V) (rs' : List (Int × Int)), σ = [some (.ref bk), some (.ref a), some (.int c), some (.ref fo), z4, z5] ∧ SameB fo H2 H' ∧ H' fo = some (.lst xs) ∧ Rows H' xs rs' ∧ rs'.length ≤ rs.length + i ∧ RsIn many rs' ∧ ∀ x ∈ rs, x ∈ rs') ⟨_, _, xr, rs, rfl, (Same.refl _).b, hf2, hrows.same S02.t, Nat.le_refl _, hri, fun x hx => hx⟩ (fun i σ H' _ h => by obtain ⟨_, _, _, _, _, SB, _⟩ := h; exact SqL.of (SB _ _ dgf hdg)) ?_ ?_⟩
  · rintro i y σ H3 hy ⟨z4, z5, xs, rs', rfl, SB3, hf3, hR3, hln, hri3, hsub⟩
    have hi : i < ds.length := by have := (List.getElem?_eq_some_iff.mp hy).1; rwa [List.length_map] at this
    have hy' := ints_get hy
    subst hy'
    generalize ds.getD i 0 = d
    have hxl3 := hR3.length
    have S03 : Same H H3 := SB3.same S02 hfo
    obtain ⟨lb, hb1, hb2⟩ := hB.same S03
    dsimp only [gName]
    refine ⟨_, rfl, _, rfl, bk, _, _, _, rfl, rfl, hb1, rfl, _, _, rfl, rfl, ⟨by omega, by omega, by decide⟩, _, _, rfl, rfl, two_pow_pos _, ?_⟩
    have m1 := mod_InB d many
    dsimp only [gName]
    generalize d % (1 * 2 ^ many.toNat) = x at m1 ⊢
    have e0 := Int.emod_nonneg (d / 64) (show ((xs.length : Nat) : Int) + 1 ≠ 0 by omega)
    have e1 := Int.emod_lt_of_pos (d / 64) (show (0 : Int) < ((xs.length : Nat) : Int) + 1 by omega)
    refine ⟨_, rfl, .inl ⟨rfl, _, SqL.of hf3⟩, _, rfl, _, _, rfl, rfl, ⟨by decide, by decide⟩, _, rfl, fo, _, rfl, .inl (SqL.of hf3), _, _, rfl, rfl, _, _, rfl, rfl, (by omega), _, rfl, _, rfl, _, rfl, bk, many, bs, x, rfl, hB.same S03, zb, h0, by omega, fun H4 S4 => ⟨(by show 2 ≤ sizeLine; decide), fun tp htp => ?_⟩⟩
    dsimp only
    rw [← close_eq]
    have St := same_new htp (.tup [.int x, .int (closeF many bs x)])
    have hf5 := St _ _ (S4 _ _ hf3)
    have S35 := S4.trans St
    refine ⟨fo, _, _, _, rfl, rfl, hf5, e0, by omega, by omega, ?_⟩
    dsimp only
    generalize (d / 64 % (((xs.length : Nat) : Int) + 1)).toNat = kk
    have T6 := tsame_upd (o := .lst (xs.take kk ++ .ref tp :: xs.drop kk)) hf5
    refine ⟨_, _, xs.take kk ++ .ref tp :: xs.drop kk, rs'.take kk ++ (x, closeF many bs x) :: rs'.drop kk, rfl, fun u o hu e => by rw [upd_ne hu]; exact S35 _ _ (SB3 _ _ hu e), upd_same, rows_ins ((hR3.same S35.t).same T6) (Row.same ⟨tp, rfl, upd_same⟩ T6) kk, by rw [List.length_append, List.length_cons, List.length_take, List.length_drop]; omega, fun r hr => ?_, fun r hr => ?_⟩
    · rcases List.mem_append.mp hr with w | w
      · exact hri3 r (List.mem_of_mem_take w)
      · rcases List.mem_cons.mp w with w | w
        · rw [w]; exact ⟨m1, close_in hin x⟩
        · exact hri3 r (List.mem_of_mem_drop w)
    · have := hsub r hr
      rw [← List.take_append_drop kk rs'] at this
      rcases List.mem_append.mp this with w | w
      · exact List.mem_append_left _ w
      · exact List.mem_append_right _ (.tail _ w)
  · rintro σ H3 ⟨z4, z5, xs, rs', rfl, SB3, hf3, hR3, hln, hri3, hsub⟩
    rw [List.length_map] at hln
    exact ⟨_, rfl, q fo rs' H3 (SB3.same S02 hfo) hfo ⟨xs, hf3, hR3⟩ (by omega) hri3 hsub⟩
end
end OL.Q26

namespace OL.Q26
open PySem L2 OL
section
variable {P : Program} {w : World} {K : PySem.W.Frag} {mg : Str → Option Value} {base : Heap} {f : Addr} {fd : FuncData} {k : Nat}
abbrev n_law : List Str := ["_law_script", "_law_early", "_law_k", "_law_book_here", "_law_kept", "_law_cell", "_law_few", "_law_lots", "_law_rules", "_law_handed", "_law_told", "_law_due_here", "_law_at", "_law_others"]
theorem sc_law : FnScope n_law ["_law_script"] (defScope s_law) := ⟨rfl, rfl, rfl, by decide +kernel, rfl, by decide +kernel, by decide +kernel⟩
theorem nd_law_0 : (["_law_rule"] : List Str).Nodup := by decide +kernel
theorem nd_law_1 : (["_law_told", "_law_due_here"] : List Str).Nodup := by decide +kernel
set_option maxHeartbeats 8000000 in
theorem ok_law (F : Fun K "law" "law" s_law f fd) (M_range : mg "range" = none) (M_len : mg "len" = none) (M_min : mg "min" = none) (M_max : mg "max" = none) (M_list : mg "list" = none) (M_str : mg "str" = none) (M_isinstance : mg "isinstance" = none) (M_set : mg "set" = none) (M_all : mg "all" = none) (G_L_book : Dfn P w K mg base k "_law_book" ["_law_cell", "_law_most", "_law_top"] spBook) (G_L_cell_at : Dfn P w K mg base k "_law_cell_at" ["_law_script", "_law_k"] (spCell K)) (G_few_rules : Dfn P w K mg base k "few_rules" ["book"] (spFew K)) (G_L_more : Dfn P w K mg base k "_law_more" ["_law_book_here", "_law_rules", "_law_cell"] (spMore26 K)) (G_L_single : Dfn P w K mg base k "_law_single" ["_law_book_here"] (spSingle26 K)) (G_served : Dfn P w K mg base k "served" ["book", "rules"] (spServed K)) (G_L_due : Dfn P w K mg base k "_law_due" ["_law_book_here", "_law_rules", "_law_lots"] (spDue26 K)) (G_L_drawn : Dfn P w K mg base k "_law_drawn" ["_law_book_here", "_law_cell"] (spDrawn26 K)) (G_follows : Dfn P w K mg base k "follows" ["rules", "rule"] (spFollows K)) : FnOk P w K mg base CX0 (k + 1) f fd ["_law_script"] (spLaw K) := by
  refine F.ok sc_law (fun vs H Q E h => ?_) (fun cdv A outer s H vs Q E hr h => ?_)
  · obtain ⟨a, ns, rfl, hS, h63, q⟩ := h; rfl
  obtain ⟨a, ns, rfl, hS, h63, q⟩ := h
  have nd := sc_law.nd
  have le := Nat.le_refl k
  refine ⟨_, pss_cons (ps_set (i := 1) nd rfl (Or.inl rfl) (pe_lst pa_nil))
    (pss_cons (ps_for PassesOwn.never rfl (pi_range3 rfl M_range (pa_cons pe_int (pa_cons (pe_callB (call_max2 rfl) (by rfl) M_max PyProof.Rows.boot_max (pa_cons pe_int (pa_cons (pe_callB (call_min2 rfl) (by rfl) M_min PyProof.Rows.boot_min (pa_cons pe_int (pa_cons (pe_op op_sub (pe_callB call_len_seq (by rfl) M_len PySem.boot_len (pa_cons (pv 0) pa_nil)) pe_int) pa_nil))) pa_nil))) (pa_cons pe_int pa_nil)))) (pg_name (i := 2) nd rfl (Or.inl rfl))
      (pss_cons (ps_set (i := 3) nd rfl (Or.inl rfl) (pe_def G_L_book hr le rfl (pa_cons (pe_def G_L_cell_at hr le rfl (pa_cons (pv 0) (pa_cons (pv 2) pa_nil))) (pa_cons pe_int (pa_cons pe_int pa_nil)))))
      (pss_cons (ps_set (i := 4) nd rfl (Or.inl rfl) (pe_tup (pa_cons (pe_ix ix_tup (pv 3) pe_int (fun _ _ => rfl)) (pa_cons (pe_callTy call_list_of (by rfl) M_list PyProof.Rows.boot_list (pa_cons (pe_ix ix_tup (pv 3) pe_int (fun _ _ => rfl)) pa_nil)) pa_nil))))
      (pss_cons (ps_set (i := 5) nd rfl (Or.inl rfl) (pe_def G_L_cell_at hr le rfl (pa_cons (pv 0) (pa_cons (pe_op op_add (pv 2) pe_int) pa_nil))))
      (pss_cons (ps_set (i := 6) nd rfl (Or.inl rfl) (pe_def G_few_rules hr le rfl (pa_cons (pv 3) pa_nil)))
      (pss_cons (ps_setCompC (i := 7) nd rfl rfl ["_law_rule"] [] (sc := defScope s_law) (N := n_law) (.inl rfl) rfl ⟨rfl, by decide +kernel, by decide +kernel, by decide +kernel, by decide +kernel⟩ rfl (pi_list (pv 6)) (fun cl s H C fp => (pg_name (i := 0) nd_law_0 rfl (Or.inl rfl))) (fun cl s H C fp => pifs_nil) (fun cl s H C fp => (pe_ix (ix_tupK K rfl) (pv 0) pe_int (fun _ _ => rfl))) rfl)
      (pss_cons (ps_for PassesOwn.never rfl (pi_list (pe_lst (pa_cons (pv 6) (pa_cons (pe_rev (pv 6) (po_some (pe_un un_neg pe_int))) (pa_cons (pe_def G_L_more hr le rfl (pa_cons (pv 4) (pa_cons (pv 6) (pa_cons (pv 5) pa_nil)))) (pa_cons (pe_def G_L_single hr le rfl (pa_cons (pv 4) pa_nil)) pa_nil)))))) (pg_name (i := 8) nd rfl (Or.inl rfl))
        (pss_cons (ps_set (i := 9) nd rfl (Or.inl rfl) (pe_callTy call_list_of (by rfl) M_list PyProof.Rows.boot_list (pa_cons (pv 8) pa_nil)))
        (pss_cons (ps_set (i := 10) nd rfl (Or.inl rfl) (pe_def G_served hr le rfl (pa_cons (pv 3) (pa_cons (pv 9) pa_nil))))
        (pss_cons (ps_set (i := 11) nd rfl (Or.inl rfl) (pe_def G_L_due hr le rfl (pa_cons (pv 4) (pa_cons (pv 8) (pa_cons (pv 7) pa_nil)))))
        (pss_cons (ps_if (PW.pt (pw_or (pt_not (pt_val (pe_callB call_isinst (by rfl) M_isinstance PyProof.Rows.boot_isinstance (pa_cons (pv 10) (pa_cons (pe_bltn (v := .ty "list") (by rfl) M_list PyProof.Rows.boot_list rfl) pa_nil))))) (pw_or (pt_cmpR op_ne (pe_callTy (call_strD hr) (by rfl) M_str PyProof.Rows.boot_str (pa_cons (pv 10) pa_nil)) (pe_callTy (call_strD hr) (by rfl) M_str PyProof.Rows.boot_str (pa_cons (pv 11) pa_nil)) (nomark _)) (pw_or (pt_cmpR (op_neD hr) (pv 9) (pv 8) (nomark _)) (pw_or1 (pt_cmpR (op_neD hr) (pv 3) (pv 4) (nomark _))))))) (pss_one (ps_ret pe_bl)) pss_nil)
        (pss_cons (ps_expr (pe_bm PySem.F.plainAttrs_list PySem.F.slot_list_append PySem.F.type_list_append mt_append (pv 10) (pa_cons pe_non pa_nil)))
        (pss_cons (ps_set (i := 10) nd rfl (Or.inl rfl) (pe_def G_served hr le rfl (pa_cons (pv 3) (pa_cons (pv 9) pa_nil))))
        (pss_one (ps_if (PW.pt (pw_or (pt_cmpR op_in_seq pe_non (pv 10) (by rfl)) (pw_or (pt_cmpR op_ne (pe_lenSet rfl rfl M_len rfl M_set (pa_cons (pv 10) pa_nil)) (pe_callB call_len_seq (by rfl) M_len PySem.boot_len (pa_cons (pv 10) pa_nil)) (nomark _)) (pw_or1 (pt_cmpR op_lt (pe_callB call_len_seq (by rfl) M_len PySem.boot_len (pa_cons (pv 8) pa_nil)) (pe_callB call_len_seq (by rfl) M_len PySem.boot_len (pa_cons (pv 6) pa_nil)) (nomark _)))))) (pss_one (ps_ret pe_bl)) pss_nil)))))))))
      (pss_cons (ps_expr (pe_bm PySem.F.plainAttrs_list PySem.F.slot_list_append PySem.F.type_list_append mt_append (pv 1) (pa_cons (pe_tup (pa_cons (pe_def G_served hr le rfl (pa_cons (pv 3) (pa_cons (pe_callTy call_list_of (by rfl) M_list PyProof.Rows.boot_list (pa_cons (pv 6) pa_nil)) pa_nil))) (pa_cons (pe_def G_L_due hr le rfl (pa_cons (pv 4) (pa_cons (pv 6) (pa_cons (pv 7) pa_nil)))) pa_nil))) pa_nil)))
      (pss_cons (ps_set (i := 8) nd rfl (Or.inl rfl) (pe_def G_L_drawn hr le rfl (pa_cons (pv 4) (pa_cons (pv 5) pa_nil))))
      (pss_cons (ps_if (pt_cmpR (op_neD hr) (pe_def G_served hr le rfl (pa_cons (pv 3) (pa_cons (pe_callTy call_list_of (by rfl) M_list PyProof.Rows.boot_list (pa_cons (pv 8) pa_nil)) pa_nil))) (pe_def G_L_due hr le rfl (pa_cons (pv 4) (pa_cons (pv 8) (pa_cons (pv 7) pa_nil)))) (nomark _)) (pss_one (ps_ret pe_bl)) pss_nil)
      (pss_one (ps_if (pt_cmpR (op_neD hr) (pv 6) (pe_lst pa_nil) (nomark _)) (pss_cons (ps_set (i := 12) nd rfl (Or.inl rfl) (pe_op op_mod (pv 5) (pe_callB call_len_seq (by rfl) M_len PySem.boot_len (pa_cons (pv 6) pa_nil))))
        (pss_cons (ps_set (i := 13) nd rfl (Or.inl rfl) (pe_op op_cat (pe_slice sl_list (pv 6) po_none (po_some (pv 12))) (pe_slice sl_list (pv 6) (po_some (pe_op op_add (pv 12) pe_int)) po_none)))
        (pss_one (ps_if (PW.pt (pw_or (pt_cmpR op_notN (pe_ix ix_list (pe_def G_served hr le rfl (pa_cons (pv 3) (pa_cons (pv 13) pa_nil))) (pv 12) (fun _ _ => rfl)) pe_non (nomark _)) (pw_or1 (pt_cmpR op_ne (pe_ix ix_tup (pe_def G_follows hr le rfl (pa_cons (pv 13) (pa_cons (pe_ix ix_list (pv 6) (pv 12) (fun _ _ => rfl)) pa_nil))) pe_int (fun _ _ => rfl)) pe_str (nomark _))))) (pss_one (ps_ret pe_bl)) pss_nil)))) pss_nil))))))))))))
    (pss_one (ps_ret (pe_callB (call_allB rfl) (by rfl) M_all PyProof.Rows.boot_all (pa_cons (pe_compC ["_law_told", "_law_due_here"] [] (sc := defScope s_law) (N := n_law) (.inl rfl) rfl ⟨rfl, by decide +kernel, by decide +kernel, by decide +kernel, by decide +kernel⟩ rfl (pi_list (pv 1)) (fun cl s H C fp => (pg_tupK (n := 2) K rfl rfl (pgs_cons (pg_name (i := 0) nd_law_1 rfl (Or.inl rfl)) (pgs_cons (pg_name (i := 1) nd_law_1 rfl (Or.inl rfl)) pgs_nil)))) (fun cl s H C fp => pifs_nil) (fun cl s H C fp => (pe_cmpR (op_eqDK K rfl hr) (pv 0) (pv 1) (nomark _)))) pa_nil))))), ?_⟩
  have big : ∀ L : Int, 0 ≤ (if (if L - 1 < 16 then L - 1 else 16) > 2 then (if L - 1 < 16 then L - 1 else 16) else 2) ∧ (if (if L - 1 < 16 then L - 1 else 16) > 2 then (if L - 1 < 16 then L - 1 else 16) else 2) ≤ 60 := fun L => by
    split <;> (try split) <;> omega
  refine ⟨nil_len, fun e he => ?_⟩
  have S0 := same_new he (.lst [])
  refine ⟨_, rfl, a, _, rfl, .inl (S0.seq hS), _, _, rfl, rfl, _, _, rfl, _, _, rfl, _, _, _, rfl, ⟨by decide, by decide⟩, (small_two (big _).1 (Int.lt_of_le_of_lt (big _).2 (by decide))).1, (small_two (big _).1 (Int.lt_of_le_of_lt (big _).2 (by decide))).2,
    for_range3 (fun i σ H' => ∃ (es : List V) (z2 z3 z4 z5 z6 z7 z8 z9 z10 z11 z12 z13 : Option V), σ = [some (.ref a), some (.ref e), z2, z3, z4, z5, z6, z7, z8, z9, z10, z11, z12, z13] ∧ Same H H' ∧ H' e = some (.lst es) ∧ es.length = i ∧ ∀ x ∈ es, PairO H' e x) ⟨[], _, _, _, _, _, _, _, _, _, _, _, _, rfl, S0, upd_same, rfl, (fun x hx => nomatch hx)⟩ ?_ ?_⟩
  rotate_left
  · rintro σ H' ⟨es, z2, z3, z4, z5, z6, z7, z8, z9, z10, z11, z12, z13, rfl, S1, he1, hlen, hpairs⟩
    have hes : es.length ≤ 60 := by rw [hlen]; exact rs_two (big _).1 (big _).2
    refine ⟨_, rfl, e, rfl, ⟨_, SqL.of he1⟩, comp_list (xs := es) (SqL.of he1) (fun j => List.replicate j (.bl true)) rfl (fun acc j x H2 hacc hj hx S h0 => ?_) (fun acc H2 hacc S h0 => ?_)⟩
    · obtain ⟨p, t, d, os, rfl, _, _, hp, ht, hd⟩ := hpairs x (List.mem_of_getElem? hx)
      refine ⟨p, _, rfl, SqT.of (S _ _ hp), rfl, _, _, rfl, _, _, rfl, rfl, Wk.set (i := 1) ((Wk.refl _).set (i := 0) (by decide)) (by decide), yes_of ?_⟩
      refine ⟨_, rfl, _, rfl, eq_data (opt_dr (S _ _ ht)) (opt_dr (S _ _ hd)) (opt_shaped _) (opt_eqv _) (cput hj hacc S h0 (Same.refl _) (rep_succ j) ?_)⟩
      rw [List.length_replicate]; exact small1000 (by omega)
    · refine ⟨acc, List.replicate es.length true, rfl, SqL.of (by rw [List.map_replicate]; exact h0), ?_⟩
      rw [rep_all]; exact q H2
  rintro i σ H1 hi ⟨es, z2, z3, z4, z5, z6, z7, z8, z9, z10, z11, z12, z13, rfl, S1, he1, hlen, hpairs⟩
  have hi60 : i ≤ 60 := Nat.le_of_lt (Nat.lt_of_lt_of_le hi (rs_two (big _).1 (big _).2))
  have hS1 := S1.seq hS
  dsimp only [gName]
  refine ⟨_, rfl, _, rfl, a, ns, _, rfl, hS1, by omega, ?_⟩
  generalize cellF ns (0 + (i : Int) * 2) = c
  refine ⟨c, 5, 10, rfl, by decide, by decide, by decide, by decide, fun bk bl H2 many bs S2 hbk0 hbl0 hbk hbl hok => ?_⟩
  have m1 := hok.lo
  have m5 : many ≤ 5 := hok.hi
  have hin := hok.bas
  have zb : bs.length ≤ 10 := by have := hok.len; omega
  have h32 : (2 : Nat) ^ many.toNat ≤ 32 := Nat.pow_le_pow_right (n := 2) (i := many.toNat) (j := 5) (by decide) (by omega)
  dsimp only [gName]
  refine ⟨_, rfl, bk, _, _, _, rfl, rfl, SqT.of hbk, rfl, _, rfl, bk, _, _, _, rfl, rfl, SqT.of hbk, rfl, bl, _, rfl, .inl (SqL.of hbl), fun kl hkl => ⟨(by show 2 ≤ sizeLine; decide), fun kp hkp => ?_⟩⟩
  have S3 := (same_new hkl (.lst (bs.map V.int))).trans (same_new hkp (.tup [.int many, .ref kl]))
  have hkl3 := (same_new hkp (.tup [.int many, .ref kl])) _ _ (upd_same (H := H2) (a := kl) (o := .lst (bs.map V.int)))
  have hkp3 : upd (upd H2 kl (.lst (bs.map V.int))) kp (.tup [.int many, .ref kl]) kp = some (.tup [.int many, .ref kl]) := upd_same
  generalize upd (upd H2 kl (.lst (bs.map V.int))) kp (.tup [.int many, .ref kl]) = H3 at S3 hkl3 hkp3 ⊢
  have hB3 : Bk K H3 bk many bs := ⟨bl, SqT.of (S3 _ _ hbk), SqL.of (S3 _ _ hbl)⟩
  have hK3 : Bk K H3 kp many bs := ⟨kl, SqT.of hkp3, SqL.of hkl3⟩
  have S13 := S2.trans S3
  dsimp only [gName]
  refine ⟨_, rfl, _, rfl, _, _, rfl, rfl, a, ns, _, rfl, S13.seq hS1, by omega, ?_⟩
  generalize cellF ns (0 + (i : Int) * 2 + 1) = c2
  dsimp only [gName]
  refine ⟨_, rfl, bk, many, bs, rfl, hB3, by omega, by omega, by omega, hin, fun fw xf H4 S4 hfw0 hfw hRf => ?_⟩
  have hfl := fewU_len many bs (2 ^ many.toNat)
  have hfin : RsIn many (fewU many bs (2 ^ many.toNat)) := fun r hr => few_InB hin hr
  dsimp only [gName]
  refine ⟨_, rfl, fw, rfl, ⟨_, SqL.of hfw⟩, compV_rows (SqL.of hfw) hRf (fun _ => true) (fun r => .int r.1) (by omega) (fun m u H5 hm hu S => turn_pick (y := .int m.1) look_yes (fun _ H6 S6 => .pure fun Q h => ⟨_, rfl, u, _, _, _, rfl, rfl, SqT.of (S6 _ _ hu), rfl, h⟩) fun _ _ _ => rfl) (fun lo H5 hlo0 S5 hlo => ?_)⟩
  rw [filter_true] at hlo
  have hlo : H5 lo = some (.lst (((fewU many bs (2 ^ many.toNat)).map Prod.fst).map V.int)) := by rw [hlo, List.map_map]; rfl
  have hlin : ∀ x ∈ (fewU many bs (2 ^ many.toNat)).map Prod.fst, InB many x := fun x hx => by
    obtain ⟨r, hr, rfl⟩ := List.mem_map.mp hx
    exact (hfin r hr).1
  have hll : ((fewU many bs (2 ^ many.toNat)).map Prod.fst).length ≤ 32 := by rw [List.length_map]; omega
  have S35 := S4.trans S5
  have hB5 := hB3.same S35
  have hK5 := hK3.same S35
  have hfw5 := S5 _ _ hfw
  have hRf5 := hRf.same S5.t
  have hRL5 : RL H5 fw (fewU many bs (2 ^ many.toNat)) := ⟨xf, hfw5, hRf5⟩
  have hxf := hRf.length
  dsimp only [gName]
  -- the four lists
  refine ⟨_, rfl, _, rfl, _, rfl, _, rfl, fw, _, rfl, rfl, SqL.of hfw5, fun rv hrv => ?_⟩
  have S6 := same_new hrv (.lst xf.reverse)
  have hrv6 : upd H5 rv (.lst xf.reverse) rv = some (.lst xf.reverse) := upd_same
  generalize upd H5 rv (.lst xf.reverse) = H6 at S6 hrv6 ⊢
  refine ⟨_, rfl, _, rfl, _, rfl, kp, fw, many, bs, _, c2, rfl, hK5.same S6, by omega, by omega, by omega, hin, hRL5.same S6, by omega, hfin, fun mo rm H7 S7 hmo0 hRm hml hmi hms => ?_⟩
  refine ⟨_, rfl, kp, many, bs, rfl, hK5.same (S6.trans S7), by omega, by omega, m5, hin, fun si rsi H8 S8 hsi0 hRs hsl hsi hss => ⟨(by show 4 ≤ sizeLine; decide), fun l4 hl4 => ?_⟩⟩
  have S9 := same_new hl4 (.lst [.ref fw, .ref rv, .ref mo, .ref si])
  have hl49 : upd H8 l4 (.lst [.ref fw, .ref rv, .ref mo, .ref si]) l4 = some (.lst [.ref fw, .ref rv, .ref mo, .ref si]) := upd_same
  generalize upd H8 l4 (.lst [.ref fw, .ref rv, .ref mo, .ref si]) = H9 at S9 hl49 ⊢
  have S59 := S6.trans (S7.trans (S8.trans S9))
  have four : ∀ x ∈ ([.ref fw, .ref rv, .ref mo, .ref si] : List V), ∃ (rr : Addr) (rs : List (Int × Int)), x = .ref rr ∧ RL H9 rr rs ∧ rs.length ≤ 200 ∧ RsIn many rs ∧ Serves many bs rs := fun x hx => by
    rcases List.mem_cons.mp hx with rfl | hx
    · exact ⟨fw, _, rfl, hRL5.same S59, by omega, hfin, serves_few hin⟩
    rcases List.mem_cons.mp hx with rfl | hx
    · exact ⟨rv, (fewU many bs (2 ^ many.toNat)).reverse, rfl, ⟨xf.reverse, (S7.trans (S8.trans S9)) _ _ hrv6, rows_rev (hRf5.same S59.t)⟩, by rw [List.length_reverse]; omega, fun r hr => hfin r (List.mem_reverse.mp hr), serves_sub hin fun r hr => List.mem_reverse.mpr hr⟩
    rcases List.mem_cons.mp hx with rfl | hx
    · exact ⟨mo, rm, rfl, hRm.same (S8.trans S9), by omega, hmi, serves_sub hin hms⟩
    · rw [List.mem_singleton.mp hx]
      exact ⟨si, rsi, rfl, hRs.same S9, hsl, hsi, hss⟩
  have hB9 := hB5.same S59
  have hK9 := hK5.same S59
  have hlo9 := S59 _ _ hlo
  have hbk9 := (S3.trans (S35.trans S59)) _ _ hbk
  have hbl9 := (S3.trans (S35.trans S59)) _ _ hbl
  have hkp9 := (S35.trans S59) _ _ hkp3
  have hkl9 := (S35.trans S59) _ _ hkl3
  refine ⟨l4, rfl, ⟨_, SqL.of hl49⟩, for_list (xs := [.ref fw, .ref rv, .ref mo, .ref si]) (fun j σ H' => ∃ (z8 z9 z10 z11 : Option V), σ = [some (.ref a), some (.ref e), some (.int (0 + (i : Int) * 2)), some (.ref bk), some (.ref kp), some (.int c2), some (.ref fw), some (.ref lo), z8, z9, z10, z11, z12, z13] ∧ Same H9 H') ⟨_, _, _, _, rfl, Same.refl _⟩ (fun j σ H' _ h => by obtain ⟨_, _, _, _, _, S⟩ := h; exact SqL.of (S _ _ hl49)) ?_ ?_⟩
  · rintro j x σ H10 hx ⟨z8, z9, z10, z11, rfl, S10⟩
    obtain ⟨rr, rs, rfl, hRr, zr, hri, hsv⟩ := four x (List.mem_of_getElem? hx)
    obtain ⟨xr, hxr, hrows⟩ := hRr.same S10
    dsimp only [gName]
    refine ⟨_, rfl, rr, _, rfl, .inl (SqL.of hxr), fun hh hhh => ?_⟩
    have S11 := same_new hhh (.lst xr)
    have hh11 : upd H10 hh (.lst xr) hh = some (.lst xr) := upd_same
    generalize upd H10 hh (.lst xr) = H11 at S11 hh11 ⊢
    have hRh : RL H11 hh rs := ⟨xr, hh11, hrows.same S11.t⟩
    have hRr11 : RL H11 rr rs := ⟨xr, S11 _ _ hxr, hrows.same S11.t⟩
    have S911 := S10.trans S11
    dsimp only [gName]
    refine ⟨_, rfl, _, rfl, bk, hh, many, bs, rs, rfl, hB9.same S911, by omega, by omega, by omega, hin, hRh, fun to H12 S12 hto0 hto => ?_⟩
    dsimp only [gName]
    refine ⟨_, rfl, _, rfl, _, rfl, kp, rr, lo, many, bs, _, rs, rfl, hK9.same (S911.trans S12), by omega, by omega, by omega, hRr11.same S12, by omega, hri, SqL.of ((S911.trans S12) _ _ hlo9), by omega, hlin, fun du H13 S13 hdu0 hdu => ?_⟩
    rw [due_served] at hdu
    have hto13 := S13 _ _ hto
    obtain ⟨ms, ems, hms⟩ := served_some hsv
    have ndm := served_ms hin hri ems
    have hmsl : ms.length ≤ 32 := by
      have := congrArg List.length ems
      unfold servedF at this
      rw [List.length_map, List.length_map] at this
      omega
    have eV : (servedF many bs rs).map optV = (ms.map fun (n : Nat) => (n : Int)).map V.int := by rw [ems, opt_some]
    have hmi2 : ∀ x ∈ ms.map (fun (n : Nat) => (n : Int)), 0 ≤ x ∧ x < 1000000000000 := fun x hx => by
      obtain ⟨m, hm, rfl⟩ := List.mem_map.mp hx
      have := hms m hm
      omega
    have shI := Sho.ints hmi2
    have hsh : (ms.map fun (n : Nat) => (n : Int)).length ≤ 1000000 := by rw [List.length_map]; omega
    have S1013 := S11.trans (S12.trans S13)
    have S913 := S10.trans S1013
    dsimp only [gName]
    refine seq_if (b := false) (lookOr (c := false) (d := false) (.pure fun Q h => ⟨_, rfl, _, _, _, _, rfl, .lst hto13, kit_ll K, _, rfl, h⟩) (fun _ H14 S14 => lookOr (c := false) (d := false) (look_ne_str (str_is (K := K) (isE_var rfl) (.lst (SqL.of (by rw [S14 _ _ hto13, eV])) (DRs.ints _)) shI hsh (by decide)) (str_is (K := K) (isE_var rfl) (.lst (SqL.of (by rw [S14 _ _ hdu, eV])) (DRs.ints _)) shI hsh (by decide))) fun _ H15 S15 => lookOr (c := false) (d := false) (.pure fun Q h => ⟨_, rfl, _, rfl, ?_⟩) fun _ H16 S16 => .pure fun Q h => ⟨_, rfl, _, rfl, ?_⟩)) fun H14 S14 => iteF ?_
    · have Sx := S12.trans (S13.trans (S14.trans S15))
      exact ne_data (.lst (SqL.of (Sx _ _ hh11)) ((hrows.same S11.t).same Sx.t).dr) (.lst (SqL.of ((S11.trans Sx) _ _ hxr)) ((hrows.same S11.t).same Sx.t).dr) (shaped_rows rs) (rows_eqv rs) h
    · have Sx := S913.trans (S14.trans (S15.trans S16))
      exact ne_data (hB9.same Sx).dr (hK9.same Sx).dr (shaped_bk _ _) (bk_eqv _ _) h
    dsimp only [tNext]
    have hto14 := S14 _ _ hto13
    refine ⟨_, rfl, .inl ⟨rfl, _, SqL.of hto14⟩, to, _, _, rfl, rfl, hto14, (by rw [eV, List.length_map, List.length_map]; exact small1000 (by omega)), ?_⟩
    have SB15 : SameB to H14 (upd H14 to (.lst ((servedF many bs rs).map optV ++ [.non]))) := sameB_upd
    have T15 : TSame H14 (upd H14 to (.lst ((servedF many bs rs).map optV ++ [.non]))) := tsame_upd hto14
    generalize upd H14 to (.lst ((servedF many bs rs).map optV ++ [.non])) = H15 at SB15 T15 ⊢
    have S1115 : Same H11 H15 := fun b o hb => SB15 _ _ (fun z => by rw [z, hto0] at hb; cases hb) ((S12.trans (S13.trans S14)) _ _ hb)
    have S915 := S911.trans S1115
    dsimp only
    refine ⟨_, rfl, _, rfl, bk, hh, many, bs, rs, rfl, hB9.same S915, by omega, by omega, by omega, hin, hRh.same S1115, fun t2 H16 S16 ht20 ht2 => ?_⟩
    rw [eV] at ht2
    have hlen2 := served_len hin hri hsv
    obtain ⟨xw, hxw, hroww⟩ := hRr11.same (S1115.trans S16)
    have hxwl := hroww.length
    have hfw16 := (S59.trans (S915.trans S16)) _ _ hfw5
    dsimp only [gName]
    refine one_if (b := false) (lookOr (c := false) (d := false) (.pure fun Q h => ⟨_, rfl, t2, _, rfl, .inl (SqL.of ht2), rfl, flat_ints _, _, rfl, (by rw [if_neg (by decide), none_in]; exact h)⟩) fun _ H17 S17 => lookOr (c := false) (d := false) (.pure fun Q h => ⟨_, rfl, t2, _, rfl, SqL.of (S17 _ _ ht2), by rw [List.length_map]; omega, _, rfl, t2, _, rfl, .inl (SqL.of (S17 _ _ ht2)), rfl, _, rfl, ?_⟩) fun _ H18 S18 => .pure fun Q h => ⟨_, rfl, rr, _, rfl, .inl (SqL.of ((S17.trans S18) _ _ hxw)), _, rfl, fw, _, rfl, .inl (SqL.of ((S17.trans S18) _ _ hfw16)), _, _, rfl, rfl, _, rfl, ?_⟩) fun H17 S17 => iteF ?_
    · rw [unlike_nodup (nodup_cast ndm)]; simp only [List.length_map]; exact h
    · rw [decide_eq_false (by omega)]; exact h
    exact ⟨_, _, _, _, rfl, S915.trans (S16.trans S17)⟩
  rintro σ H10 ⟨z8, z9, z10, z11, rfl, S10⟩
  dsimp only
  have S510 := S59.trans S10
  have hB10 := hB9.same S10
  have hK10 := hK9.same S10
  have hlo10 := S10 _ _ hlo9
  have hfw10 := S510 _ _ hfw5
  have hRf10 := hRf5.same S510.t
  have S110 : Same H1 H10 := S13.trans (S35.trans S510)
  have he10 := S110 _ _ he1
  refine ⟨_, rfl, .inl ⟨rfl, _, SqL.of he10⟩, _, rfl, _, rfl, fw, _, rfl, .inl (SqL.of hfw10), fun f2 hf2 => ?_⟩
  have S11 := same_new hf2 (.lst xf)
  have hf211 : upd H10 f2 (.lst xf) f2 = some (.lst xf) := upd_same
  generalize upd H10 f2 (.lst xf) = H11 at S11 hf211 ⊢
  refine ⟨bk, f2, many, bs, _, rfl, hB10.same S11, by omega, by omega, by omega, hin, ⟨xf, hf211, hRf10.same S11.t⟩, fun t3 H12 S12 ht30 ht3 => ?_⟩
  refine ⟨_, rfl, _, rfl, _, rfl, kp, fw, lo, many, bs, _, _, rfl, hK10.same (S11.trans S12), by omega, by omega, by omega, ⟨xf, (S11.trans S12) _ _ hfw10, hRf10.same (S11.trans S12).t⟩, by omega, hfin, SqL.of ((S11.trans S12) _ _ hlo10), by omega, hlin, fun d3 H13 S13' hd30 hd3 => ⟨(by show 2 ≤ sizeLine; decide), fun pp hpp => ?_⟩⟩
  rw [due_served] at hd3
  have Sp := same_new hpp (.tup [.ref t3, .ref d3])
  have S1014 := S11.trans (S12.trans (S13'.trans Sp))
  have he14 := S1014 _ _ he10
  have t3e : t3 ≠ e := fun z => by rw [z, S11 _ _ he10] at ht30; cases ht30
  have d3e : d3 ≠ e := fun z => by rw [z, (S11.trans S12) _ _ he10] at hd30; cases hd30
  refine ⟨e, _, _, rfl, rfl, he14, small1000 (by omega), ?_⟩
  have Te := tsame_upd (o := .lst (es ++ [.ref pp])) he14
  have SBe : SameB e (upd H13 pp (.tup [.ref t3, .ref d3])) (upd (upd H13 pp (.tup [.ref t3, .ref d3])) e (.lst (es ++ [.ref pp]))) := sameB_upd
  have hpairs14 : ∀ x ∈ es ++ [.ref pp], PairO (upd (upd H13 pp (.tup [.ref t3, .ref d3])) e (.lst (es ++ [.ref pp]))) e x := fun x hx => by
    rcases List.mem_append.mp hx with w | w
    · exact (hpairs x w).b ((S110.trans S1014).b.trans SBe) ((S110.trans S1014).t.trans Te)
    · rw [List.mem_singleton.mp w]
      exact ⟨pp, t3, d3, _, rfl, t3e, d3e, Te _ _ upd_same, SBe _ _ t3e ((S13'.trans Sp) _ _ ht3), SBe _ _ d3e (Sp _ _ hd3)⟩
  have he15 : upd (upd H13 pp (.tup [.ref t3, .ref d3])) e (.lst (es ++ [.ref pp])) e = some (.lst (es ++ [.ref pp])) := upd_same
  have S015 : Same H (upd (upd H13 pp (.tup [.ref t3, .ref d3])) e (.lst (es ++ [.ref pp]))) := fun b o hb => SBe _ _ (fun z => by rw [z, he] at hb; cases hb) ((S1.trans (S110.trans S1014)) _ _ hb)
  have T1015 : TSame H10 (upd (upd H13 pp (.tup [.ref t3, .ref d3])) e (.lst (es ++ [.ref pp]))) := S1014.t.trans Te
  have mv : ∀ {b : Addr} {o : HO}, b ≠ e → H10 b = some o → upd (upd H13 pp (.tup [.ref t3, .ref d3])) e (.lst (es ++ [.ref pp])) b = some o := fun {b o} hb h => SBe _ _ hb (S1014 _ _ h)
  generalize upd (upd H13 pp (.tup [.ref t3, .ref d3])) e (.lst (es ++ [.ref pp])) = H15 at hpairs14 he15 S015 T1015 mv ⊢
  have nn : ∀ {Hx : Hp} {b : Addr}, Same H1 Hx → Hx b = none → b ≠ e := fun {Hx b} Sx hb z => by rw [z, Sx _ _ he1] at hb; cases hb
  have ble : bl ≠ e := nn (Same.refl _) hbl0
  have kle : kl ≠ e := nn S2 hkl
  have fwe : fw ≠ e := nn S13 hfw0
  have loe : lo ≠ e := nn (S13.trans S4) hlo0
  have S310 := S35.trans S510
  have hB15 : Bk K H15 bk many bs := ⟨bl, SqT.of (T1015 _ _ (S310 _ _ (S3 _ _ hbk))), SqL.of (mv ble (S310 _ _ (S3 _ _ hbl)))⟩
  have hK15 : Bk K H15 kp many bs := ⟨kl, SqT.of (T1015 _ _ (S310 _ _ hkp3)), SqL.of (mv kle (S310 _ _ hkl3))⟩
  have hlo15 := mv loe hlo10
  have hfw15 := mv fwe hfw10
  have hRf15 := hRf10.same T1015
  dsimp only
  refine ⟨_, rfl, _, rfl, kp, many, bs, c2, rfl, hK15, by omega, by omega, fun dr rd H16 S16 hdr0 hRd hdl hdi => ?_⟩
  obtain ⟨xd, hxd, hrowd⟩ := hRd
  dsimp only [gName]
  refine seq_if (b := false) (fun Q h => ⟨_, rfl, _, rfl, dr, _, rfl, .inl (SqL.of hxd), fun d4 hd4 => ?_⟩) fun H17 S17 => iteF ?_
  · have Sd := same_new hd4 (.lst xd)
    have hd44 : upd H16 d4 (.lst xd) d4 = some (.lst xd) := upd_same
    generalize upd H16 d4 (.lst xd) = Hd at Sd hd44 ⊢
    have S1d := S16.trans Sd
    refine ⟨bk, d4, many, bs, rd, rfl, hB15.same S1d, by omega, by omega, by omega, hin, ⟨xd, hd44, hrowd.same Sd.t⟩, fun u1 He Se _ hu1 => ?_⟩
    refine ⟨_, rfl, _, rfl, _, rfl, kp, dr, lo, many, bs, _, rd, rfl, hK15.same (S1d.trans Se), by omega, by omega, by omega, ⟨xd, (Sd.trans Se) _ _ hxd, hrowd.same (Sd.trans Se).t⟩, by omega, hdi, SqL.of ((S1d.trans Se) _ _ hlo15), by omega, hlin, fun u2 Hf Sf _ hu2 => ?_⟩
    rw [due_served] at hu2
    exact ne_data (opt_dr (Sf _ _ hu1)) (opt_dr hu2) (opt_shaped _) (opt_eqv _) (h _ (Sd.trans (Se.trans Sf)))
  dsimp only [tNext]
  have S1517 := S16.trans S17
  have hB17 := hB15.same S1517
  have hfw17 := S1517 _ _ hfw15
  have hRf17 := hRf15.same S1517.t
  have he17 := S1517 _ _ he15
  have S017 := S015.trans S1517
  have hp17 : ∀ x ∈ es ++ [.ref pp], PairO H17 e x := fun x hx => (hpairs14 x hx).b S1517.b S1517.t
  have fin : ∀ {H' : Hp} {z8 z9 z10 z11 z12 z13 : Option V}, Same H17 H' → ∃ (es' : List V) (y2 y3 y4 y5 y6 y7 y8 y9 y10 y11 y12 y13 : Option V), ([some (.ref a), some (.ref e), some (.int (0 + (i : Int) * 2)), some (.ref bk), some (.ref kp), some (.int c2), some (.ref fw), some (.ref lo), z8, z9, z10, z11, z12, z13] : List (Option V)) = [some (.ref a), some (.ref e), y2, y3, y4, y5, y6, y7, y8, y9, y10, y11, y12, y13] ∧ Same H H' ∧ H' e = some (.lst es') ∧ es'.length = i + 1 ∧ ∀ x ∈ es', PairO H' e x := fun {H' _ _ _ _ _ _} Sx => ⟨es ++ [.ref pp], _, _, _, _, _, _, _, _, _, _, _, _, rfl, S017.trans Sx, Sx _ _ he17, by rw [List.length_append, hlen]; rfl, fun x hx => (hp17 x hx).b Sx.b Sx.t⟩
  refine one_if (b := !(fewU many bs (2 ^ many.toNat)).isEmpty) (fun Q h => ⟨_, rfl, ne_rows_nil hfw17 hRf17 fun H18 S18 => ⟨_, rfl, h _ S18⟩⟩) fun H18 S18 => ?_
  cases hE : (fewU many bs (2 ^ many.toNat)).isEmpty with
  | true => exact iteF (fin S18)
  | false =>
    have hpos : 0 < (fewU many bs (2 ^ many.toNat)).length := by
      cases hq : fewU many bs (2 ^ many.toNat) with
      | nil => rw [hq] at hE; cases hE
      | cons x r => exact Nat.succ_pos _
    refine iteT ?_
    have hfw18 := S18 _ _ hfw17
    have hRf18 := hRf17.same S18.t
    refine ⟨_, rfl, _, rfl, fw, _, rfl, .inl (SqL.of hfw18), _, _, rfl, rfl, (by omega), ?_⟩
    have a0 := Int.emod_nonneg c2 (show ((xf.length : Nat) : Int) ≠ 0 by omega)
    have a1 := Int.emod_lt_of_pos c2 (show (0 : Int) < ((xf.length : Nat) : Int) by omega)
    dsimp only [gName]
    obtain ⟨at_, hat⟩ : ∃ n : Nat, c2 % ((xf.length : Nat) : Int) = (n : Int) := ⟨(c2 % ((xf.length : Nat) : Int)).toNat, by omega⟩
    rw [hat] at a0 a1 ⊢
    have hj : at_ < (fewU many bs (2 ^ many.toNat)).length := by omega
    refine ⟨_, rfl, _, rfl, _, rfl, fw, _, rfl, SqL.of hfw18, fun s1 hs1 => ?_⟩
    rw [cut_upto']
    have Sa := same_new hs1 (.lst (xf.take at_))
    have hs1a : upd H18 s1 (.lst (xf.take at_)) s1 = some (.lst (xf.take at_)) := upd_same
    generalize upd H18 s1 (.lst (xf.take at_)) = H19 at Sa hs1a ⊢
    refine ⟨_, rfl, _, rfl, _, _, rfl, rfl, _, rfl, fw, _, rfl, SqL.of (Sa _ _ hfw18), fun s2 hs2 => ?_⟩
    rw [show ((at_ : Int) + 1) = ((at_ + 1 : Nat) : Int) from rfl, cut_from']
    have Sb := same_new hs2 (.lst (xf.drop (at_ + 1)))
    have hs2b : upd H19 s2 (.lst (xf.drop (at_ + 1))) s2 = some (.lst (xf.drop (at_ + 1))) := upd_same
    have hs1b := Sb _ _ hs1a
    generalize upd H19 s2 (.lst (xf.drop (at_ + 1))) = H20 at Sb hs2b hs1b ⊢
    refine ⟨s1, s2, _, _, rfl, rfl, hs1b, hs2b, (by rw [List.length_take, List.length_drop]; exact Nat.le_of_lt (small1000 (by omega))), fun ot hot => ?_⟩
    have Sc := same_new hot (.lst (xf.take at_ ++ xf.drop (at_ + 1)))
    have hotc : upd H20 ot (.lst (xf.take at_ ++ xf.drop (at_ + 1))) ot = some (.lst (xf.take at_ ++ xf.drop (at_ + 1))) := upd_same
    generalize upd H20 ot (.lst (xf.take at_ ++ xf.drop (at_ + 1))) = H21 at Sc hotc ⊢
    have S1821 := Sa.trans (Sb.trans Sc)
    have hRo : RL H21 ot ((fewU many bs (2 ^ many.toNat)).eraseIdx at_) := by
      rw [List.eraseIdx_eq_take_drop_succ]
      exact ⟨_, hotc, rows_app (rows_take at_ (hRf18.same S1821.t)) (rows_drop (at_ + 1) (hRf18.same S1821.t))⟩
    have hol : ((fewU many bs (2 ^ many.toNat)).eraseIdx at_).length ≤ 32 := by rw [List.length_eraseIdx]; split <;> omega
    have S1721 := S18.trans S1821
    have hB21 := hB17.same S1721
    have hfw21 := S1721 _ _ hfw17
    obtain ⟨sh1, sh2⟩ := few_shut hin hj
    have hxa : xf[at_]? = some (xf[at_]'(by omega)) := List.getElem?_eq_getElem (by omega)
    obtain ⟨row, hrow, hR1⟩ := paired_take (hRf17.same S1721.t) hxa
    have erow : row = (fewU many bs (2 ^ many.toNat))[at_] := by rw [List.getElem?_eq_getElem hj] at hrow; exact (Option.some.inj hrow).symm
    obtain ⟨ra, era, hra⟩ := hR1
    rw [era] at hxa
    have hrI := hfin _ (List.getElem_mem hj)
    rw [← erow] at sh1 sh2 hrI
    dsimp only [gName]
    refine one_if (b := false) (lookOr (c := false) (d := false) (fun Q h => ⟨_, rfl, _, rfl, bk, ot, many, bs, _, rfl, hB21, by omega, by omega, by omega, hin, hRo, fun u3 H22 S22 _ hu3 => ⟨_, rfl, u3, _, _, .non, rfl, rfl, SqL.of hu3, atI_nat (by rw [List.getElem?_map, served_without hin hj]; rfl), rfl, _, rfl, (by rw [decide_eq_true rfl]; exact h _ S22)⟩⟩) fun _ H22 S22 => fun Q h => ⟨_, rfl, _, rfl, _, rfl, fw, _, _, _, rfl, rfl, SqL.of (S22 _ _ hfw21), atI_nat hxa, ot, ra, _, row.1, row.2, rfl, hRo.same S22, SqT.of (S22 _ _ hra), by omega, (fun r hr => by have := hfin r (List.mem_of_mem_eraseIdx hr); exact ⟨this.1.1, this.2.1⟩), hrI.1.1, hrI.2.1, fun u4 H23 S23 hfl4 => ?_⟩) fun H22 S22 => iteF (fin (S1721.trans S22))
    rcases hfl4 with ⟨hh, _⟩ | ⟨_, hu4⟩
    · rw [sh1, sh2] at hh; cases hh
    · exact ⟨u4, _, _, _, rfl, rfl, SqT.of hu4, rfl, ne_str' (h _ S23)⟩

end
end OL.Q26

namespace OL.Q26
open PySem L2 OL
theorem len1 {us : List Value} (h : us.length = 1) : ∃ x0, us = [x0] := by
  match us, h with
  | [x0], _ => exact ⟨x0, rfl⟩
theorem len2 {us : List Value} (h : us.length = 2) : ∃ x0 x1, us = [x0, x1] := by
  match us, h with
  | [x0, x1], _ => exact ⟨x0, x1, rfl⟩
theorem len3 {us : List Value} (h : us.length = 3) : ∃ x0 x1 x2, us = [x0, x1, x2] := by
  match us, h with
  | [x0, x1, x2], _ => exact ⟨x0, x1, x2, rfl⟩
set_option maxHeartbeats 4000000 in
theorem all_mk {l : PySem.W.OpenLaw} {w : World} {K : PySem.W.Frag} {h : Heap} {mg : Str → Option Value} {fa f0 f1 f2 f3 f4 f5 f6 f7 f8 f9 f10 f11 f12 f13 f14 f15 f16 f17 f18 f19 f20 f21 f22 f23 f24 f25 : Addr} (X : K.In h) (G : h.Ns mainGlobals mg) (hfa : mg "law" = some (.ref fa))
    {od0 an0 od1 an1 od2 an2 od3 an3 od4 an4 od5 an5 od6 an6 od7 an7 od8 an8 od9 an9 od10 an10 od11 an11 od12 an12 od13 an13 od14 an14 od15 an15 od16 an16 od17 an17 od18 an18 od19 an19 od20 an20 od21 an21 od22 an22 od23 an23 od24 an24 od25 an25 : Option Addr} {sl0 sl1 sl2 sl3 sl4 sl5 sl6 sl7 sl8 sl9 sl10 sl11 sl12 sl13 sl14 sl15 sl16 sl17 sl18 sl19 sl20 sl21 sl22 sl23 sl24 sl25 : Array (Option Value)} {oc0 kV0 dc0 pm0 cd0 ct0 oc1 kV1 dc1 pm1 cd1 ct1 oc2 kV2 dc2 pm2 cd2 ct2 oc3 kV3 dc3 pm3 cd3 ct3 oc4 kV4 dc4 pm4 cd4 ct4 oc5 kV5 dc5 pm5 cd5 ct5 oc6 kV6 dc6 pm6 cd6 ct6 oc7 kV7 dc7 pm7 cd7 ct7 oc8 kV8 dc8 pm8 cd8 ct8 oc9 kV9 dc9 pm9 cd9 ct9 oc10 kV10 dc10 pm10 cd10 ct10 oc11 kV11 dc11 pm11 cd11 ct11 oc12 kV12 dc12 pm12 cd12 ct12 oc13 kV13 dc13 pm13 cd13 ct13 oc14 kV14 dc14 pm14 cd14 ct14 oc15 kV15 dc15 pm15 cd15 ct15 oc16 kV16 dc16 pm16 cd16 ct16 oc17 kV17 dc17 pm17 cd17 ct17 oc18 kV18 dc18 pm18 cd18 ct18 oc19 kV19 dc19 pm19 cd19 ct19 oc20 kV20 dc20 pm20 cd20 ct20 oc21 kV21 dc21 pm21 cd21 ct21 oc22 kV22 dc22 pm22 cd22 ct22 oc23 kV23 dc23 pm23 cd23 ct23 oc24 kV24 dc24 pm24 cd24 ct24 oc25 kV25 dc25 pm25 cd25 ct25 : Value}
    (a0 : PySem.W.nsIn K mainGlobals "things_below" = some (some (.ref f0))) (l0 : K.lookup f0 = some ⟨oc0, od0, .func (PySem.W.fnOf "things_below" "things_below" (defArgs sTop) (defBody sTop) (defScope sTop) .none kV0 dc0 pm0 an0 cd0 ct0), sl0⟩) (c0 : PySem.W.codeIn K cd0 "things_below" = true) (k0 : PySem.W.keepIn K (.ref f0) = true)
    (a1 : PySem.W.nsIn K mainGlobals "has" = some (some (.ref f1))) (l1 : K.lookup f1 = some ⟨oc1, od1, .func (PySem.W.fnOf "has" "has" (defArgs sHas) (defBody sHas) (defScope sHas) .none kV1 dc1 pm1 an1 cd1 ct1), sl1⟩) (c1 : PySem.W.codeIn K cd1 "has" = true) (k1 : PySem.W.keepIn K (.ref f1) = true)
    (a2 : PySem.W.nsIn K mainGlobals "all_lots" = some (some (.ref f2))) (l2 : K.lookup f2 = some ⟨oc2, od2, .func (PySem.W.fnOf "all_lots" "all_lots" (defArgs sAll) (defBody sAll) (defScope sAll) .none kV2 dc2 pm2 an2 cd2 ct2), sl2⟩) (c2 : PySem.W.codeIn K cd2 "all_lots" = true) (k2 : PySem.W.keepIn K (.ref f2) = true)
    (a3 : PySem.W.nsIn K mainGlobals "holders" = some (some (.ref f3))) (l3 : K.lookup f3 = some ⟨oc3, od3, .func (PySem.W.fnOf "holders" "holders" (defArgs sHold) (defBody sHold) (defScope sHold) .none kV3 dc3 pm3 an3 cd3 ct3), sl3⟩) (c3 : PySem.W.codeIn K cd3 "holders" = true) (k3 : PySem.W.keepIn K (.ref f3) = true)
    (a4 : PySem.W.nsIn K mainGlobals "common" = some (some (.ref f4))) (l4 : K.lookup f4 = some ⟨oc4, od4, .func (PySem.W.fnOf "common" "common" (defArgs sCommon) (defBody sCommon) (defScope sCommon) .none kV4 dc4 pm4 an4 cd4 ct4), sl4⟩) (c4 : PySem.W.codeIn K cd4 "common" = true) (k4 : PySem.W.keepIn K (.ref f4) = true)
    (a5 : PySem.W.nsIn K mainGlobals "closing" = some (some (.ref f5))) (l5 : K.lookup f5 = some ⟨oc5, od5, .func (PySem.W.fnOf "closing" "closing" (defArgs sClosing) (defBody sClosing) (defScope sClosing) .none kV5 dc5 pm5 an5 cd5 ct5), sl5⟩) (c5 : PySem.W.codeIn K cd5 "closing" = true) (k5 : PySem.W.keepIn K (.ref f5) = true)
    (a6 : PySem.W.nsIn K mainGlobals "is_closed" = some (some (.ref f6))) (l6 : K.lookup f6 = some ⟨oc6, od6, .func (PySem.W.fnOf "is_closed" "is_closed" (defArgs sIsClosed) (defBody sIsClosed) (defScope sIsClosed) .none kV6 dc6 pm6 an6 cd6 ct6), sl6⟩) (c6 : PySem.W.codeIn K cd6 "is_closed" = true) (k6 : PySem.W.keepIn K (.ref f6) = true)
    (a7 : PySem.W.nsIn K mainGlobals "brought_on" = some (some (.ref f7))) (l7 : K.lookup f7 = some ⟨oc7, od7, .func (PySem.W.fnOf "brought_on" "brought_on" (defArgs sBrought) (defBody sBrought) (defScope sBrought) .none kV7 dc7 pm7 an7 cd7 ct7), sl7⟩) (c7 : PySem.W.codeIn K cd7 "brought_on" = true) (k7 : PySem.W.keepIn K (.ref f7) = true)
    (a8 : PySem.W.nsIn K mainGlobals "place_to_take" = some (some (.ref f8))) (l8 : K.lookup f8 = some ⟨oc8, od8, .func (PySem.W.fnOf "place_to_take" "place_to_take" (defArgs sPlace) (defBody sPlace) (defScope sPlace) .none kV8 dc8 pm8 an8 cd8 ct8), sl8⟩) (c8 : PySem.W.codeIn K cd8 "place_to_take" = true) (k8 : PySem.W.keepIn K (.ref f8) = true)
    (a9 : PySem.W.nsIn K mainGlobals "keeps_all" = some (some (.ref f9))) (l9 : K.lookup f9 = some ⟨oc9, od9, .func (PySem.W.fnOf "keeps_all" "keeps_all" (defArgs sKeeps) (defBody sKeeps) (defScope sKeeps) .none kV9 dc9 pm9 an9 cd9 ct9), sl9⟩) (c9 : PySem.W.codeIn K cd9 "keeps_all" = true) (k9 : PySem.W.keepIn K (.ref f9) = true)
    (a10 : PySem.W.nsIn K mainGlobals "follows" = some (some (.ref f10))) (l10 : K.lookup f10 = some ⟨oc10, od10, .func (PySem.W.fnOf "follows" "follows" (defArgs sFollows) (defBody sFollows) (defScope sFollows) .none kV10 dc10 pm10 an10 cd10 ct10), sl10⟩) (c10 : PySem.W.codeIn K cd10 "follows" = true) (k10 : PySem.W.keepIn K (.ref f10) = true)
    (a11 : PySem.W.nsIn K mainGlobals "steps_needed" = some (some (.ref f11))) (l11 : K.lookup f11 = some ⟨oc11, od11, .func (PySem.W.fnOf "steps_needed" "steps_needed" (defArgs sNeeded) (defBody sNeeded) (defScope sNeeded) .none kV11 dc11 pm11 an11 cd11 ct11), sl11⟩) (c11 : PySem.W.codeIn K cd11 "steps_needed" = true) (k11 : PySem.W.keepIn K (.ref f11) = true)
    (a12 : PySem.W.nsIn K mainGlobals "few_rules" = some (some (.ref f12))) (l12 : K.lookup f12 = some ⟨oc12, od12, .func (PySem.W.fnOf "few_rules" "few_rules" (defArgs sFew) (defBody sFew) (defScope sFew) .none kV12 dc12 pm12 an12 cd12 ct12), sl12⟩) (c12 : PySem.W.codeIn K cd12 "few_rules" = true) (k12 : PySem.W.keepIn K (.ref f12) = true)
    (a13 : PySem.W.nsIn K mainGlobals "served" = some (some (.ref f13))) (l13 : K.lookup f13 = some ⟨oc13, od13, .func (PySem.W.fnOf "served" "served" (defArgs s_served) (defBody s_served) (defScope s_served) .none kV13 dc13 pm13 an13 cd13 ct13), sl13⟩) (c13 : PySem.W.codeIn K cd13 "served" = true) (k13 : PySem.W.keepIn K (.ref f13) = true)
    (a14 : PySem.W.nsIn K mainGlobals "serving_place" = some (some (.ref f14))) (l14 : K.lookup f14 = some ⟨oc14, od14, .func (PySem.W.fnOf "serving_place" "serving_place" (defArgs s_serving_place) (defBody s_serving_place) (defScope s_serving_place) .none kV14 dc14 pm14 an14 cd14 ct14), sl14⟩) (c14 : PySem.W.codeIn K cd14 "serving_place" = true) (k14 : PySem.W.keepIn K (.ref f14) = true)
    (a15 : PySem.W.nsIn K mainGlobals "serves" = some (some (.ref f15))) (l15 : K.lookup f15 = some ⟨oc15, od15, .func (PySem.W.fnOf "serves" "serves" (defArgs s_serves) (defBody s_serves) (defScope s_serves) .none kV15 dc15 pm15 an15 cd15 ct15), sl15⟩) (c15 : PySem.W.codeIn K cd15 "serves" = true) (k15 : PySem.W.keepIn K (.ref f15) = true)
    (a16 : PySem.W.nsIn K mainGlobals "_law_cell_at" = some (some (.ref f16))) (l16 : K.lookup f16 = some ⟨oc16, od16, .func (PySem.W.fnOf "_law_cell_at" "_law_cell_at" (defArgs sCell) (defBody sCell) (defScope sCell) .none kV16 dc16 pm16 an16 cd16 ct16), sl16⟩) (c16 : PySem.W.codeIn K cd16 "_law_cell_at" = true) (k16 : PySem.W.keepIn K (.ref f16) = true)
    (a17 : PySem.W.nsIn K mainGlobals "_law_draws" = some (some (.ref f17))) (l17 : K.lookup f17 = some ⟨oc17, od17, .func (PySem.W.fnOf "_law_draws" "_law_draws" (defArgs sDraws) (defBody sDraws) (defScope sDraws) .none kV17 dc17 pm17 an17 cd17 ct17), sl17⟩) (c17 : PySem.W.codeIn K cd17 "_law_draws" = true) (k17 : PySem.W.keepIn K (.ref f17) = true)
    (a18 : PySem.W.nsIn K mainGlobals "_law_book" = some (some (.ref f18))) (l18 : K.lookup f18 = some ⟨oc18, od18, .func (PySem.W.fnOf "_law_book" "_law_book" (defArgs sBook) (defBody sBook) (defScope sBook) .none kV18 dc18 pm18 an18 cd18 ct18), sl18⟩) (c18 : PySem.W.codeIn K cd18 "_law_book" = true) (k18 : PySem.W.keepIn K (.ref f18) = true)
    (a19 : PySem.W.nsIn K mainGlobals "_law_closing" = some (some (.ref f19))) (l19 : K.lookup f19 = some ⟨oc19, od19, .func (PySem.W.fnOf "_law_closing" "_law_closing" (defArgs sCloseL) (defBody sCloseL) (defScope sCloseL) .none kV19 dc19 pm19 an19 cd19 ct19), sl19⟩) (c19 : PySem.W.codeIn K cd19 "_law_closing" = true) (k19 : PySem.W.keepIn K (.ref f19) = true)
    (a20 : PySem.W.nsIn K mainGlobals "_law_within" = some (some (.ref f20))) (l20 : K.lookup f20 = some ⟨oc20, od20, .func (PySem.W.fnOf "_law_within" "_law_within" (defArgs sWithinL) (defBody sWithinL) (defScope sWithinL) .none kV20 dc20 pm20 an20 cd20 ct20), sl20⟩) (c20 : PySem.W.codeIn K cd20 "_law_within" = true) (k20 : PySem.W.keepIn K (.ref f20) = true)
    (a21 : PySem.W.nsIn K mainGlobals "_law_due" = some (some (.ref f21))) (l21 : K.lookup f21 = some ⟨oc21, od21, .func (PySem.W.fnOf "_law_due" "_law_due" (defArgs s_L_due) (defBody s_L_due) (defScope s_L_due) .none kV21 dc21 pm21 an21 cd21 ct21), sl21⟩) (c21 : PySem.W.codeIn K cd21 "_law_due" = true) (k21 : PySem.W.keepIn K (.ref f21) = true)
    (a22 : PySem.W.nsIn K mainGlobals "_law_drawn" = some (some (.ref f22))) (l22 : K.lookup f22 = some ⟨oc22, od22, .func (PySem.W.fnOf "_law_drawn" "_law_drawn" (defArgs s_L_drawn) (defBody s_L_drawn) (defScope s_L_drawn) .none kV22 dc22 pm22 an22 cd22 ct22), sl22⟩) (c22 : PySem.W.codeIn K cd22 "_law_drawn" = true) (k22 : PySem.W.keepIn K (.ref f22) = true)
    (a23 : PySem.W.nsIn K mainGlobals "_law_single" = some (some (.ref f23))) (l23 : K.lookup f23 = some ⟨oc23, od23, .func (PySem.W.fnOf "_law_single" "_law_single" (defArgs s_L_single) (defBody s_L_single) (defScope s_L_single) .none kV23 dc23 pm23 an23 cd23 ct23), sl23⟩) (c23 : PySem.W.codeIn K cd23 "_law_single" = true) (k23 : PySem.W.keepIn K (.ref f23) = true)
    (a24 : PySem.W.nsIn K mainGlobals "_law_more" = some (some (.ref f24))) (l24 : K.lookup f24 = some ⟨oc24, od24, .func (PySem.W.fnOf "_law_more" "_law_more" (defArgs s_L_more) (defBody s_L_more) (defScope s_L_more) .none kV24 dc24 pm24 an24 cd24 ct24), sl24⟩) (c24 : PySem.W.codeIn K cd24 "_law_more" = true) (k24 : PySem.W.keepIn K (.ref f24) = true)
    (a25 : PySem.W.nsIn K mainGlobals "law" = some (some (.ref f25))) (l25 : K.lookup f25 = some ⟨oc25, od25, .func (PySem.W.fnOf "law" "law" (defArgs s_law) (defBody s_law) (defScope s_law) .none kV25 dc25 pm25 an25 cd25 ct25), sl25⟩) (c25 : PySem.W.codeIn K cd25 "law" = true) (k25 : PySem.W.keepIn K (.ref f25) = true)
    (z_len : PySem.W.nsIn K mainGlobals "len" = some none) (z_abs : PySem.W.nsIn K mainGlobals "abs" = some none) (z_range : PySem.W.nsIn K mainGlobals "range" = some none) (z_list : PySem.W.nsIn K mainGlobals "list" = some none) (z_enumerate : PySem.W.nsIn K mainGlobals "enumerate" = some none) (z_min : PySem.W.nsIn K mainGlobals "min" = some none) (z_max : PySem.W.nsIn K mainGlobals "max" = some none) (z_str : PySem.W.nsIn K mainGlobals "str" = some none) (z_isinstance : PySem.W.nsIn K mainGlobals "isinstance" = some none) (z_set : PySem.W.nsIn K mainGlobals "set" = some none) (z_all : PySem.W.nsIn K mainGlobals "all" = some none) :
    ∃ fd : FuncData, (∀ (s : Shared) (v : Value), BindsTo s fd ⟨[v], []⟩ [("_law_script", v)]) ∧ ∀ base : Heap, K.In base → base.Ns mainGlobals mg → FnOk l.prog w K mg base CX0 7 fa fd ["_law_script"] (spLaw K) := by
  have e := hfa.symm.trans (PySem.W.mg_of X G a25)
  cases e
  have F0 := fun_mk (st := sTop) l0 c0 k0
  have b0 := F0.binds (ps := ["number"]) fun _ _ _ _ _ _ us hl => by obtain ⟨_, rfl⟩ := len1 hl; rfl
  have m0 := PySem.W.mg_of X G a0
  have F1 := fun_mk (st := sHas) l1 c1 k1
  have b1 := F1.binds (ps := ["one", "other"]) fun _ _ _ _ _ _ us hl => by obtain ⟨_, _, rfl⟩ := len2 hl; rfl
  have m1 := PySem.W.mg_of X G a1
  have F2 := fun_mk (st := sAll) l2 c2 k2
  have b2 := F2.binds (ps := ["many"]) fun _ _ _ _ _ _ us hl => by obtain ⟨_, rfl⟩ := len1 hl; rfl
  have m2 := PySem.W.mg_of X G a2
  have F3 := fun_mk (st := sHold) l3 c3 k3
  have b3 := F3.binds (ps := ["book", "lot"]) fun _ _ _ _ _ _ us hl => by obtain ⟨_, _, rfl⟩ := len2 hl; rfl
  have m3 := PySem.W.mg_of X G a3
  have F4 := fun_mk (st := sCommon) l4 c4 k4
  have b4 := F4.binds (ps := ["book", "places"]) fun _ _ _ _ _ _ us hl => by obtain ⟨_, _, rfl⟩ := len2 hl; rfl
  have m4 := PySem.W.mg_of X G a4
  have F5 := fun_mk (st := sClosing) l5 c5 k5
  have b5 := F5.binds (ps := ["book", "lot"]) fun _ _ _ _ _ _ us hl => by obtain ⟨_, _, rfl⟩ := len2 hl; rfl
  have m5 := PySem.W.mg_of X G a5
  have F6 := fun_mk (st := sIsClosed) l6 c6 k6
  have b6 := F6.binds (ps := ["book", "lot"]) fun _ _ _ _ _ _ us hl => by obtain ⟨_, _, rfl⟩ := len2 hl; rfl
  have m6 := PySem.W.mg_of X G a6
  have F7 := fun_mk (st := sBrought) l7 c7 k7
  have b7 := F7.binds (ps := ["rules", "lot"]) fun _ _ _ _ _ _ us hl => by obtain ⟨_, _, rfl⟩ := len2 hl; rfl
  have m7 := PySem.W.mg_of X G a7
  have F8 := fun_mk (st := sPlace) l8 c8 k8
  have b8 := F8.binds (ps := ["rules", "lot"]) fun _ _ _ _ _ _ us hl => by obtain ⟨_, _, rfl⟩ := len2 hl; rfl
  have m8 := PySem.W.mg_of X G a8
  have F9 := fun_mk (st := sKeeps) l9 c9 k9
  have b9 := F9.binds (ps := ["lot", "rules"]) fun _ _ _ _ _ _ us hl => by obtain ⟨_, _, rfl⟩ := len2 hl; rfl
  have m9 := PySem.W.mg_of X G a9
  have F10 := fun_mk (st := sFollows) l10 c10 k10
  have b10 := F10.binds (ps := ["rules", "rule"]) fun _ _ _ _ _ _ us hl => by obtain ⟨_, _, rfl⟩ := len2 hl; rfl
  have m10 := PySem.W.mg_of X G a10
  have F11 := fun_mk (st := sNeeded) l11 c11 k11
  have b11 := F11.binds (ps := ["rules", "rule", "steps"]) fun _ _ _ _ _ _ us hl => by obtain ⟨_, _, _, rfl⟩ := len3 hl; rfl
  have m11 := PySem.W.mg_of X G a11
  have F12 := fun_mk (st := sFew) l12 c12 k12
  have b12 := F12.binds (ps := ["book"]) fun _ _ _ _ _ _ us hl => by obtain ⟨_, rfl⟩ := len1 hl; rfl
  have m12 := PySem.W.mg_of X G a12
  have F13 := fun_mk (st := s_served) l13 c13 k13
  have b13 := F13.binds (ps := ["book", "rules"]) fun _ _ _ _ _ _ us hl => by obtain ⟨_, _, rfl⟩ := len2 hl; rfl
  have m13 := PySem.W.mg_of X G a13
  have F14 := fun_mk (st := s_serving_place) l14 c14 k14
  have b14 := F14.binds (ps := ["book", "lot", "rules"]) fun _ _ _ _ _ _ us hl => by obtain ⟨_, _, _, rfl⟩ := len3 hl; rfl
  have m14 := PySem.W.mg_of X G a14
  have F15 := fun_mk (st := s_serves) l15 c15 k15
  have b15 := F15.binds (ps := ["book", "lot", "rule"]) fun _ _ _ _ _ _ us hl => by obtain ⟨_, _, _, rfl⟩ := len3 hl; rfl
  have m15 := PySem.W.mg_of X G a15
  have F16 := fun_mk (st := sCell) l16 c16 k16
  have b16 := F16.binds (ps := ["_law_script", "_law_k"]) fun _ _ _ _ _ _ us hl => by obtain ⟨_, _, rfl⟩ := len2 hl; rfl
  have m16 := PySem.W.mg_of X G a16
  have F17 := fun_mk (st := sDraws) l17 c17 k17
  have b17 := F17.binds (ps := ["_law_cell", "_law_many", "_law_base"]) fun _ _ _ _ _ _ us hl => by obtain ⟨_, _, _, rfl⟩ := len3 hl; rfl
  have m17 := PySem.W.mg_of X G a17
  have F18 := fun_mk (st := sBook) l18 c18 k18
  have b18 := F18.binds (ps := ["_law_cell", "_law_most", "_law_top"]) fun _ _ _ _ _ _ us hl => by obtain ⟨_, _, _, rfl⟩ := len3 hl; rfl
  have m18 := PySem.W.mg_of X G a18
  have F19 := fun_mk (st := sCloseL) l19 c19 k19
  have b19 := F19.binds (ps := ["_law_book_here", "_law_lot"]) fun _ _ _ _ _ _ us hl => by obtain ⟨_, _, rfl⟩ := len2 hl; rfl
  have m19 := PySem.W.mg_of X G a19
  have F20 := fun_mk (st := sWithinL) l20 c20 k20
  have b20 := F20.binds (ps := ["_law_one", "_law_other"]) fun _ _ _ _ _ _ us hl => by obtain ⟨_, _, rfl⟩ := len2 hl; rfl
  have m20 := PySem.W.mg_of X G a20
  have F21 := fun_mk (st := s_L_due) l21 c21 k21
  have b21 := F21.binds (ps := ["_law_book_here", "_law_rules", "_law_lots"]) fun _ _ _ _ _ _ us hl => by obtain ⟨_, _, _, rfl⟩ := len3 hl; rfl
  have m21 := PySem.W.mg_of X G a21
  have F22 := fun_mk (st := s_L_drawn) l22 c22 k22
  have b22 := F22.binds (ps := ["_law_book_here", "_law_cell"]) fun _ _ _ _ _ _ us hl => by obtain ⟨_, _, rfl⟩ := len2 hl; rfl
  have m22 := PySem.W.mg_of X G a22
  have F23 := fun_mk (st := s_L_single) l23 c23 k23
  have b23 := F23.binds (ps := ["_law_book_here"]) fun _ _ _ _ _ _ us hl => by obtain ⟨_, rfl⟩ := len1 hl; rfl
  have m23 := PySem.W.mg_of X G a23
  have F24 := fun_mk (st := s_L_more) l24 c24 k24
  have b24 := F24.binds (ps := ["_law_book_here", "_law_rules", "_law_cell"]) fun _ _ _ _ _ _ us hl => by obtain ⟨_, _, _, rfl⟩ := len3 hl; rfl
  have m24 := PySem.W.mg_of X G a24
  have F25 := fun_mk (st := s_law) l25 c25 k25
  have y_len := PySem.W.mg_none_of X G z_len
  have y_abs := PySem.W.mg_none_of X G z_abs
  have y_range := PySem.W.mg_none_of X G z_range
  have y_list := PySem.W.mg_none_of X G z_list
  have y_enumerate := PySem.W.mg_none_of X G z_enumerate
  have y_min := PySem.W.mg_none_of X G z_min
  have y_max := PySem.W.mg_none_of X G z_max
  have y_str := PySem.W.mg_none_of X G z_str
  have y_isinstance := PySem.W.mg_none_of X G z_isinstance
  have y_set := PySem.W.mg_none_of X G z_set
  have y_all := PySem.W.mg_none_of X G z_all
  refine ⟨PySem.W.fnOf "law" "law" (defArgs s_law) (defBody s_law) (defScope s_law) .none kV25 dc25 pm25 an25 cd25 ct25, fun s v => .of_eq rfl, fun base _ _ => ?_⟩
  have D0 : Dfn l.prog w K mg base 1 _ _ _ := ok_top F0 b0 m0 
  have D1 : Dfn l.prog w K mg base 1 _ _ _ := ok_has F1 b1 m1 
  have D16 : Dfn l.prog w K mg base 1 _ _ _ := ok_cell F16 b16 m16 y_len
  have D17 : Dfn l.prog w K mg base 1 _ _ _ := ok_draws F17 b17 m17 y_abs y_range
  have D19 : Dfn l.prog w K mg base 1 _ _ _ := ok_closeL F19 b19 m19 
  have D20 : Dfn l.prog w K mg base 1 _ _ _ := ok_withinL F20 b20 m20 
  have D2 : Dfn l.prog w K mg base 2 _ _ _ := ok_all F2 b2 m2 y_list y_range D0
  have D3 : Dfn l.prog w K mg base 2 _ _ _ := ok_hold F3 b3 m3 y_enumerate D1
  have D4 : Dfn l.prog w K mg base 2 _ _ _ := ok_common F4 b4 m4 D0
  have D8 : Dfn l.prog w K mg base 2 _ _ _ := ok_place F8 b8 m8 y_enumerate D1
  have D11 : Dfn l.prog w K mg base 2 _ _ _ := ok_needed F11 b11 m11 D1
  have D18 : Dfn l.prog w K mg base 2 _ _ _ := ok_book F18 b18 m18 y_len D17
  have D21 : Dfn l.prog w K mg base 2 _ _ _ := ok_L_due F21 b21 m21 y_range y_len D19 D20
  have D22 : Dfn l.prog w K mg base 2 _ _ _ := ok_L_drawn F22 b22 m22 D17
  have D23 : Dfn l.prog w K mg base 2 _ _ _ := ok_L_single F23 b23 m23 y_range D19
  have D24 : Dfn l.prog w K mg base 2 _ _ _ := ok_L_more F24 b24 m24 y_list y_len D17 D19
  have D5 : Dfn l.prog w K mg base 3 _ _ _ := ok_closing F5 b5 m5 D4 D3
  have D7 : Dfn l.prog w K mg base 3 _ _ _ := ok_brought F7 b7 m7 D8
  have D9 : Dfn l.prog w K mg base 3 _ _ _ := ok_keeps F9 b9 m9 D8
  have D6 : Dfn l.prog w K mg base 4 _ _ _ := ok_isclosed F6 b6 m6 D5
  have D10 : Dfn l.prog w K mg base 4 _ _ _ := ok_follows F10 b10 m10 D7 (D1.mono (by decide)) (D11.mono (by decide))
  have D15 : Dfn l.prog w K mg base 4 _ _ _ := ok_serves F15 b15 m15 D5 (D1.mono (by decide))
  have D12 : Dfn l.prog w K mg base 5 _ _ _ := ok_few F12 b12 m12 (D2.mono (by decide)) D6 (D5.mono (by decide)) (D9.mono (by decide))
  have D14 : Dfn l.prog w K mg base 5 _ _ _ := ok_serving_place F14 b14 m14 y_enumerate D15
  have D13 : Dfn l.prog w K mg base 6 _ _ _ := ok_served F13 b13 m13 D12 D14
  exact ok_law F25 y_range y_len y_min y_max y_list y_str y_isinstance y_set y_all (D18.mono (by decide)) (D16.mono (by decide)) (D12.mono (by decide)) (D24.mono (by decide)) (D23.mono (by decide)) D13 (D21.mono (by decide)) (D22.mono (by decide)) (D10.mono (by decide))
theorem walk {l : PySem.W.OpenLaw} {q : Program} {loose : List Str} {XP : (Str → Option Value) → Heap → Prop} {YP : World → Heap → Prop} {d : DefRec} {K : Params → PySem.W.Frag} (hn : l.most = some 63) (hdf : d.params.defaults = [])
    (hY : ∀ (w : World) (h : Heap), YP w h → (K w.params).In h)
    (F : ∀ (w : World) (mg : Str → Option Value) (fa : Addr) (h : Heap), (K w.params).In h → h.Ns mainGlobals mg → mg d.name = some (.ref fa) →
      ∃ fd : FuncData, (∀ (s : Shared) (u : Value), BindsTo s fd ⟨[u], []⟩ [("_law_script", u)]) ∧ ∀ base : Heap, (K w.params).In base → base.Ns mainGlobals mg → FnOk l.prog w (K w.params) mg base CX0 7 fa fd ["_law_script"] (spLaw (K w.params))) :
    PySem.W.WalkO q loose XP YP l.row.toRowW d [] (fun f vs => PySem.call f vs) :=
  L2.walk_of (n := 63) (k := 7) (x := "_law_script") (CX := fun _ => CX0) (sp := fun w => spLaw (K w.params)) hn (by decide) hdf ⟨rfl, by decide, by decide, rfl⟩ hY F (fun _ _ a ns hl _ hS => ⟨a, ns, rfl, hS, hl, fun _ => rfl⟩) fun _ _ _ _ _ z => z
end OL.Q26
open PySem PySem.W PyProof.Rows
set_option maxRecDepth 100000 in
set_option maxHeartbeats 0 in
theorem PySem.Challenge.cw_oftenlots_k26_whole_no_fewer_rules_holds : PySem.Challenge.rw_oftenlots_k26_whole_no_fewer_rules.Holds := by
  w_on; o_law; k_head; (case hw => w_witness2)
  k_fill
  refine OL.Q26.walk (l := PySem.Challenge.rw_oftenlots_k26_whole_no_fewer_rules) rfl rfl (fun w h Y => PySem.W.kIn_of Y) ?F
  case F =>
    intro w mg fa h KX G hmg
    refine' OL.Q26.all_mk KX G hmg ?a0 ?l0 ?c0 ?k0 ?a1 ?l1 ?c1 ?k1 ?a2 ?l2 ?c2 ?k2 ?a3 ?l3 ?c3 ?k3 ?a4 ?l4 ?c4 ?k4 ?a5 ?l5 ?c5 ?k5 ?a6 ?l6 ?c6 ?k6 ?a7 ?l7 ?c7 ?k7 ?a8 ?l8 ?c8 ?k8 ?a9 ?l9 ?c9 ?k9 ?a10 ?l10 ?c10 ?k10 ?a11 ?l11 ?c11 ?k11 ?a12 ?l12 ?c12 ?k12 ?a13 ?l13 ?c13 ?k13 ?a14 ?l14 ?c14 ?k14 ?a15 ?l15 ?c15 ?k15 ?a16 ?l16 ?c16 ?k16 ?a17 ?l17 ?c17 ?k17 ?a18 ?l18 ?c18 ?k18 ?a19 ?l19 ?c19 ?k19 ?a20 ?l20 ?c20 ?k20 ?a21 ?l21 ?c21 ?k21 ?a22 ?l22 ?c22 ?k22 ?a23 ?l23 ?c23 ?k23 ?a24 ?l24 ?c24 ?k24 ?a25 ?l25 ?c25 ?k25 ?z_len ?z_abs ?z_range ?z_list ?z_enumerate ?z_min ?z_max ?z_str ?z_isinstance ?z_set ?z_all
    (case a0 => k_is)
    (case l0 => k_is)
    (case c0 => k_is)
    (case k0 => k_is)
    (case a1 => k_is)
    (case l1 => k_is)
    (case c1 => k_is)
    (case k1 => k_is)
    (case a2 => k_is)
    (case l2 => k_is)
    (case c2 => k_is)
    (case k2 => k_is)
    (case a3 => k_is)
    (case l3 => k_is)
    (case c3 => k_is)
    (case k3 => k_is)
    (case a4 => k_is)
    (case l4 => k_is)
    (case c4 => k_is)
    (case k4 => k_is)
    (case a5 => k_is)
    (case l5 => k_is)
    (case c5 => k_is)
    (case k5 => k_is)
    (case a6 => k_is)
    (case l6 => k_is)
    (case c6 => k_is)
    (case k6 => k_is)
    (case a7 => k_is)
    (case l7 => k_is)
    (case c7 => k_is)
    (case k7 => k_is)
    (case a8 => k_is)
    (case l8 => k_is)
    (case c8 => k_is)
    (case k8 => k_is)
    (case a9 => k_is)
    (case l9 => k_is)
    (case c9 => k_is)
    (case k9 => k_is)
    (case a10 => k_is)
    (case l10 => k_is)
    (case c10 => k_is)
    (case k10 => k_is)
    (case a11 => k_is)
    (case l11 => k_is)
    (case c11 => k_is)
    (case k11 => k_is)
    (case a12 => k_is)
    (case l12 => k_is)
    (case c12 => k_is)
    (case k12 => k_is)
    (case a13 => k_is)
    (case l13 => k_is)
    (case c13 => k_is)
    (case k13 => k_is)
    (case a14 => k_is)
    (case l14 => k_is)
    (case c14 => k_is)
    (case k14 => k_is)
    (case a15 => k_is)
    (case l15 => k_is)
    (case c15 => k_is)
    (case k15 => k_is)
    (case a16 => k_is)
    (case l16 => k_is)
    (case c16 => k_is)
    (case k16 => k_is)
    (case a17 => k_is)
    (case l17 => k_is)
    (case c17 => k_is)
    (case k17 => k_is)
    (case a18 => k_is)
    (case l18 => k_is)
    (case c18 => k_is)
    (case k18 => k_is)
    (case a19 => k_is)
    (case l19 => k_is)
    (case c19 => k_is)
    (case k19 => k_is)
    (case a20 => k_is)
    (case l20 => k_is)
    (case c20 => k_is)
    (case k20 => k_is)
    (case a21 => k_is)
    (case l21 => k_is)
    (case c21 => k_is)
    (case k21 => k_is)
    (case a22 => k_is)
    (case l22 => k_is)
    (case c22 => k_is)
    (case k22 => k_is)
    (case a23 => k_is)
    (case l23 => k_is)
    (case c23 => k_is)
    (case k23 => k_is)
    (case a24 => k_is)
    (case l24 => k_is)
    (case c24 => k_is)
    (case k24 => k_is)
    (case a25 => k_is)
    (case l25 => k_is)
    (case c25 => k_is)
    (case k25 => k_is)
    (case z_len => k_is)
    (case z_abs => k_is)
    (case z_range => k_is)
    (case z_list => k_is)
    (case z_enumerate => k_is)
    (case z_min => k_is)
    (case z_max => k_is)
    (case z_str => k_is)
    (case z_isinstance => k_is)
    (case z_set => k_is)
    (case z_all => k_is)
#print axioms PySem.Challenge.cw_oftenlots_k26_whole_no_fewer_rules_holds
