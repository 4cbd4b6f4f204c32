import PyProof.Rows.All
import Wide.All
import OpenK.AllK
import Wide.FinOn
import Lean
import PyProof.EqAt
import PyProof.EqKinds
import PyProof.TupleCall
import PyProof.Rows.SortShellK
import KE.KSortTup
import PyProof.AttrMissHeap
import KE.KDictOf
import KE.KDictSum
import KE.KRevSl
import KE.KItemsList
import PyProof.ReprBulk
import PyProof.Rows.ZipGen
import PyProof.ListRange
import KE.IntBitsLaws
import PyProof.NeKinds
import PySem.Challenge.RW_oftenlots_k83_parting_papers_looked_at
set_option Elab.async false
set_option linter.all false
set_option maxRecDepth 100000

/-! THE HAND LAYER, for ints, bools, texts, own classes, LISTS and tuples (index, slices, in, append, pop ..), calls, loops. Paste it whole ahead of your own text; what your proof does not reach may be deleted. -/
namespace L2
open PySem PySem.Spec PyProof.Rows

/-- a key: an int or a str -/
noncomputable abbrev Key := Sum Int Str
noncomputable def keyIs : Key → Value → Bool
  | .inl k, v => Value.isInt k v
  | .inr x, v => Value.isStrOf x v
noncomputable def keyH (w : World) : Key → Int
  | .inl k => hashInt k
  | .inr x => hashStr w x
theorem keyIs_shape : ∀ {k : Key} {v : Value}, keyIs k v = true → (∃ i t, k = Sum.inl i ∧ v = Value.int i t) ∨ (∃ x t, k = Sum.inr x ∧ v = Value.str x t)
  | .inl i, v, h => by
    obtain ⟨t, e⟩ := Value.isInt_shape (k := i) (v := v) h
    exact .inl ⟨i, t, rfl, e⟩
  | .inr x, v, h => by
    obtain ⟨t, e⟩ := Value.isStrOf_shape (x := x) (v := v) h
    exact .inr ⟨x, t, rfl, e⟩
theorem key_ll (a b : Int) : decide ((Sum.inl a : Key) = Sum.inl b) = (a == b) := by
  by_cases e : a = b
  · subst e; simp
  · have h : ¬ (Sum.inl a : Key) = Sum.inl b := fun q => e (Sum.inl.inj q)
    rw [decide_eq_false h]
    exact (beq_eq_false_iff_ne.mpr e).symm
theorem key_rr (a b : Str) : decide ((Sum.inr a : Key) = Sum.inr b) = decide (a = b) := by
  by_cases e : a = b
  · subst e; simp
  · have h : ¬ (Sum.inr a : Key) = Sum.inr b := fun q => e (Sum.inr.inj q)
    rw [decide_eq_false h, decide_eq_false e]
theorem key_lr (a : Int) (b : Str) : decide ((Sum.inl a : Key) = Sum.inr b) = false := decide_eq_false (fun q => nomatch q)
theorem key_rl (a : Str) (b : Int) : decide ((Sum.inr a : Key) = Sum.inl b) = false := decide_eq_false (fun q => nomatch q)

noncomputable def mixKind (prog : Program) (w : World) : PySem.KeyKind prog w Key where
  is := keyIs
  hash := keyH w
  inj := fun v a b ha hb => by
    rcases keyIs_shape ha with ⟨i, t, rfl, rfl⟩ | ⟨x, t, rfl, rfl⟩
    · rcases keyIs_shape hb with ⟨j, u, rfl, e⟩ | ⟨y, u, rfl, e⟩
      · injection e with e1 _; rw [e1]
      · exact nomatch e
    · rcases keyIs_shape hb with ⟨j, u, rfl, e⟩ | ⟨y, u, rfl, e⟩
      · exact nomatch e
      · injection e with e1 _; rw [e1]
  byValue := fun k v h => by
    rcases keyIs_shape h with ⟨i, t, rfl, rfl⟩ | ⟨x, t, rfl, rfl⟩ <;> rfl
  pyHash := fun hv h => by
    rcases keyIs_shape hv with ⟨i, t, rfl, rfl⟩ | ⟨x, t, rfl, rfl⟩
    · exact wpAny_pyHash_int h
    · exact wpAny_pyHash_str h
  eqBool := fun hu hv h => by
    rcases keyIs_shape hu with ⟨i, t, rfl, rfl⟩ | ⟨x, t, rfl, rfl⟩
    · rcases keyIs_shape hv with ⟨j, u, rfl, rfl⟩ | ⟨y, u, rfl, rfl⟩
      · rw [key_ll] at h; exact wpAny_eqBool_int h
      · rw [key_lr] at h; exact SeqAt.EqAt.int_str i t y u _ _ _ _ h
    · rcases keyIs_shape hv with ⟨j, u, rfl, rfl⟩ | ⟨y, u, rfl, rfl⟩
      · rw [key_rl] at h; exact SeqAt.EqAt.str_int x t j u _ _ _ _ h
      · rw [key_rr] at h; exact wpAny_eqBool_str h
  «strs» := fun k x t v h => by
    rcases keyIs_shape h with ⟨i, u, rfl, e⟩ | ⟨y, u, rfl, e⟩
    · exact nomatch e
    · injection e with e1 _
      subst e1
      cases v <;> rfl

end L2

namespace L2
open PySem PySem.Spec PyProof.Rows

/-- a value, without the heap -/
inductive V where
  | non | bl (b : Bool) | int (i : Int) | str (x : Str) | byt (b : Array UInt8) | flt (b : UInt64) | ref (a : Addr) | ty (n : String)
  deriving DecidableEq

noncomputable def RelV : V → Value → Prop
  | .non, u => u = Value.none
  | .bl b, u => u = Value.bool b
  | .int i, u => ∃ t, u = Value.int i t
  | .str x, u => ∃ t, u = Value.str x t
  | .byt b, u => ∃ t, u = Value.bytes b t
  | .flt b, u => ∃ t, u = Value.float b t
  | .ref a, u => u = Value.ref a
  | .ty n, u => u = Value.type n

noncomputable abbrev Vals : List V → List Value → Prop := Paired RelV
theorem Vals.length {xs : List V} {us : List Value} (r : Vals xs us) : xs.length = us.length := Paired.length r
theorem Vals.get : ∀ {xs : List V} {us : List Value} {i : Nat} {x : V}, Vals xs us → xs[i]? = some x → ∃ u, us[i]? = some u ∧ RelV x u
  | _, _, _, _, .nil, e => by simp at e
  | _, _, 0, _, .cons r _, e => by simp at e; subst e; exact ⟨_, rfl, r⟩
  | _, _, i + 1, x, .cons _ t, e => by
    obtain ⟨u, h1, h2⟩ := Vals.get (i := i) (x := x) t (by simpa using e)
    exact ⟨u, by simpa using h1, h2⟩
theorem Vals.set {x : V} {u : Value} (r : RelV x u) : ∀ {xs : List V} {us : List Value} (i : Nat), Vals xs us → Vals (xs.set i x) (us.set i u)
  | _, _, _, .nil => .nil
  | _, _, 0, .cons _ t => .cons r t
  | _, _, i + 1, .cons q t => .cons q (Vals.set r i t)
theorem Vals.append : ∀ {xs ys : List V} {us ws : List Value}, Vals xs us → Vals ys ws → Vals (xs ++ ys) (us ++ ws)
  | _, _, _, _, .nil, s => s
  | _, _, _, _, .cons r t, s => .cons r (Vals.append t s)
theorem Vals.take : ∀ {xs : List V} {us : List Value} (n : Nat), Vals xs us → Vals (xs.take n) (us.take n)
  | _, _, 0, _ => .nil
  | _, _, _ + 1, .nil => .nil
  | _, _, n + 1, .cons r t => .cons r (Vals.take n t)
theorem Vals.drop : ∀ {xs : List V} {us : List Value} (n : Nat), Vals xs us → Vals (xs.drop n) (us.drop n)
  | _, _, 0, r => r
  | _, _, _ + 1, .nil => .nil
  | _, _, n + 1, .cons _ t => Vals.drop n t
noncomputable def RelO : Option V → Option Value → Prop
  | some v, some u => RelV v u
  | none, none => True
  | _, _ => False
noncomputable def KV {κ : Type} : List (κ × V) → List (κ × Value) → Prop := Paired fun (p : κ × V) (q : κ × Value) => p.1 = q.1 ∧ RelV p.2 q.2

/-- a key of a dict (00_mix): an int or a text -/
noncomputable def kV : Key → V
  | .inl i => .int i
  | .inr x => .str x

/-- what stands at a tracked address -/
inductive HO where
  /-- a list -/
  | lst (xs : List V)
  /-- a tuple (never changes) -/
  | tup (xs : List V)
  /-- a dict whose keys are ints and texts; one whose keys are tuples of ints and texts (the empty one is both) -/
  | dK (kvs : List (Key × V)) | dT (kvs : List (List Key × V))
  /-- a set of ints: its members, its size -/
  | set (S : Int → Bool) (n : Nat)
  /-- an instance of the class at C, its dict at dx, its attributes -/
  | ins (C dx : Addr) (fs : List (Str × V))
  /-- the dict of the instance at x -/
  | own (x : Addr)
  /-- the dict of an exception -/
  | xd (fs : List (Str × V))
  /-- a bound method, f of x -/
  | met (f x : Addr)
  /-- a range object lo, lo + 1, .. below hi -/
  | rng (lo hi : Int)
  /-- a thing that is known to the object (the script; a dict while a loop walks it): read, never written while it is so -/
  | frz (o : Obj) (u : HO)
  /-- a code object's table -/
  | tbl (ps : Array Value)
  /-- any other thing, by what is true of its one object (a def of one's own: SetO a S n := HO.ext fun h => ..) -/
  | ext (φ : Heap → Prop)

noncomputable abbrev Hp := Addr → Option HO
noncomputable def upd (H : Hp) (a : Addr) (o : HO) : Hp := fun b => if b = a then some o else H b
theorem upd_same {H : Hp} {a : Addr} {o : HO} : upd H a o a = some o := by unfold upd; rw [if_pos rfl]
theorem upd_ne {H : Hp} {a b : Addr} {o : HO} (h : b ≠ a) : upd H a o b = H b := by unfold upd; rw [if_neg h]
/-- two objects of different content stand apart -/
theorem ne_of {H : Hp} {a b : Addr} {o u : HO} (h : H a = some o) (h' : H b = some u) (d : o ≠ u) : a ≠ b := by
  intro e; subst e; rw [h] at h'; exact d (Option.some.inj h')
theorem ne_of_none {H : Hp} {a b : Addr} {o : HO} (h : H a = some o) (h' : H b = none) : a ≠ b := by
  intro e; subst e; rw [h] at h'; cases h'

section
variable (P : Program) (w : World)
noncomputable def ObjOk (H : Hp) (h : Heap) (a : Addr) : HO → Prop
  | .lst xs => xs.length ≤ sizeLine ∧ ∃ (its : List Value) (n : Nat), Vals xs its ∧ h.get? a = some { cls := .type "list", data := .seq its.toArray n }
  | .tup xs => xs.length ≤ sizeLine ∧ ∃ its : List Value, Vals xs its ∧ IsTup h a its.toArray
  | .dK kvs => kvs.length ≤ sizeLine ∧ (a == sysModules) = false ∧ ∃ vs, KV kvs vs ∧ h.DictOf (mixKind P w) a vs
  | .dT kvs => kvs.length ≤ sizeLine ∧ (a == sysModules) = false ∧ ∃ xs : List (List Key × Addr × Value),
      Paired (fun (p : List Key × V) (q : List Key × Addr × Value) => p.1 = q.1 ∧ H q.2.1 = some (.tup (p.1.map kV)) ∧ RelV p.2 q.2.2) kvs xs ∧
      ∃ o es ep, h.get? a = some o ∧ o.ExactDict ∧ o.data = .dict es ep ∧ es.toList = xs.map (entryOfKey (tupleKind (mixKind P w))) ∧ (xs.map (·.1)).Nodup
  | .set S n => h.SetOf (intKind P w) a S n
  | .ins C dx fs => H dx = some (.own a) ∧ fs.length ≤ 1000 ∧ dx ≠ a ∧ h.get? a = some (PySem.W.instObj C dx) ∧
      ∃ mA, h.Ns1 dx mA ∧ (∀ f, RelO (fs.lookup f) (mA f)) ∧ PySem.Within mA (fs.map (·.1))
  | .own _ => ∃ o, h.get? a = some o
  | .xd fs => ∃ mA, h.Ns1 a mA ∧ ∀ f, RelO (fs.lookup f) (mA f)
  | .rng lo hi => ∃ t u v, h.get? a = some { cls := .type "range", data := .fields #[.int lo t, .int hi u, .int 1 v] }
  | .frz o u => h.get? a = some o ∧ ObjOk H h a u
  | .tbl ps => h.get? a = some { cls := .none, data := .fields ps }
  | .met f x => h.get? a = some (PySem.W.methodObj (.ref f) (.ref x))
  | .ext φ => φ h ∧ (∃ o, h.get? a = some o) ∧ ∀ h1 h2 : Heap, φ h1 → (∀ o, h1.get? a = some o → h2.get? a = some o) → φ h2
/-- the abstract heap is held -/
noncomputable def HOk (H : Hp) (h : Heap) : Prop := ∀ a o, H a = some o → ObjOk P w H h a o
end

section
variable {P : Program} {w : World} {H H' : Hp} {h h' : Heap} {a : Addr} {o : HO}
theorem ObjOk.lt (x : ObjOk P w H h a o) : a < h.objs.size := by
  cases o with
  | lst xs => obtain ⟨_, _, _, _, e⟩ := x; exact Heap.lt_size e
  | tup xs => obtain ⟨_, _, _, p⟩ := x; exact p.lt
  | dK kvs => obtain ⟨_, _, _, _, o, _, _, e, _⟩ := x; exact Heap.lt_size e
  | dT kvs => obtain ⟨_, _, _, _, o, _, _, e, _⟩ := x; exact Heap.lt_size e
  | set S n => obtain ⟨o, _, _, _, e, _⟩ := x; exact Heap.lt_size e
  | ins C dx fs => obtain ⟨_, _, _, e, _⟩ := x; exact Heap.lt_size e
  | own y => obtain ⟨_, e⟩ := x; exact Heap.lt_size e
  | xd fs => obtain ⟨_, ⟨_, _, _, e, _⟩, _⟩ := x; exact Heap.lt_size e
  | rng lo hi => obtain ⟨_, _, _, e⟩ := x; exact Heap.lt_size e
  | frz ob u => obtain ⟨e, _⟩ := x; exact Heap.lt_size e
  | tbl ps => exact Heap.lt_size (show h.get? a = some _ from x)
  | met f y => exact Heap.lt_size (show h.get? a = some _ from x)
  | ext φ => obtain ⟨_, ⟨_, e⟩, _⟩ := x; exact Heap.lt_size e
theorem Paired.mapP {α β : Type} {F G : α → β → Prop} : ∀ {l₁ : List α} {l₂ : List β}, Paired F l₁ l₂ → (∀ a b, F a b → G a b) → Paired G l₁ l₂
  | _, _, .nil, _ => .nil
  | _, _, .cons r t, f => .cons (f _ _ r) (Paired.mapP t f)
theorem Paired.imp' {α β : Type} {F G : α → β → Prop} (f : ∀ a b, F a b → G a b) {l₁ : List α} {l₂ : List β} (r : Paired F l₁ l₂) : Paired G l₁ l₂ := Paired.mapP r f
/-- what an object's description leans on: its own object, its own dict, the tuples -/
theorem ObjOk.stay (x : ObjOk P w H h a o) (k : ∀ b u, (b = a ∨ H b = some (.own a)) → h.get? b = some u → h'.get? b = some u)
    (ho : ∀ b, H b = some (.own a) → H' b = some (.own a)) (ht : ∀ b xs, H b = some (.tup xs) → H' b = some (.tup xs)) : ObjOk P w H' h' a o := by
  induction o with
  | lst xs => obtain ⟨z, its, n, r, e⟩ := x; exact ⟨z, its, n, r, k _ _ (.inl rfl) e⟩
  | tup xs => obtain ⟨z, its, r, ob, e, c⟩ := x; exact ⟨z, its, r, ob, k _ _ (.inl rfl) e, c⟩
  | dK kvs => obtain ⟨z, y, vs, r, ob, es, ep, e, c⟩ := x; exact ⟨z, y, vs, r, ob, es, ep, k _ _ (.inl rfl) e, c⟩
  | dT kvs =>
    obtain ⟨z, y, xs, r, ob, es, ep, e, c⟩ := x
    exact ⟨z, y, xs, Paired.mapP r fun p q z => ⟨z.1, ht _ _ z.2.1, z.2.2⟩, ob, es, ep, k _ _ (.inl rfl) e, c⟩
  | set S n => obtain ⟨ob, es, ep, t, e, c⟩ := x; exact ⟨ob, es, ep, t, k _ _ (.inl rfl) e, c⟩
  | ins C dx fs =>
    obtain ⟨d, z, ne, e, mA, ⟨od, es, ep, e2, c⟩, r⟩ := x
    exact ⟨ho _ d, z, ne, k _ _ (.inl rfl) e, mA, ⟨od, es, ep, k _ _ (.inr d) e2, c⟩, r⟩
  | own y => obtain ⟨ob, e⟩ := x; exact ⟨ob, k _ _ (.inl rfl) e⟩
  | xd fs => obtain ⟨mA, ⟨od, es, ep, e, c⟩, r⟩ := x; exact ⟨mA, ⟨od, es, ep, k _ _ (.inl rfl) e, c⟩, r⟩
  | rng lo hi => obtain ⟨t, u, v, e⟩ := x; exact ⟨t, u, v, k _ _ (.inl rfl) e⟩
  | frz ob u ih => obtain ⟨e, q⟩ := x; exact ⟨k _ _ (.inl rfl) e, ih q⟩
  | tbl ps =>
    have e : h.get? a = some { cls := .none, data := .fields ps } := x
    show h'.get? a = some { cls := .none, data := .fields ps }
    exact k a _ (.inl rfl) e
  | met f y =>
    have e : h.get? a = some (PySem.W.methodObj (.ref f) (.ref y)) := x
    show h'.get? a = some (PySem.W.methodObj (.ref f) (.ref y))
    exact k a _ (.inl rfl) e
  | ext φ => obtain ⟨p, ⟨o, e⟩, st⟩ := x; exact ⟨st _ _ p fun o q => k _ _ (.inl rfl) q, ⟨o, k _ _ (.inl rfl) e⟩, st⟩
theorem HOk.lt (x : HOk P w H h) (e : H a = some o) : a < h.objs.size := (x a o e).lt
theorem HOk.fresh (x : HOk P w H h) (e : h.objs.size ≤ a) : H a = none := by
  cases q : H a with
  | none => rfl
  | some u => exact absurd (Nat.lt_of_lt_of_le (x.lt q) e) (Nat.lt_irrefl _)
/-- every object of the heap is kept -/
theorem HOk.kept (x : HOk P w H h) (k : ∀ b u, h.get? b = some u → h'.get? b = some u) : HOk P w H h' := fun a o e =>
  (x a o e).stay (fun b u _ q => k b u q) (fun _ q => q) fun _ _ q => q
/-- a new object is laid and tracked -/
theorem HOk.laid (x : HOk P w H h) (k : ∀ b u, h.get? b = some u → h'.get? b = some u) (hp : h.objs.size ≤ a) (new : ObjOk P w (upd H a o) h' a o) : HOk P w (upd H a o) h' := fun b u e => by
  have hn := x.fresh hp
  by_cases hb : b = a
  · subst hb; rw [upd_same] at e; cases e; exact new
  · rw [upd_ne hb] at e
    exact (x b u e).stay (fun c v _ q => k c v q) (fun c q => by rw [upd_ne (ne_of_none q hn)]; exact q) fun c xs q => by rw [upd_ne (ne_of_none q hn)]; exact q
end

/-- what may be read as u: it is u, or a known u -/
noncomputable def Rd (H : Hp) (a : Addr) (u : HO) : Prop := H a = some u ∨ ∃ o, H a = some (.frz o u)
theorem Rd.ok {P : Program} {w : World} {H : Hp} {h : Heap} {a : Addr} {u : HO} (r : Rd H a u) (x : HOk P w H h) : ObjOk P w H h a u := by
  rcases r with r | ⟨o, r⟩
  · exact x a u r
  · obtain ⟨_, q⟩ := x a _ r
    exact q
/-- what may be written -/
noncomputable def Mut : Option HO → Prop
  | some (.lst _) => True
  | some (.dK _) => True
  | some (.dT _) => True
  | some (.set _ _) => True
  | some (.ins _ _ _) => True
  | some (.ext _) => True
  | _ => False
section
variable {P : Program} {w : World} {H : Hp} {h h' : Heap} {x e : Addr} {o' : HO}
/-- the object at e is changed: x itself, or the dict of the instance x -/
theorem HOk.write (ok : HOk P w H h) (mu : Mut (H x)) (he : e = x ∨ H e = some (.own x)) (k : ∀ b u, b ≠ e → h.get? b = some u → h'.get? b = some u) (heo : ∃ u, h'.get? e = some u)
    (new : ObjOk P w (upd H x o') h' x o') : HOk P w (upd H x o') h' := fun b u q => by
  have nown : ∀ c y, H c = some (.own y) → c ≠ x := fun c y r z => by subst z; rw [r] at mu; exact mu
  have ntup : ∀ c xs, H c = some (.tup xs) → c ≠ x := fun c xs r z => by subst z; rw [r] at mu; exact mu
  by_cases hb : b = x
  · subst hb; rw [upd_same] at q; cases q; exact new
  · rw [upd_ne hb] at q
    by_cases hbe : b = e
    · have q' : H b = some (.own x) := by
        rcases he with z | z
        · exact absurd (hbe.trans z) hb
        · rw [hbe]; exact z
      rw [q] at q'; cases q'
      obtain ⟨v, hv⟩ := heo
      exact ⟨v, by rw [hbe]; exact hv⟩
    · refine (ok b u q).stay (fun c v hc r => k c v ?_ r) (fun c r => by rw [upd_ne (nown c b r)]; exact r) fun c xs r => by rw [upd_ne (ntup c xs r)]; exact r
      rcases hc with rfl | hc
      · exact hbe
      · rintro rfl
        rcases he with z | z
        · exact nown c b hc z
        · rw [hc] at z; cases z; exact hb rfl
end

/-! ### kept unless tracked; of the frames at fs (the callers') the slots may change (an exception that passes writes there); of the records at ex (iterators) nothing is said -/
structure Un (fs ex : List Addr) (H H' : Hp) (h h' : Heap) : Prop where
  keep : ∀ b o, h.get? b = some o → H b = none → b ∉ fs → b ∉ ex → h'.get? b = some o
  slot : ∀ b o, h.get? b = some o → H b = none → b ∈ fs → b ∉ ex → ∃ sl, h'.get? b = some { o with slots := sl }
  free : ∀ b o, h.get? b = some o → H b = none → b ∉ ex → H' b = none
  there : ∀ b o, h.get? b = some o → b ∉ ex → ∃ o', h'.get? b = some o'
  tups : ∀ b xs, H b = some (.tup xs) → H' b = some (.tup xs)
  frzs : ∀ b o u, H b = some (.frz o u) → H' b = some (.frz o u)
  tbls : ∀ b ps, H b = some (.tbl ps) → ∃ more, H' b = some (.tbl (ps ++ more))
section
variable {fs fs' ex ex' : List Addr} {H H1 H2 : Hp} {h h1 h2 h' : Heap} {a x e : Addr} {o : HO}
theorem Un.any (u : Un fs ex H H1 h h1) {b : Addr} {ob : Obj} (q : h.get? b = some ob) (n : H b = none) (hx : b ∉ ex) : ∃ sl, h1.get? b = some { ob with slots := sl } := by
  by_cases hb : b ∈ fs
  · exact u.slot b ob q n hb hx
  · exact ⟨ob.slots, u.keep b ob q n hb hx⟩
theorem Un.kept (k : ∀ b u, h.get? b = some u → h'.get? b = some u) : Un fs ex H H h h' :=
  ⟨fun b ob q _ _ _ => k b ob q, fun b ob q _ _ _ => ⟨ob.slots, k b ob q⟩, fun _ _ _ n _ => n, fun b ob q _ => ⟨ob, k b ob q⟩, fun _ _ q => q, fun _ _ _ q => q, fun _ ps q => ⟨#[], by rw [q]; simp⟩⟩
theorem Un.refl : Un fs ex H H h h := Un.kept fun _ _ q => q
theorem Un.laid (k : ∀ b u, h.get? b = some u → h'.get? b = some u) (hp : h.objs.size ≤ a) (hn : H a = none) : Un fs ex H (upd H a o) h h' where
  keep := fun b u q _ _ _ => k b u q
  slot := fun b u q _ _ _ => ⟨u.slots, k b u q⟩
  free := fun b u q n _ => by rw [upd_ne (Nat.ne_of_lt (Nat.lt_of_lt_of_le (Heap.lt_size q) hp))]; exact n
  there := fun b u q _ => ⟨u, k b u q⟩
  tups := fun b xs q => by rw [upd_ne (ne_of_none q hn)]; exact q
  frzs := fun b u xs q => by rw [upd_ne (ne_of_none q hn)]; exact q
  tbls := fun b ps q => ⟨#[], by rw [upd_ne (ne_of_none q hn), q]; simp⟩
theorem Un.write (mu : Mut (H x)) (he : e = x ∨ H e = some (.own x)) (k : ∀ b u, b ≠ e → h.get? b = some u → h'.get? b = some u) (heo : ∃ u, h'.get? e = some u) : Un fs ex H (upd H x o) h h' := by
  have hx : ∀ b, H b = none → b ≠ x := fun b n z => by subst z; rw [n] at mu; exact mu
  have hb : ∀ b, H b = none → b ≠ e := fun b n z => by
    subst z
    rcases he with r | r
    · exact hx b n r
    · rw [n] at r; cases r
  have hm : ∀ b u, H b = some u → ¬ Mut (some u) → b ≠ x := fun b u q nm z => by subst z; rw [q] at mu; exact nm mu
  refine ⟨fun b u q n _ _ => k b u (hb b n) q, fun b u q n _ _ => ⟨u.slots, k b u (hb b n) q⟩, fun b u q n _ => by rw [upd_ne (hx b n)]; exact n, fun b u q _ => ?_,
    fun b xs q => by rw [upd_ne (hm b _ q fun z => z)]; exact q, fun b u xs q => by rw [upd_ne (hm b _ q fun z => z)]; exact q, fun b ps q => ⟨#[], by rw [upd_ne (hm b _ q fun z => z), q]; simp⟩⟩
  by_cases hbe : b = e
  · subst hbe; exact heo
  · exact ⟨u, k b u hbe q⟩
end

/-! ### the heap without what is tracked -/
noncomputable def trk (h : Heap) (H : Hp) : List Addr := (List.range h.objs.size).filter fun a => (H a).isSome
noncomputable def hidT (h : Heap) (H : Hp) : Heap := PySem.W.hideAll h (trk h H)
theorem hidT_size (h : Heap) (H : Hp) : (hidT h H).objs.size = h.objs.size := PySem.W.hideAll_size _ _
theorem hidT_get {h : Heap} {H : Hp} {b : Addr} {o : Obj} (e : h.get? b = some o) (n : H b = none) : (hidT h H).get? b = some o :=
  PySem.W.hideAll_get _ e fun hm => by
    have q : (H b).isSome = true := (List.mem_filter.mp hm).2
    rw [n] at q; simp at q
theorem of_hidT {h : Heap} {H : Hp} {b : Addr} {o : Obj} (e : (hidT h H).get? b = some o) : h.get? b = some o ∧ H b = none := by
  have e' : h.get? b = some o := PySem.W.of_hideAll (trk h H) e
  refine ⟨e', ?_⟩
  cases q : H b with
  | none => rfl
  | some x =>
    have hm : b ∈ trk h H := List.mem_filter.mpr ⟨List.mem_range.mpr (Heap.lt_size e'), by simp [q]⟩
    have z : (hidT h H).get? b = none := PySem.W.hideAll_none (trk h H) hm
    rw [z] at e; cases e

/-! ### OpenK's ledger, filled with every new object but one -/
noncomputable def allNews (g h : Heap) (L : Addr) : List (Addr × Obj) := (List.range h.objs.size).filterMap fun a => if a = L ∨ (g.get? a).isSome = true then none else (h.get? a).map fun o => (a, o)
noncomputable def rest (g h : Heap) (L d : Addr) : List (Addr × Obj) := (allNews g h L).filter fun p => decide (p.1 ≠ d)
end L2

namespace L2
open PySem PySem.Spec PyProof.Rows

/-- the module's facts, over the base: the heap at the law's entry without what is tracked there -/
structure Mod (K : PySem.W.Frag) (mg : Str → Option Value) (base : Heap) : Prop where
  kin : K.In base
  glob : base.Ns mainGlobals mg
  blt : ∃ mb, base.Ns builtinsNs mb ∧ ∀ x : Str, x ≠ "__name__" → mb x = bootBuiltins x
  nolimit : base.NoLimit

/-- the context: a def's body (or a comprehension's block) running. base: fixed through the whole law; s₀, H₀: the entry; outer: the frames whose slots others may change (a def's callers); stack: all frames that run;
   ex: iterators that were made ahead of the entry and are walked here (a comprehension's); fn: the names whose cells were made at the entry (a def: all; a comprehension's block: its own); calm: not within an except suite; pn: pins that every state bears; xe: what is wanted of an exception that leaves the code -/
structure Cx where
  prog : Program
  w : World
  K : PySem.W.Frag
  mg : Str → Option Value
  base : Heap
  A : Around
  N : List Str
  s₀ : Shared
  H₀ : Hp
  env : Env
  outer : List Env
  stack : List Env
  ex : List Addr
  fn : Str → Bool
  calm : Bool
  pn : List (Addr × Obj)
  xe : Value → Shared → Prop
/-- the callers' frames -/
noncomputable def frs (l : List Env) : List Addr := l.filterMap (·.frame)
noncomputable abbrev Cx.fs (X : Cx) : List Addr := frs X.outer

noncomputable def Vis (sc : Scope) (x : Str) : Prop := sc.names.lookup x = some .local ∨ sc.names.lookup x = some .cell ∨ sc.names.lookup x = some .free
noncomputable def Loc (sc : Scope) (x : Str) : Prop := sc.names.lookup x = some .local ∨ sc.names.lookup x = some .cell
noncomputable def Look (env : Env) (h : Heap) (m : Str → Option Value) (x : Str) (u : Value) : Prop :=
  (env.kindOf x = some .local ∧ m x = some u) ∨ ((env.kindOf x = some .cell ∨ env.kindOf x = some .free) ∧ ∃ c, env.cells.lookup x = some c ∧ h.IsCell c (some u))

structure Cx.Ok (X : Cx) : Prop where
  mod : Mod X.K X.mg X.base
  kind : X.env.scope.kind = .function
  glob : X.env.globals = mainGlobals
  blt : X.env.builtins = builtinsNs
  above : X.s₀.heap.objs.size ≤ X.env.locals
  inj : ∀ x y c, X.env.cells.lookup x = some c → X.env.cells.lookup y = some c → x = y
  has : ∀ x, (X.env.kindOf x = some .cell ∨ X.env.kindOf x = some .free) → ∃ c, X.env.cells.lookup x = some c
  cab : ∀ x c, X.fn x = true → X.env.cells.lookup x = some c → X.s₀.heap.objs.size ≤ c
  hd : X.calm = true → X.A.handled = none
  frames : X.A.frames = some X.stack
  stk : X.stack = X.outer ∨ (X.stack = X.env :: X.outer ∧ X.env.frame = some X.env.locals)
  exf : ∀ b ∈ X.ex, b ≠ X.env.locals ∧ ∀ x c, X.env.cells.lookup x = some c → c ≠ b
  bs : ∀ b o, X.base.get? b = some o → X.s₀.heap.get? b = some o ∧ X.H₀ b = none
  bsz : X.base.objs.size ≤ X.s₀.heap.objs.size
  noex : ∀ b o, X.base.get? b = some o → b ∉ X.ex
  exfs : ∀ b ∈ X.ex, b ∉ X.fs
  funs : X.s₀.heap.FunFrames X.base X.outer
  frf : ∀ b ∈ X.fs, X.H₀ b = none

structure Inv (X : Cx) (pins : List (Addr × Obj)) (σ : List (Option V)) (H : Hp) (s : Shared) : Prop where
  ok : X.Ok
  os : s.os = X.s₀.os
  bare : AllBare s.gens
  base : Un X.fs X.ex X.H₀ H X.s₀.heap s.heap
  loc : ∃ m, s.heap.Ns X.env.locals m ∧ ∀ (i : Nat) (x : Str) (v : V), X.N[i]? = some x → σ[i]? = some (some v) → Vis X.env.scope x → ∃ u, RelV v u ∧ Look X.env s.heap m x u
  cell : ∀ x c, X.env.cells.lookup x = some c → ∃ v, s.heap.IsCell c v
  free : H X.env.locals = none
  freeC : ∀ x c, X.env.cells.lookup x = some c → H c = none
  pin : ∀ p ∈ X.pn ++ pins, s.heap.get? p.1 = some p.2 ∧ H p.1 = none ∧ p.1 ≠ X.env.locals ∧ p.1 ∉ X.fs ∧ ∀ v, p.2.data ≠ .cell v
  hok : HOk X.prog X.w H s.heap
  len : σ.length = X.N.length

section
variable {X : Cx} {pins : List (Addr × Obj)} {σ : List (Option V)} {H H' : Hp} {s : Shared} {h' : Heap}

theorem Cx.Ok.nofr (ok : X.Ok) {b : Addr} {o : Obj} (e : X.base.get? b = some o) : b ∉ X.fs := fun hb => by
  have := (ok.funs.mem hb).1
  rw [e] at this; cases this
theorem Inv.bs (I : Inv X pins σ H s) : ∀ b o, X.base.get? b = some o → s.heap.get? b = some o ∧ H b = none := fun b o e =>
  ⟨I.base.keep b o (I.ok.bs b o e).1 (I.ok.bs b o e).2 (I.ok.nofr e) (I.ok.noex b o e), I.base.free b o (I.ok.bs b o e).1 (I.ok.bs b o e).2 (I.ok.noex b o e)⟩
theorem Inv.bk (I : Inv X pins σ H s) : ∀ b o, X.base.get? b = some o → s.heap.get? b = some o := fun b o e => (I.bs b o e).1
theorem Inv.mod (I : Inv X pins σ H s) : Mod X.K X.mg X.base := I.ok.mod
theorem Inv.kIn (I : Inv X pins σ H s) : X.K.In s.heap := I.ok.mod.kin.keeps I.bk
/-- the frame over the base: for OpenK's rules (K.In X.base is I.mod.kin) -/
theorem Inv.fr (I : Inv X pins σ H s) : ∃ m, Fr X.base X.env.locals s.heap m :=
  let ⟨m, hn, _⟩ := I.loc
  ⟨m, hn, I.bk, Nat.le_trans I.ok.bsz I.ok.above⟩
theorem Inv.lt (I : Inv X pins σ H s) : X.env.locals < s.heap.objs.size := let ⟨_, hn, _⟩ := I.loc; hn.lt
theorem Inv.sz (I : Inv X pins σ H s) : X.s₀.heap.objs.size ≤ s.heap.objs.size := Nat.le_trans I.ok.above (Nat.le_of_lt I.lt)
theorem Inv.nofs (I : Inv X pins σ H s) {a : Addr} (h : s.heap.objs.size ≤ a) : a ∉ X.fs := fun hb => by
  obtain ⟨_, o, ho, _⟩ := I.ok.funs.mem hb
  exact absurd (Nat.lt_of_lt_of_le (Heap.lt_size ho) (Nat.le_trans I.sz h)) (Nat.lt_irrefl _)
theorem Inv.cne (I : Inv X pins σ H s) : ∀ x c, X.env.cells.lookup x = some c → c ≠ X.env.locals := fun x c e z => by
  obtain ⟨v, o, ho, hd⟩ := I.cell x c e
  obtain ⟨m, ⟨o', es, ep, ho', hd', _⟩, _⟩ := I.loc
  rw [z, ho'] at ho; cases ho; rw [hd'] at hd; cases hd
theorem Inv.funs (I : Inv X pins σ H s) : s.heap.FunFrames X.base X.outer := by
  have all : ∀ (l : List Env), (∀ b ∈ frs l, b ∈ X.fs) → X.s₀.heap.FunFrames X.base l → s.heap.FunFrames X.base l := by
    intro l
    induction l with
    | nil => intro _ _; trivial
    | cons env r ih =>
      intro hs hl
      obtain ⟨hk, ⟨L, o, hf, hn, ho, hd⟩, hr⟩ := hl
      have hL : L ∈ X.fs := hs L (by unfold frs; rw [List.filterMap_cons, hf]; exact List.mem_cons_self)
      obtain ⟨sl, e⟩ := I.base.slot L o ho (I.ok.frf L hL) hL fun z => I.ok.exfs L z hL
      exact ⟨hk, ⟨L, _, hf, hn, e, hd⟩, ih (fun b hb => hs b (by unfold frs; rw [List.filterMap_cons, hf]; exact List.mem_cons_of_mem _ hb)) hr⟩
  exact all X.outer (fun _ hb => hb) I.ok.funs

/-- the frames that run, for a call -/
theorem Inv.stack (I : Inv X pins σ H s) : s.heap.FunFrames X.base X.stack := by
  rcases I.ok.stk with e | ⟨e, hf⟩
  · rw [e]; exact I.funs
  · rw [e]
    obtain ⟨m, hn, _⟩ := I.loc
    refine .cons (by rw [I.ok.kind]; decide) hf hn ?_ I.funs
    exact Heap.get?_none_of_le (Nat.le_trans I.ok.bsz I.ok.above)
theorem Inv.stkSub (I : Inv X pins σ H s) : ∀ b ∈ frs X.stack, b ∈ X.env.locals :: X.fs := fun b hb => by
  rcases I.ok.stk with e | ⟨e, hf⟩
  · rw [e] at hb; exact List.mem_cons_of_mem _ hb
  · rw [e] at hb
    unfold frs at hb
    rw [List.filterMap_cons, hf] at hb
    exact hb
theorem Inv.stkFree (I : Inv X pins σ H s) : ∀ b ∈ frs X.stack, H b = none := fun b hb => by
  rcases List.mem_cons.mp (I.stkSub b hb) with e | hb
  · rw [e]; exact I.free
  · obtain ⟨_, o, ho, _⟩ := I.ok.funs.mem hb
    exact I.base.free b o ho (I.ok.frf b hb) fun z => I.ok.exfs b z hb

/-- THE STEP: the untracked objects but the frame and the records at ch are kept (the callers' frames up to slots), the frame's map is kept, the new abstract heap is held -/
theorem Inv.step {g' : Array GenState} {t' : Nat} {d' : Drawn} {ch : List Addr} (I : Inv X pins σ H s)
    (hch : ∀ b ∈ ch, (b ∈ X.ex ∨ X.s₀.heap.objs.size ≤ b) ∧ b ≠ X.env.locals ∧ (∀ x c, X.env.cells.lookup x = some c → c ≠ b) ∧ ∀ p ∈ X.pn ++ pins, p.1 ≠ b)
    (keep : ∀ b o, b ≠ X.env.locals → b ∉ X.fs → b ∉ ch → s.heap.get? b = some o → H b = none → h'.get? b = some o)
    (slot : ∀ b o, b ≠ X.env.locals → b ∈ X.fs → b ∉ ch → s.heap.get? b = some o → H b = none → ∃ sl, h'.get? b = some { o with slots := sl }) (free : ∀ b o, b ∉ ch → s.heap.get? b = some o → H b = none → H' b = none)
    (there : ∀ b o, b ∉ ch → s.heap.get? b = some o → ∃ o', h'.get? b = some o')
    (tups : ∀ b xs, H b = some (.tup xs) → H' b = some (.tup xs)) (frzs : ∀ b o u, H b = some (.frz o u) → H' b = some (.frz o u)) (tbls : ∀ b ps, H b = some (.tbl ps) → ∃ more, H' b = some (.tbl (ps ++ more)))
    (ns : ∀ m, s.heap.Ns X.env.locals m → h'.Ns X.env.locals m) (hok : HOk X.prog X.w H' h') (hg : AllBare g') :
    Inv X pins σ H' { s with heap := h', gens := g', drawn := d', toks := t' } := by
  have neL : ∀ b o, X.s₀.heap.get? b = some o → b ≠ X.env.locals := fun b o e => Nat.ne_of_lt (Nat.lt_of_lt_of_le (Heap.lt_size e) I.ok.above)
  have neC : ∀ b o, X.s₀.heap.get? b = some o → b ∉ X.ex → b ∉ ch := fun b o e hx hb => by
    rcases (hch b hb).1 with z | z
    · exact hx z
    · exact absurd (Nat.lt_of_lt_of_le (Heap.lt_size e) z) (Nat.lt_irrefl _)
  have cellK : ∀ x c, X.env.cells.lookup x = some c → ∀ v, s.heap.IsCell c v → h'.IsCell c v := fun x c e v ⟨o, ho, hd⟩ => by
    have nch : c ∉ ch := fun z => (hch c z).2.2.1 x c e rfl
    by_cases hc : c ∈ X.fs
    · obtain ⟨sl, q⟩ := slot c o (I.cne x c e) hc nch ho (I.freeC x c e)
      exact ⟨_, q, hd⟩
    · exact ⟨o, keep c o (I.cne x c e) hc nch ho (I.freeC x c e), hd⟩
  refine ⟨I.ok, I.os, hg, ⟨fun b o e n hb hx => ?_, fun b o e n hb hx => ?_, fun b o e n hx => ?_, fun b o e hx => ?_, fun b xs e => tups b xs (I.base.tups b xs e), fun b o xs e => frzs b o xs (I.base.frzs b o xs e), fun b ps e => ?_⟩, ?_, fun x c e => ?_, ?_, fun x c e => ?_, fun p hp => ?_, hok, I.len⟩
  · exact keep b o (neL b o e) hb (neC b o e hx) (I.base.keep b o e n hb hx) (I.base.free b o e n hx)
  · obtain ⟨sl, e1⟩ := I.base.slot b o e n hb hx
    obtain ⟨sl', e2⟩ := slot b _ (neL b o e) hb (neC b o e hx) e1 (I.base.free b o e n hx)
    exact ⟨sl', e2⟩
  · obtain ⟨o', e1⟩ := I.base.there b o e hx
    exact free b o' (neC b o e hx) e1 (I.base.free b o e n hx)
  · obtain ⟨o', e1⟩ := I.base.there b o e hx
    exact there b o' (neC b o e hx) e1
  · obtain ⟨m1, e1⟩ := I.base.tbls b ps e
    obtain ⟨m2, e2⟩ := tbls b _ e1
    exact ⟨m1 ++ m2, by rw [e2, Array.append_assoc]⟩
  · obtain ⟨m, hn, hl⟩ := I.loc
    refine ⟨m, ns m hn, fun i x v e1 e2 e3 => ?_⟩
    obtain ⟨u, r, l⟩ := hl i x v e1 e2 e3
    refine ⟨u, r, ?_⟩
    rcases l with l | ⟨k, c, e, z⟩
    · exact .inl l
    · exact .inr ⟨k, c, e, cellK x c e _ z⟩
  · obtain ⟨v, z⟩ := I.cell x c e
    exact ⟨v, cellK x c e v z⟩
  · obtain ⟨m, ⟨o, _, _, ho, _⟩, _⟩ := I.loc
    exact free _ o (fun z => (hch _ z).2.1 rfl) ho I.free
  · obtain ⟨v, o, ho, hd⟩ := I.cell x c e
    exact free c o (fun z => (hch c z).2.2.1 x c e rfl) ho (I.freeC x c e)
  · obtain ⟨e, n, ne, nf, d⟩ := I.pin p hp
    have nch : p.1 ∉ ch := fun z => (hch p.1 z).2.2.2 p hp rfl
    exact ⟨keep p.1 p.2 ne nf nch e n, free p.1 p.2 nch e n, ne, nf, d⟩
/-- .. where the frame's own object is kept too -/
theorem Inv.un {t' : Nat} (I : Inv X pins σ H s) (u : Un X.fs [] H H' s.heap h') (hok : HOk X.prog X.w H' h') : Inv X pins σ H' { s with heap := h', toks := t' } := by
  obtain ⟨m, ⟨o, es, ep, ho, r⟩, _⟩ := id I.loc
  obtain ⟨sl, hL⟩ := u.any ho I.free (by simp)
  exact I.step (g' := s.gens) (d' := s.drawn) (ch := []) (fun _ z => nomatch z) (fun b o _ hb _ e n => u.keep b o e n hb (by simp)) (fun b o _ hb _ e n => u.slot b o e n hb (by simp)) (fun b o _ e n => u.free b o e n (by simp)) (fun b o _ e => u.there b o e (by simp)) u.tups u.frzs u.tbls (fun m' hm => by
    obtain ⟨o', es', ep', ho', r'⟩ := hm
    rw [ho] at ho'; cases ho'
    exact ⟨_, es', ep', hL, r'⟩) hok I.bare
/-- behind a call (or a comprehension's block): the slots of this frame may have changed too, the records at ch may have turned -/
theorem Inv.call {g' : Array GenState} {t' : Nat} {d' : Drawn} {ch : List Addr} (I : Inv X pins σ H s) (u : Un (frs X.stack) ch H H' s.heap h') (hok : HOk X.prog X.w H' h') (hg : AllBare g')
    (hch : ∀ b ∈ ch, (b ∈ X.ex ∨ X.s₀.heap.objs.size ≤ b) ∧ b ≠ X.env.locals ∧ (∀ x c, X.env.cells.lookup x = some c → c ≠ b) ∧ ∀ p ∈ X.pn ++ pins, p.1 ≠ b) :
    Inv X pins σ H' { s with heap := h', gens := g', drawn := d', toks := t' } := by
  obtain ⟨m, ⟨o, es, ep, ho, r⟩, _⟩ := id I.loc
  obtain ⟨sl, hL⟩ := u.any ho I.free fun z => (hch _ z).2.1 rfl
  exact I.step (ch := ch) hch (fun b o hL hb hc e n => u.keep b o e n (fun z => (List.mem_cons.mp (I.stkSub b z)).elim hL hb) hc) (fun b o _ _ hc e n => u.any e n hc) (fun b o hc e n => u.free b o e n hc) (fun b o hc e => u.there b o e hc) u.tups u.frzs u.tbls (fun m' hm => by
    obtain ⟨o', es', ep', ho', r'⟩ := hm
    rw [ho] at ho'; cases ho'
    exact ⟨_, es', ep', hL, r'⟩) hok hg
/-- an untracked record of ours (an iterator) has turned -/
theorem Inv.turned {t' : Nat} {it : Addr} (I : Inv X pins σ H s) (k : ∀ b o, b ≠ it → s.heap.get? b = some o → h'.get? b = some o) (hn : H it = none) (hL : it ≠ X.env.locals)
    (h1 : it ∈ X.ex ∨ X.s₀.heap.objs.size ≤ it) (h2 : ∀ x c, X.env.cells.lookup x = some c → c ≠ it) (h3 : ∀ p ∈ X.pn ++ pins, p.1 ≠ it) : Inv X pins σ H { s with heap := h', toks := t' } := by
  have nit : ∀ b u, H b = some u → b ≠ it := fun b u e z => by rw [z, hn] at e; cases e
  refine I.step (g' := s.gens) (d' := s.drawn) (ch := [it]) (fun b hb => ?_) (fun b o _ _ hc e _ => k b o (fun z => hc (by simp [z])) e) (fun b o _ _ hc e _ => ⟨o.slots, k b o (fun z => hc (by simp [z])) e⟩) (fun _ _ _ _ n => n)
    (fun b o hc e => ⟨o, k b o (fun z => hc (by simp [z])) e⟩) (fun _ _ e => e) (fun _ _ _ e => e) (fun b ps e => ⟨#[], by rw [e]; simp⟩) (fun m hm => ?_) (fun b u e => ?_) I.bare
  · have e : b = it := by simpa using hb
    subst e
    exact ⟨h1, hL, h2, h3⟩
  · obtain ⟨o, es, ep, ho, r⟩ := hm
    exact ⟨o, es, ep, k _ o (Ne.symm hL) ho, r⟩
  · refine (I.hok b u e).stay (fun c v hc q => k c v ?_ q) (fun _ q => q) fun _ _ q => q
    rcases hc with z | z
    · rw [z]; exact nit b u e
    · exact nit c _ z
theorem Inv.tok (I : Inv X pins σ H s) (t : Nat) : Inv X pins σ H { s with toks := t } := I.un (h' := s.heap) (t' := t) Un.refl I.hok
/-- all objects kept -/
theorem Inv.kept {t' : Nat} (I : Inv X pins σ H s) (k : ∀ b u, s.heap.get? b = some u → h'.get? b = some u) : Inv X pins σ H { s with heap := h', toks := t' } := I.un (Un.kept k) (I.hok.kept k)
/-- a new object laid and tracked -/
theorem Inv.laid {a : Addr} {o : HO} {t' : Nat} (I : Inv X pins σ H s) (k : ∀ b u, s.heap.get? b = some u → h'.get? b = some u) (hp : s.heap.objs.size ≤ a) (new : ObjOk X.prog X.w (upd H a o) h' a o) :
    Inv X pins σ (upd H a o) { s with heap := h', toks := t' } := I.un (Un.laid k hp (I.hok.fresh hp)) (I.hok.laid k hp new)
/-- an object written -/
theorem Inv.write {x e : Addr} {o : HO} {t' : Nat} (I : Inv X pins σ H s) (mu : Mut (H x)) (he : e = x ∨ H e = some (.own x)) (k : ∀ b u, b ≠ e → s.heap.get? b = some u → h'.get? b = some u) (heo : ∃ u, h'.get? e = some u)
    (new : ObjOk X.prog X.w (upd H x o) h' x o) : Inv X pins σ (upd H x o) { s with heap := h', toks := t' } := I.un (Un.write mu he k heo) (I.hok.write mu he k heo new)
/-- forgetting slots, pins -/
theorem Inv.weak {σ' : List (Option V)} (I : Inv X pins σ H s) (hl : σ'.length = σ.length) (w : ∀ (i : Nat) v, σ'[i]? = some (some v) → σ[i]? = some (some v)) : Inv X pins σ' H s :=
  ⟨I.ok, I.os, I.bare, I.base, let ⟨m, hn, hl'⟩ := I.loc; ⟨m, hn, fun i x v e1 e2 e3 => hl' i x v e1 (w i v e2) e3⟩, I.cell, I.free, I.freeC, I.pin, I.hok, hl.trans I.len⟩
theorem Inv.pins_of {pins' : List (Addr × Obj)} (I : Inv X pins σ H s) (h : ∀ p ∈ pins', s.heap.get? p.1 = some p.2 ∧ H p.1 = none ∧ p.1 ≠ X.env.locals ∧ p.1 ∉ X.fs ∧ ∀ v, p.2.data ≠ .cell v) : Inv X pins' σ H s :=
  ⟨I.ok, I.os, I.bare, I.base, I.loc, I.cell, I.free, I.freeC, fun p hp => (List.mem_append.mp hp).elim (fun z => I.pin p (List.mem_append_left _ z)) (h p), I.hok, I.len⟩

theorem nodup_ix {N : List Str} (hN : N.Nodup) {i j : Nat} {x : Str} (a : N[i]? = some x) (b : N[j]? = some x) : i = j := by
  obtain ⟨h1, e1⟩ := List.getElem?_eq_some_iff.mp a
  obtain ⟨h2, e2⟩ := List.getElem?_eq_some_iff.mp b
  exact (List.getElem_inj hN).mp (e1.trans e2.symm)

/-- a name is stored; what changed -/
theorem store_ok2 {M : Model} {A : Around} {E : Value → Shared → Prop} {i : Nat} {x : Str} {v : V} {u : Value} {Q : Unit → Shared → Prop} (I : Inv X pins σ H s) (hN : X.N.Nodup) (hi : X.N[i]? = some x) (hx : Loc X.env.scope x) (r : RelV v u)
    (h : ∀ s', Inv X pins (σ.set i (some v)) H s' → (∃ a, Heap.SameBut a s.heap s'.heap ∧ (a = X.env.locals ∨ X.env.cells.lookup x = some a)) → Q () s') (hf : X.fn x = true ∨ X.env.scope.names.lookup x = some .local := by first | exact .inl rfl | exact .inr rfl | assumption) : wpAny M A (storeName X.env x u) Q E s := by
  obtain ⟨m, hn, hl⟩ := id I.loc
  have hcls : (X.env.scope.kind == .class || (X.env.scope.kind == .module && X.env.locals != X.env.globals)) = false := by rw [I.ok.kind]; rfl
  have hiσ : i < σ.length := by rw [I.len]; exact (List.getElem?_eq_some_iff.mp hi).1
  have cne := I.cne
  have tracked : ∀ {a : Addr} {h' : Heap}, (∃ o, s.heap.get? a = some o ∧ H a = none) → Heap.SameBut a s.heap h' → HOk X.prog X.w H h' := fun {a h'} ha hs b ob e => by
    obtain ⟨_, _, hfree⟩ := ha
    refine (I.hok b ob e).stay (fun c w' hc q => (hs.2 c ?_).trans q) (fun _ q => q) fun _ _ q => q
    rintro rfl
    rcases hc with rfl | hc
    · rw [hfree] at e; cases e
    · rw [hfree] at hc; cases hc
  rcases hx with hk | hk
  · refine wpAny_storeName_local hk hn (fun h' hn' hs => ?_) hcls
    obtain ⟨oL, _, _, hoL, _⟩ := id hn
    refine h _ ⟨I.ok, I.os, I.bare, ⟨fun b o e n hb hx => ?_, fun b o e n hb hx => ?_, I.base.free, fun b o e hx => ?_, I.base.tups, I.base.frzs, I.base.tbls⟩, ⟨_, hn', fun j y v' e1 e2 e3 => ?_⟩, fun y c e => ?_, I.free, I.freeC, fun p hp => ?_, tracked ⟨oL, hoL, I.free⟩ hs, by simpa using I.len⟩ ⟨_, hs, .inl rfl⟩
    · exact (hs.2 b (Nat.ne_of_lt (Nat.lt_of_lt_of_le (Heap.lt_size e) I.ok.above))).trans (I.base.keep b o e n hb hx)
    · obtain ⟨sl, e1⟩ := I.base.slot b o e n hb hx
      exact ⟨sl, (hs.2 b (Nat.ne_of_lt (Nat.lt_of_lt_of_le (Heap.lt_size e) I.ok.above))).trans e1⟩
    · obtain ⟨o', e1⟩ := I.base.there b o e hx
      exact ⟨o', (hs.2 b (Nat.ne_of_lt (Nat.lt_of_lt_of_le (Heap.lt_size e) I.ok.above))).trans e1⟩
    · by_cases hj : j = i
      · subst hj
        rw [hi] at e1; cases e1
        rw [List.getElem?_set_self hiσ] at e2
        cases e2
        exact ⟨u, r, .inl ⟨hk, by simp⟩⟩
      · rw [List.getElem?_set_ne (Ne.symm hj)] at e2
        obtain ⟨u', r', q⟩ := hl j y v' e1 e2 e3
        refine ⟨u', r', ?_⟩
        rcases q with ⟨k, e⟩ | ⟨k, c, e, z⟩
        · refine .inl ⟨k, ?_⟩
          have : y ≠ x := fun e => hj (nodup_ix hN e1 (e ▸ hi))
          simp [this, e]
        · exact .inr ⟨k, c, e, z.sameBut hs (cne y c e)⟩
    · obtain ⟨w', z⟩ := I.cell y c e
      exact ⟨w', z.sameBut hs (cne y c e)⟩
    · obtain ⟨e, n, ne, nf, d⟩ := I.pin p hp
      exact ⟨(hs.2 p.1 ne).trans e, n, ne, nf, d⟩
  · have hfn : X.fn x = true := by
      rcases hf with z | z
      · exact z
      · rw [z] at hk; cases hk
    obtain ⟨c, hc⟩ := I.ok.has x (.inl hk)
    obtain ⟨w', z⟩ := I.cell x c hc
    refine wpAny_storeName_cell I.ok.kind hk hc z (fun h' hc' hs => ?_)
    obtain ⟨oc, hoc, hocd⟩ := id z
    refine h { s with heap := h' } ⟨I.ok, I.os, I.bare, ⟨fun b o e n hb hx => ?_, fun b o e n hb hx => ?_, I.base.free, fun b o e hx => ?_, I.base.tups, I.base.frzs, I.base.tbls⟩, ⟨m, hn.sameBut hs (Ne.symm (cne x c hc)), fun j y v' e1 e2 e3 => ?_⟩, fun y c' e => ?_, I.free, I.freeC, fun p hp => ?_, tracked ⟨oc, hoc, I.freeC x c hc⟩ hs, by simpa using I.len⟩ ⟨c, hs, .inr hc⟩
    · exact (hs.2 b (Nat.ne_of_lt (Nat.lt_of_lt_of_le (Heap.lt_size e) (I.ok.cab x c hfn hc)))).trans (I.base.keep b o e n hb hx)
    · obtain ⟨sl, e1⟩ := I.base.slot b o e n hb hx
      exact ⟨sl, (hs.2 b (Nat.ne_of_lt (Nat.lt_of_lt_of_le (Heap.lt_size e) (I.ok.cab x c hfn hc)))).trans e1⟩
    · obtain ⟨o', e1⟩ := I.base.there b o e hx
      exact ⟨o', (hs.2 b (Nat.ne_of_lt (Nat.lt_of_lt_of_le (Heap.lt_size e) (I.ok.cab x c hfn hc)))).trans e1⟩
    · by_cases hj : j = i
      · subst hj
        rw [hi] at e1; cases e1
        rw [List.getElem?_set_self hiσ] at e2
        cases e2
        exact ⟨u, r, .inr ⟨.inl hk, c, hc, hc'⟩⟩
      · rw [List.getElem?_set_ne (Ne.symm hj)] at e2
        obtain ⟨u', r', q⟩ := hl j y v' e1 e2 e3
        refine ⟨u', r', ?_⟩
        rcases q with q | ⟨k, c', e, z'⟩
        · exact .inl q
        · refine .inr ⟨k, c', e, z'.sameBut hs ?_⟩
          rintro rfl
          exact hj (nodup_ix hN e1 (I.ok.inj _ _ _ e hc ▸ hi))
    · by_cases hcc : c' = c
      · subst hcc; exact ⟨_, hc'⟩
      · obtain ⟨w2, z2⟩ := I.cell y c' e
        exact ⟨w2, z2.sameBut hs hcc⟩
    · obtain ⟨e, n, ne, nf, d⟩ := I.pin p hp
      refine ⟨(hs.2 p.1 ?_).trans e, n, ne, nf, d⟩
      intro q
      rw [q, hoc] at e
      have q' : oc = p.2 := Option.some.inj e
      exact d w' (by rw [← q']; exact hocd)
theorem store_ok {M : Model} {A : Around} {E : Value → Shared → Prop} {i : Nat} {x : Str} {v : V} {u : Value} {Q : Unit → Shared → Prop} (I : Inv X pins σ H s) (hN : X.N.Nodup) (hi : X.N[i]? = some x) (hx : Loc X.env.scope x) (r : RelV v u)
    (h : ∀ s', Inv X pins (σ.set i (some v)) H s' → Q () s') (hf : X.fn x = true ∨ X.env.scope.names.lookup x = some .local := by first | exact .inl rfl | exact .inr rfl | assumption) : wpAny M A (storeName X.env x u) Q E s :=
  store_ok2 I hN hi hx r (fun s' I' _ => h s' I') hf
/-- behind a call or a block, the state as it is -/
theorem Inv.call' {s' : Shared} {ch : List Addr} (I : Inv X pins σ H s) (ho : s'.os = s.os) (u : Un (frs X.stack) ch H H' s.heap s'.heap) (hok : HOk X.prog X.w H' s'.heap) (hg : AllBare s'.gens)
    (hch : ∀ b ∈ ch, (b ∈ X.ex ∨ X.s₀.heap.objs.size ≤ b) ∧ b ≠ X.env.locals ∧ (∀ x c, X.env.cells.lookup x = some c → c ≠ b) ∧ ∀ p ∈ X.pn ++ pins, p.1 ≠ b) : Inv X pins σ H' s' := by
  obtain ⟨h', g', d', t', o'⟩ := s'
  have e : o' = s.os := ho
  subst e
  exact I.call (g' := g') (t' := t') (d' := d') u hok hg hch
end

/-! ### the judgements -/
/-- an exception: its class, its own dict's address (where it has one), the abstract heap behind it -/
noncomputable abbrev XK := Value → Option Addr → Hp → Prop
noncomputable abbrev St := List (Option V)
noncomputable abbrev VK := V → Hp → Prop
/-- an expression's reading; a test's; an argument list's -/
noncomputable abbrev TE := St → Hp → VK → Prop
noncomputable abbrev TT := St → Hp → (Bool → Hp → Prop) → Prop
noncomputable abbrev TA := St → Hp → (List V → Hp → Prop) → Prop
/-- what is wanted behind a statement -/
structure Ends where
  nx : St → Hp → Prop
  rt : VK
  bk : St → Hp → Prop := fun _ _ => False
  ct : St → Hp → Prop := fun _ _ => False
noncomputable abbrev TS := Ends → St → Hp → Prop

noncomputable def EP (X : Cx) (pins : List (Addr × Obj)) (σ : St) (Q : VK) (u : Value) (s' : Shared) : Prop := ∃ v H', Inv X pins σ H' s' ∧ RelV v u ∧ Q v H'
noncomputable def TP (X : Cx) (pins : List (Addr × Obj)) (σ : St) (Q : Bool → Hp → Prop) (b : Bool) (s' : Shared) : Prop := ∃ H', Inv X pins σ H' s' ∧ Q b H'
noncomputable def AP (X : Cx) (pins : List (Addr × Obj)) (σ : St) (Q : List V → Hp → Prop) (us : List Value) (s' : Shared) : Prop := ∃ vs H', Inv X pins σ H' s' ∧ Vals vs us ∧ Q vs H'
noncomputable def SP (X : Cx) (pins : List (Addr × Obj)) (D : Ends) (f : Flow) (s' : Shared) : Prop :=
  match f with
  | .next => ∃ σ' H', Inv X pins σ' H' s' ∧ D.nx σ' H'
  | .brk => ∃ σ' H', Inv X pins σ' H' s' ∧ D.bk σ' H'
  | .cont => ∃ σ' H', Inv X pins σ' H' s' ∧ D.ct σ' H'
  | .ret u => ∃ v σ' H', Inv X pins σ' H' s' ∧ RelV v u ∧ D.rt v H'

noncomputable def PE (X : Cx) (e : Expr) (t : TE) : Prop :=
  ∀ (pins : List (Addr × Obj)) (s : Shared) (σ : St) (H : Hp) (Q : VK), Inv X pins σ H s → t σ H Q → wpAny (model X.prog X.w) X.A (eval e X.env) (EP X pins σ Q) X.xe s
noncomputable def PT (X : Cx) (e : Expr) (t : TT) : Prop :=
  ∀ (pins : List (Addr × Obj)) (s : Shared) (σ : St) (H : Hp) (Q : Bool → Hp → Prop), Inv X pins σ H s → t σ H Q → wpAny (model X.prog X.w) X.A (isTrue e X.env (eval e X.env)) (TP X pins σ Q) X.xe s
/-- a test whatever its 'whole' is (and, or) -/
noncomputable def PW (X : Cx) (e : Expr) (t : TT) : Prop :=
  ∀ (whole : Sem Value) (pins : List (Addr × Obj)) (s : Shared) (σ : St) (H : Hp) (Q : Bool → Hp → Prop), Inv X pins σ H s → t σ H Q → wpAny (model X.prog X.w) X.A (isTrue e X.env whole) (TP X pins σ Q) X.xe s
theorem PW.pt {X : Cx} {e : Expr} {t : TT} (h : PW X e t) : PT X e t := h _
/-- an argument list (no star), from the left -/
noncomputable def PA (X : Cx) (es : List Expr) (t : TA) : Prop :=
  ∀ (pos : Pos) (pins : List (Addr × Obj)) (s : Shared) (σ : St) (H : Hp) (Q : List V → Hp → Prop), Inv X pins σ H s → t σ H Q → wpAny (model X.prog X.w) X.A (spliced (backTo pos (starEach es X.env))) (AP X pins σ Q) X.xe s
noncomputable def PS (X : Cx) (st : Stmt) (t : TS) : Prop :=
  ∀ (pins : List (Addr × Obj)) (s : Shared) (σ : St) (H : Hp) (D : Ends), Inv X pins σ H s → t D σ H → wpAny (model X.prog X.w) X.A (exec st X.env) (SP X pins D) X.xe s
noncomputable def PSs (X : Cx) (st : List Stmt) (t : TS) : Prop :=
  ∀ (pins : List (Addr × Obj)) (s : Shared) (σ : St) (H : Hp) (D : Ends), Inv X pins σ H s → t D σ H → wpAny (model X.prog X.w) X.A (execs st X.env) (SP X pins D) X.xe s
/-- weaken the end -/
theorem thn {α : Type} {t : Sem α} {Q Q' : α → Shared → Prop} {M : Model} {A : Around} {E : Value → Shared → Prop} {s : Shared} (h : wpAny M A t Q E s) (hQ : ∀ a s, Q a s → Q' a s) : wpAny M A t Q' E s := wpAny_mono h hQ fun _ _ x => x
end L2

namespace L2
open PySem PySem.Spec PyProof.Rows
section
variable {X : Cx}

/-- two expressions in a row -/
theorem bin {a b : Expr} {ta tb : TE} (ha : PE X a ta) (hb : PE X b tb) {pins : List (Addr × Obj)} {s : Shared} {σ : St} {H : Hp} {R : V → V → Hp → Prop} (I : Inv X pins σ H s) (h : ta σ H fun x H1 => tb σ H1 fun y H2 => R x y H2)
    {α : Type} {Q : α → Shared → Prop} {f : Value → Value → Sem α}
    (hf : ∀ v u s2 x y H2, Inv X pins σ H2 s2 → RelV x v → RelV y u → R x y H2 → wpAny (model X.prog X.w) X.A (f v u) Q X.xe s2) :
    wpAny (model X.prog X.w) X.A (eval a X.env) (fun v s₁ => wpAny (model X.prog X.w) X.A (eval b X.env) (fun u s₂ => wpAny (model X.prog X.w) X.A (f v u) Q X.xe s₂) X.xe s₁) X.xe s := by
  refine thn (ha pins s σ H _ I h) fun v s1 ⟨x, H1, I1, r1, q1⟩ => ?_
  refine thn (hb pins s1 σ H1 _ I1 q1) fun u s2 ⟨y, H2, I2, r2, q2⟩ => ?_
  exact hf v u s2 x y H2 I2 r1 r2 q2

/-! ### names and constants -/
noncomputable def tVar (i : Nat) : TE := fun σ H Q => ∃ v, σ[i]? = some (some v) ∧ Q v H
noncomputable def tC (v : V) : TE := fun _ H Q => Q v H
theorem pe_var {i : Nat} {x : Str} {pos : Pos} (hN : X.N[i]? = some x) (hv : Vis X.env.scope x) (hd : (x == ("__debug__" : Str)) = false := by decide) (hcd : (x == ("__classdict__" : Str)) = false := by decide) : PE X (.Name x pos) (tVar i) := by
  intro pins s σ H Q I h
  obtain ⟨v, e, h⟩ := h
  obtain ⟨m, hn, hl⟩ := I.loc
  obtain ⟨u, r, l⟩ := hl i x v hN e hv
  have fin : EP X pins σ Q u s := ⟨v, H, I, r, h⟩
  rcases l with ⟨hk, hm⟩ | ⟨hk, c, hc, hcell⟩
  · exact wpAny_Name (wpAny_loadName_local I.ok.kind hk hn hm fin) hd
  · rcases hk with hk | hk
    · exact wpAny_Name (wpAny_loadName_cell I.ok.kind hk hc hcell fin) hd
    · exact wpAny_Name (wpAny_loadName_free I.ok.kind hk hc hcell fin hcd) hd
theorem pe_int {i j pos} : PE X (.Constant (.int i) j pos) (tC (.int i)) := fun _ _ _ H _ I h => wpAny_Constant_int ⟨.int i, H, I.tok _, ⟨_, rfl⟩, h⟩
theorem pe_bl {b j pos} : PE X (.Constant (.bool b) j pos) (tC (.bl b)) := fun _ _ _ H _ I h => Constant_bool ⟨.bl b, H, I, rfl, h⟩
theorem pe_str {x j pos} : PE X (.Constant (.str x) j pos) (tC (.str x)) := fun _ _ _ H _ I h => Calls.Constant_str ⟨.str x, H, I.tok _, ⟨_, rfl⟩, h⟩

/-- a global name of the def -/
noncomputable def Gl (X : Cx) (x : Str) : Prop := X.env.kindOf x = some .globalImplicit
theorem ld_glob {E : Value → Shared → Prop} {pins : List (Addr × Obj)} {s : Shared} {σ : St} {H : Hp} {x : Str} {u : Value} {pos : Pos} {Q : Value → Shared → Prop} (I : Inv X pins σ H s) (hg : Gl X x) (hm : X.mg x = some u) (h : Q u s)
    (hd : (x == ("__debug__" : Str)) = false := by decide) : wpAny (model X.prog X.w) X.A (eval (.Name x pos) X.env) Q E s :=
  Calls.Name_function_global I.ok.kind hg (Calls.loadGlobal_global (by rw [I.ok.glob]; exact I.mod.glob.keeps I.bk) hm h) hd
theorem ld_blt {E : Value → Shared → Prop} {pins : List (Addr × Obj)} {s : Shared} {σ : St} {H : Hp} {x : Str} {u : Value} {pos : Pos} {Q : Value → Shared → Prop} (I : Inv X pins σ H s) (hg : Gl X x) (hm : X.mg x = none) (hv : bootBuiltins x = some u) (h : Q u s)
    (hn : x ≠ "__name__" := by decide) (hd : (x == ("__debug__" : Str)) = false := by decide) : wpAny (model X.prog X.w) X.A (eval (.Name x pos) X.env) Q E s := by
  obtain ⟨mb, h1, h2⟩ := I.mod.blt
  exact Calls.Name_function_global I.ok.kind hg (Calls.loadGlobal_builtin (by rw [I.ok.glob]; exact I.mod.glob.keeps I.bk) hm (by rw [I.ok.blt]; exact h1.keeps I.bk) ((h2 x hn).trans hv) h) hd
theorem pe_bltn {x : Str} {v : V} {u : Value} {pos : Pos} (hg : Gl X x) (hm : X.mg x = none) (hv : bootBuiltins x = some u) (r : RelV v u) (hn : x ≠ "__name__" := by decide) (hd : (x == ("__debug__" : Str)) = false := by decide) : PE X (.Name x pos) (tC v) :=
  fun _ _ _ H _ I h => ld_blt I hg hm hv ⟨v, H, I, r, h⟩ hn hd

/-! ### arithmetic -/
/-- two ints -/
noncomputable def t2I (ta tb : TE) (k : Int → Int → Hp → Prop) : St → Hp → Prop := fun σ H => ta σ H fun x H1 => tb σ H1 fun y H2 => ∃ i j, x = .int i ∧ y = .int j ∧ k i j H2
noncomputable def tAdd (ta tb : TE) : TE := fun σ H Q => t2I ta tb (fun i j H2 => Q (.int (i + j)) H2) σ H
noncomputable def tSub (ta tb : TE) : TE := fun σ H Q => t2I ta tb (fun i j H2 => Q (.int (i - j)) H2) σ H
/-- the left factor below 2^64 -/
noncomputable def tMul (ta tb : TE) : TE := fun σ H Q => t2I ta tb (fun i j H2 => (-(2 ^ 64) < i ∧ i < 2 ^ 64) ∧ Q (.int (i * j)) H2) σ H
variable {a b : Expr} {ta tb : TE} {pos : Pos}
/-! ### comparisons -/
noncomputable def PC (X : Cx) (op : CmpOp) (a b : Expr) (t : TE) : Prop :=
  ∀ (pins : List (Addr × Obj)) (s : Shared) (σ : St) (H : Hp) (Q : VK), Inv X pins σ H s → t σ H Q →
    wpAny (model X.prog X.w) X.A (eval a X.env) (fun v s₁ => wpAny (model X.prog X.w) X.A (eval b X.env) (fun u s₂ => wpAny (model X.prog X.w) X.A (compareOp op v u) (EP X pins σ Q) X.xe s₂) X.xe s₁) X.xe s
theorem nobehind (b : Expr) {op : CmpOp} (h : op ≠ .In) (h2 : op ≠ .NotIn) : behindInMarks op b = false := by
  have e1 : (op == CmpOp.In) = false := by cases op <;> first | rfl | exact absurd rfl h
  have e2 : (op == CmpOp.NotIn) = false := by cases op <;> first | rfl | exact absurd rfl h2
  cases b <;> simp [behindInMarks, e1, e2]
noncomputable def tCmp (p : Int → Int → Bool) (ta tb : TE) : TE := fun σ H Q => t2I ta tb (fun i j H2 => Q (.bl (p i j)) H2) σ H
noncomputable abbrev tLt : TE → TE → TE := tCmp fun i j => decide (i < j)
noncomputable abbrev tLe : TE → TE → TE := tCmp fun i j => decide (i ≤ j)
noncomputable abbrev tGt : TE → TE → TE := tCmp fun i j => decide (j < i)
noncomputable abbrev tGe : TE → TE → TE := tCmp fun i j => decide (j ≤ i)
noncomputable abbrev tEqI : TE → TE → TE := tCmp fun i j => decide (i = j)
noncomputable abbrev tNeI : TE → TE → TE := tCmp fun i j => !decide (i = j)
/-- is None -/
noncomputable def tIsN (ta : TE) : TE := fun σ H Q => ta σ H fun x H1 => Q (.bl (decide (x = .non))) H1
noncomputable def tNotN (ta : TE) : TE := fun σ H Q => ta σ H fun x H1 => Q (.bl (!decide (x = .non))) H1
/-- a comparison as a value, as a test -/
noncomputable def tB (t : TE) : TT := fun σ H Q => t σ H fun x H1 => ∃ c, x = .bl c ∧ Q c H1
theorem pt_cmp {op : CmpOp} {t : TE} (h : PC X op a b t) (h1 : behindInMarks op b = false := by first | exact nobehind _ (by decide) (by decide) | rfl) : PT X (.Compare a [op] [b] pos) (tB t) := by
  intro pins s σ H Q I hw
  refine wpAny_isTrue_Compare1 (thn (h pins s σ H _ I hw) fun v s1 h1 => thn h1 fun u s2 h2 => thn h2 fun c s3 ⟨x, H1, I1, r1, q1⟩ => ?_) h1
  obtain ⟨d, rfl, q⟩ := q1
  cases r1
  exact wpAny_truthy_bool ⟨H1, I1, q⟩
/-- an expression whose value is a bool, as a test -/
theorem pt_val {e : Expr} {t : TE} (h : PE X e t) (he : ∀ whole, isTrue e X.env whole = (do let v ← whole; standAt e.pos; holding [v] (truthy v)) := by intro _; rfl) : PT X e (tB t) := by
  intro pins s σ H Q I hw
  refine isTrue_plain (thn (h pins s σ H _ I hw) fun v s1 ⟨x, H1, I1, r1, q1⟩ => ?_) (he _)
  obtain ⟨d, rfl, q⟩ := q1
  cases r1
  exact wpAny_truthy_bool ⟨H1, I1, q⟩

/-! ### and, or, not -/
variable {tA tB' : TT} {rest : List Expr}
noncomputable def tAnd (t u : TT) : TT := fun σ H Q => t σ H fun c H1 => if c = true then u σ H1 Q else Q false H1
noncomputable def tOr (t u : TT) : TT := fun σ H Q => t σ H fun c H1 => if c = true then Q true H1 else u σ H1 Q
noncomputable def tNot (t : TT) : TT := fun σ H Q => t σ H fun c H1 => Q (!c) H1
theorem pw_and1 (ha : PT X a tA) : PW X (.BoolOp .And [a] pos) tA := by
  intro wh pins s σ H Q I h
  refine isTrue_and (thn (ha pins s σ H Q I h) fun c s1 e => ?_)
  cases c with
  | true => exact isTrue_and_nil e
  | false => exact e
theorem pw_or1 (ha : PT X a tA) : PW X (.BoolOp .Or [a] pos) tA := by
  intro wh pins s σ H Q I h
  refine isTrue_or (thn (ha pins s σ H Q I h) fun c s1 e => ?_)
  cases c with
  | false => exact isTrue_or_nil e
  | true => exact e
theorem pw_and (ha : PT X a tA) (hb : PW X (.BoolOp .And (b :: rest) pos) tB') : PW X (.BoolOp .And (a :: b :: rest) pos) (tAnd tA tB') := by
  intro wh pins s σ H Q I h
  refine isTrue_and (thn (ha pins s σ H _ I h) fun c s1 ⟨H1, I1, q1⟩ => ?_)
  cases c with
  | true => exact hb wh pins s1 σ H1 Q I1 q1
  | false => exact ⟨H1, I1, q1⟩
theorem pw_or (ha : PT X a tA) (hb : PW X (.BoolOp .Or (b :: rest) pos) tB') : PW X (.BoolOp .Or (a :: b :: rest) pos) (tOr tA tB') := by
  intro wh pins s σ H Q I h
  refine isTrue_or (thn (ha pins s σ H _ I h) fun c s1 ⟨H1, I1, q1⟩ => ?_)
  cases c with
  | true => exact ⟨H1, I1, q1⟩
  | false => exact hb wh pins s1 σ H1 Q I1 q1
theorem pt_not (ha : PT X a tA) : PT X (.UnaryOp .Not a pos) (tNot tA) := by
  intro pins s σ H Q I h
  exact isTrue_not (ha pins s σ H (fun c H1 => Q (!c) H1) I h)
/-- .. as values (bools) -/
noncomputable def tAndV (ta tb : TE) : TE := fun σ H Q => ta σ H fun x H1 => ∃ c, x = .bl c ∧ if c = true then tb σ H1 Q else Q (.bl false) H1
noncomputable def tOrV (ta tb : TE) : TE := fun σ H Q => ta σ H fun x H1 => ∃ c, x = .bl c ∧ if c = true then Q (.bl true) H1 else tb σ H1 Q
noncomputable def tNotV (ta : TE) : TE := fun σ H Q => ta σ H fun x H1 => ∃ c, x = .bl c ∧ Q (.bl (!c)) H1
theorem pe_one {op} {t : TE} (h : PE X a t) : PE X (.BoolOp op [a] pos) t := fun pins s σ H Q I hw => BoolOp_one (h pins s σ H Q I hw)
theorem pe_and (ha : PE X a ta) (hb : PE X (.BoolOp .And (b :: rest) pos) tb) : PE X (.BoolOp .And (a :: b :: rest) pos) (tAndV ta tb) := by
  intro pins s σ H Q I h
  refine BoolOp_and (thn (ha pins s σ H _ I h) fun v s1 ⟨x, H1, I1, r1, q1⟩ => ?_)
  obtain ⟨c, rfl, q1⟩ := q1
  cases r1
  refine wpAny_truthy_bool ?_
  cases c with
  | true => exact hb pins s1 σ H1 Q I1 q1
  | false => exact ⟨.bl false, H1, I1, rfl, q1⟩
/-- a if t else b -/
noncomputable def tIf (t : TT) (ta tb : TE) : TE := fun σ H Q => t σ H fun c H1 => if c = true then ta σ H1 Q else tb σ H1 Q
end
end L2

namespace L2
open PySem PySem.Spec PyProof.Rows

/-! ### a list, a tuple that is read: tracked, frozen, or an object of the module -/
noncomputable def SqL (K : PySem.W.Frag) (H : Hp) (a : Addr) (xs : List V) : Prop :=
  Rd H a (.lst xs) ∨
    ∃ (o : Obj) (its : Array Value) (n : Nat), K.lookup a = some o ∧ o.cls = .type "list" ∧ o.dict = none ∧ o.data = .seq its n ∧ its.size ≤ sizeLine ∧ Vals xs its.toList
noncomputable def SqT (K : PySem.W.Frag) (H : Hp) (a : Addr) (xs : List V) : Prop :=
  Rd H a (.tup xs) ∨
    ∃ (o : Obj) (its : Array Value) (n : Nat), K.lookup a = some o ∧ o.cls = .type "tuple" ∧ o.data = .seq its n ∧ its.size ≤ sizeLine ∧ Vals xs its.toList
noncomputable def absV : Value → Option V
  | .none => some .non
  | .bool b => some (.bl b)
  | .int i _ => some (.int i)
  | .str x _ => some (.str x)
  | .bytes b _ => some (.byt b)
  | .float b _ => some (.flt b)
  | .ref a => some (.ref a)
  | .type n => some (.ty n)
  | _ => none
theorem RelV.abs {x : V} {u : Value} (r : RelV x u) : absV u = some x := by
  cases x with
  | non => cases r; rfl
  | bl _ => cases r; rfl
  | int _ => obtain ⟨t, rfl⟩ := r; rfl
  | str _ => obtain ⟨t, rfl⟩ := r; rfl
  | byt _ => obtain ⟨t, rfl⟩ := r; rfl
  | flt _ => obtain ⟨t, rfl⟩ := r; rfl
  | ref _ => cases r; rfl
  | ty _ => cases r; rfl
theorem RelV.inj {x y : V} {u : Value} (r : RelV x u) (q : RelV y u) : x = y := Option.some.inj (r.abs.symm.trans q.abs)
theorem Vals.inj : ∀ {xs ys : List V} {us : List Value}, Vals xs us → Vals ys us → xs = ys
  | _, _, _, .nil, .nil => rfl
  | _, _, _, .cons r t, .cons r' t' => by rw [r.inj r', Vals.inj t t']
section
variable {X : Cx} {pins : List (Addr × Obj)} {σ : St} {H : Hp} {s : Shared} {a : Addr} {xs ys : List V}
theorem SqL.of {K : PySem.W.Frag} (h : H a = some (.lst xs)) : SqL K H a xs := .inl (.inl h)
theorem SqT.of {K : PySem.W.Frag} (h : H a = some (.tup xs)) : SqT K H a xs := .inl (.inl h)
theorem Inv.list (I : Inv X pins σ H s) (h : SqL X.K H a xs) : ∃ its : List Value, Vals xs its ∧ PlainL s.heap a its.toArray ∧ xs.length ≤ sizeLine := by
  rcases h with h | ⟨o, its, n, hk, hc, hd, hs, hz, r⟩
  · obtain ⟨z, its, n, r, e⟩ := h.ok I.hok
    exact ⟨its, r, ⟨_, n, e, rfl, rfl, rfl⟩, z⟩
  · refine ⟨its.toList, r, ⟨o, n, I.kIn a o hk, hc, hd, by simpa using hs⟩, ?_⟩
    have e := r.length
    simp only [Array.length_toList] at e
    omega
theorem Inv.tuple (I : Inv X pins σ H s) (h : SqT X.K H a xs) : ∃ its : List Value, Vals xs its ∧ IsTup s.heap a its.toArray ∧ xs.length ≤ sizeLine := by
  rcases h with h | ⟨o, its, n, hk, hc, hs, hz, r⟩
  · obtain ⟨z, its, r, p⟩ := h.ok I.hok
    exact ⟨its, r, p, z⟩
  · refine ⟨its.toList, r, ⟨o, I.kIn a o hk, hc, n, by simpa using hs⟩, ?_⟩
    have e := r.length
    simp only [Array.length_toList] at e
    omega
theorem Inv.list_inj (I : Inv X pins σ H s) (h : SqL X.K H a xs) (h' : SqL X.K H a ys) : xs = ys := by
  obtain ⟨its, r, ⟨o, n, e, _, _, d⟩, _⟩ := I.list h
  obtain ⟨its', r', ⟨o', n', e', _, _, d'⟩, _⟩ := I.list h'
  rw [e] at e'; cases e'
  rw [d] at d'
  injection d' with d1 _
  have : its = its' := by simpa using congrArg Array.toList d1
  subst this
  exact r.inj r'
end

/-! ### another wish about exceptions -/
noncomputable abbrev Cx.wish (X : Cx) (E : Value → Shared → Prop) : Cx := { X with xe := E }
/-- no exception leaves -/
noncomputable abbrev Cx.nox (X : Cx) : Cx := X.wish fun _ _ => False
theorem Cx.Ok.wish {X : Cx} (ok : X.Ok) (E : Value → Shared → Prop) : (X.wish E).Ok :=
  ⟨ok.mod, ok.kind, ok.glob, ok.blt, ok.above, ok.inj, ok.has, ok.cab, ok.hd, ok.frames, ok.stk, ok.exf, ok.bs, ok.bsz, ok.noex, ok.exfs, ok.funs, ok.frf⟩
theorem Cx.Ok.unwish {X : Cx} {E : Value → Shared → Prop} (ok : (X.wish E).Ok) : X.Ok :=
  ⟨ok.mod, ok.kind, ok.glob, ok.blt, ok.above, ok.inj, ok.has, ok.cab, ok.hd, ok.frames, ok.stk, ok.exf, ok.bs, ok.bsz, ok.noex, ok.exfs, ok.funs, ok.frf⟩
section
variable {X : Cx} {pins : List (Addr × Obj)} {σ : St} {H : Hp} {s : Shared} {E : Value → Shared → Prop}
theorem Inv.wish (I : Inv X pins σ H s) (E : Value → Shared → Prop) : Inv (X.wish E) pins σ H s := ⟨I.ok.wish E, I.os, I.bare, I.base, I.loc, I.cell, I.free, I.freeC, I.pin, I.hok, I.len⟩
theorem Inv.unwish (I : Inv (X.wish E) pins σ H s) : Inv X pins σ H s := ⟨I.ok.unwish, I.os, I.bare, I.base, I.loc, I.cell, I.free, I.freeC, I.pin, I.hok, I.len⟩
theorem SP.unwish {D : Ends} {f : Flow} {s' : Shared} (h : SP (X.wish E) pins D f s') : SP X pins D f s' := by
  cases f with
  | next => obtain ⟨σ', H', I, q⟩ := h; exact ⟨σ', H', I.unwish, q⟩
  | brk => obtain ⟨σ', H', I, q⟩ := h; exact ⟨σ', H', I.unwish, q⟩
  | cont => obtain ⟨σ', H', I, q⟩ := h; exact ⟨σ', H', I.unwish, q⟩
  | ret u => obtain ⟨v, σ', H', I, r, q⟩ := h; exact ⟨v, σ', H', I.unwish, r, q⟩
theorem PSs.nox {st : List Stmt} {t : TS} (h : PSs X.nox st t) : PSs X st t := fun pins s σ H D I hw =>
  wpAny_mono (h pins s σ H D (I.wish _) hw) (fun _ _ q => q.unwish) fun _ _ z => False.elim z
end

/-! ### blocks and small statements -/
section
variable {X : Cx} {st : Stmt} {rest : List Stmt} {t u : TS} {e : Expr} {te : TE} {pos : Pos}
noncomputable def tNext : TS := fun D σ H => D.nx σ H
noncomputable def tSeq (t u : TS) : TS := fun D σ H => t { D with nx := u D } σ H
theorem pss_nil : PSs X [] tNext := fun _ _ σ H _ I h => wpAny_execs_nil ⟨σ, H, I, h⟩
theorem pss_cons (h1 : PS X st t) (h2 : PSs X rest u) : PSs X (st :: rest) (tSeq t u) := by
  intro pins s σ H D I h
  refine wpAny_execs_cons (thn (h1 pins s σ H { D with nx := u D } I h) fun f s1 q => ?_)
  cases f with
  | next =>
    obtain ⟨σ', H', I', q⟩ := q
    exact h2 pins s1 σ' H' D I' q
  | ret v => exact q
  | brk => exact q
  | cont => exact q
theorem pss_one (h1 : PS X st t) : PSs X [st] t := by
  intro pins s σ H D I h
  refine wpAny_execs_cons (thn (h1 pins s σ H D I h) fun f s1 q => ?_)
  cases f with
  | next => exact wpAny_execs_nil q
  | ret v => exact q
  | brk => exact q
  | cont => exact q
noncomputable def tBreak : TS := fun D σ H => D.bk σ H
noncomputable def tCont : TS := fun D σ H => D.ct σ H
/-- in a def's body nothing is shown -/
theorem Inv.quiet {pins : List (Addr × Obj)} {σ : St} {H : Hp} {s : Shared} (I : Inv X pins σ H s) : interactive X.env = false := by simp [interactive, I.ok.kind]
/-- an expression whose value is dropped -/
noncomputable def tDrop (te : TE) : TS := fun D σ H => te σ H fun _ H1 => D.nx σ H1
theorem ps_expr (he : PE X e te) (hs : swapsWith e none pos.line X.env = pure false := by rfl) : PS X (.Expr e pos) (tDrop te) := by
  intro pins s σ H D I h
  exact wpAny_Expr_any (thn (he pins s σ H _ I h) fun v s1 ⟨x, H1, I1, r1, q1⟩ => ⟨σ, H1, I1, q1⟩) I.quiet hs
noncomputable def tRet (te : TE) : TS := fun D σ H => te σ H D.rt
theorem ps_ret (he : PE X e te) : PS X (.Return (some e) pos) (tRet te) := by
  intro pins s σ H D I h
  exact wpAny_Return_some (thn (he pins s σ H _ I h) fun v s1 ⟨x, H1, I1, r1, q1⟩ => ⟨x, σ, H1, I1, r1, q1⟩)
noncomputable def tRetN : TS := fun D _ H => D.rt .non H
noncomputable def tIfS (c : TT) (t u : TS) : TS := fun D σ H => c σ H fun b H1 => if b = true then t D σ H1 else u D σ H1
theorem ps_if {c : Expr} {a b : List Stmt} {tc : TT} (hc : PT X c tc) (ha : PSs X a t) (hb : PSs X b u) : PS X (.If c a b pos) (tIfS tc t u) := by
  intro pins s σ H D I h
  refine wpAny_If (thn (hc pins s σ H _ I h) fun d s1 ⟨H1, I1, q1⟩ => ?_)
  cases d with
  | true => exact ha pins s1 σ H1 D I1 q1
  | false => exact hb pins s1 σ H1 D I1 q1
/-- code that the proof never comes to -/
noncomputable def tNever : TS := fun _ _ _ => False
end

/-! ### targets -/
noncomputable abbrev TG := V → St → Hp → (St → Hp → Prop) → Prop
noncomputable abbrev TGs := List V → St → Hp → (St → Hp → Prop) → Prop
noncomputable def PG (X : Cx) (target : Expr) (t : TG) : Prop :=
  ∀ (pins : List (Addr × Obj)) (s : Shared) (σ : St) (H : Hp) (v : V) (u : Value) (Q : St → Hp → Prop), Inv X pins σ H s → RelV v u → t v σ H Q →
    wpAny (model X.prog X.w) X.A (assign target X.env u) (fun _ s' => ∃ σ' H', Inv X pins σ' H' s' ∧ Q σ' H') X.xe s
/-- several targets, one after another -/
noncomputable def PGs (X : Cx) (ts : List Expr) (t : TGs) : Prop :=
  ∀ (pins : List (Addr × Obj)) (s : Shared) (σ : St) (H : Hp) (vs : List V) (us : List Value) (Q : St → Hp → Prop), Inv X pins σ H s → Vals vs us → t vs σ H Q →
    wpAny (model X.prog X.w) X.A (assignInOrder ((assignEach ts X.env).map (·.2)) us) (fun _ s' => ∃ σ' H', Inv X pins σ' H' s' ∧ Q σ' H') X.xe s
/-- o[i] = v, by values -/
noncomputable abbrev TSet := V → V → V → Hp → (Hp → Prop) → Prop
noncomputable def PSet (X : Cx) (t : TSet) : Prop :=
  ∀ (pins : List (Addr × Obj)) (s : Shared) (σ : St) (H : Hp) (o i v : V) (ov iv u : Value) (Q : Hp → Prop), Inv X pins σ H s → RelV o ov → RelV i iv → RelV v u → t o i v H Q →
    wpAny (model X.prog X.w) X.A (setItem ov iv u) (fun _ s' => ∃ H', Inv X pins σ H' s' ∧ Q H') X.xe s
/-- a op= b, by values -/
noncomputable abbrev TIp := V → V → Hp → VK → Prop
noncomputable def PIp (X : Cx) (op : Operator) (t : TIp) : Prop :=
  ∀ (pins : List (Addr × Obj)) (s : Shared) (σ : St) (H : Hp) (x y : V) (v u : Value) (Q : VK), Inv X pins σ H s → RelV x v → RelV y u → t x y H Q →
    wpAny (model X.prog X.w) X.A (inplaceOp op v u) (EP X pins σ Q) X.xe s
section
variable {X : Cx} {pos : Pos}
noncomputable def gName (i : Nat) : TG := fun v σ H Q => Q (σ.set i (some v)) H
theorem pg_name {i : Nat} {x : Str} (hN : X.N.Nodup) (hi : X.N[i]? = some x) (hx : Loc X.env.scope x) (hf : X.fn x = true ∨ X.env.scope.names.lookup x = some .local := by first | exact .inl rfl | exact .inr rfl | assumption) : PG X (.Name x pos) (gName i) := by
  intro pins s σ H v u Q I r h
  exact wpAny_assign_Name (store_ok I hN hi hx r (fun s' I' => ⟨_, H, I', h⟩) hf)
noncomputable def gNil : TGs := fun vs σ H Q => vs = [] ∧ Q σ H
noncomputable def gCons (t : TG) (u : TGs) : TGs := fun vs σ H Q => ∃ v r, vs = v :: r ∧ t v σ H fun σ' H' => u r σ' H' Q
theorem pgs_nil : PGs X [] gNil := by
  intro pins s σ H vs us Q I r h
  obtain ⟨e, h⟩ := h
  subst e
  cases r
  exact assignInOrder_nil ⟨σ, H, I, h⟩
theorem pgs_cons {e : Expr} {es : List Expr} {t : TG} {u : TGs} (h1 : PG X e t) (h2 : PGs X es u)
    (hs : (assignEach (e :: es) X.env).map (·.2) = assign e X.env :: (assignEach es X.env).map (·.2) := by rfl) : PGs X (e :: es) (gCons t u) := by
  intro pins s σ H vs us Q I r h
  obtain ⟨v, vr, e1, h⟩ := h
  subst e1
  cases r with
  | cons r rr =>
    rw [hs]
    refine assignInOrder_cons (thn (h1 pins s σ H _ _ _ I r h) fun _ s1 ⟨σ1, H1, I1, q1⟩ => ?_)
    exact h2 pins s1 σ1 H1 _ _ Q I1 rr q1
/-- (a, b, ..) = a tuple of that length -/
noncomputable def gTup (K : PySem.W.Frag) (n : Nat) (t : TGs) : TG := fun v σ H Q => ∃ a xs, v = .ref a ∧ SqT K H a xs ∧ xs.length = n ∧ t xs σ H Q
theorem pg_tup {es : List Expr} {k : Nat} {t : TGs} {n : Nat} (hc : X.calm = true) (h : PGs X es t)
    (hn : (assignEach es X.env).length = n := by rfl) (hst : (assignEach es X.env).findIdx? (·.1) = none := by rfl) : PG X (.Tuple es k pos) (gTup X.K n t) := by
  intro pins s σ H v u Q I r hw
  obtain ⟨a, xs, e1, hq, hl, hw⟩ := hw
  subst e1
  cases r
  obtain ⟨its, rv, ht, hz⟩ := I.tuple hq
  refine assign_Tuple_tuple (I.ok.hd hc) ht (by simp [hn, ← hl, rv.length]) hst fun h' hx => ?_
  have I1 : Inv X pins σ H { s with heap := h' } := I.kept (t' := s.toks) fun b o e => hx b o (Nat.ne_of_lt (Heap.lt_size e)) e
  exact h pins _ σ H xs _ Q I1 (by simpa using rv) hw
/-- o[i] = .. -/
noncomputable def gSub (to ti : TE) (t : TSet) : TG := fun v σ H Q => to σ H fun o H1 => ti σ H1 fun i H2 => t o i v H2 fun H3 => Q σ H3
theorem pg_sub {o i : Expr} {to ti : TE} {t : TSet} (ho : PE X o to) (hi : PE X i ti) (hs : PSet X t)
    (ha : ∀ v, assign (.Subscript o i pos) X.env v = (do
      let ov ← holding [v] (eval o X.env)
      let iv ← holding [v, ov] (eval i X.env)
      standAt pos
      holding [v, ov, iv] (setItem ov iv v)
      release [v, ov, iv] []) := by intro _; rfl) : PG X (.Subscript o i pos) (gSub to ti t) := by
  intro pins s σ H v u Q I r h
  rw [ha]
  refine wpAny_bind (wpAny_holding (thn (ho pins s σ H _ I h) fun ov s1 ⟨x, H1, I1, r1, q1⟩ => ?_))
  refine wpAny_bind (wpAny_holding (thn (hi pins s1 σ H1 _ I1 q1) fun iv s2 ⟨y, H2, I2, r2, q2⟩ => ?_))
  refine wpAny_bind (wpAny_standAt (wpAny_bind (wpAny_holding (thn (hs pins s2 σ H2 x y v ov iv u _ I2 r1 r2 r q2) fun _ s3 ⟨H3, I3, q3⟩ => ?_))))
  exact wpAny_release ⟨σ, H3, I3, q3⟩
/-- target = value -/
noncomputable def tAsg (te : TE) (g : TG) : TS := fun D σ H => te σ H fun x H1 => g x σ H1 D.nx
theorem ps_asg {tg e : Expr} {te : TE} {g : TG} (he : PE X e te) (hg : PG X tg g) (hs : swapsWithSole [tg] e pos.line X.env = pure false := by rfl) (hw : swappedStores [tg] e X.env = pure none := by rfl)
    (h1 : (assignEach [tg] X.env).map (·.2) = [assign tg X.env] := by rfl) : PS X (.Assign [tg] e pos) (tAsg te g) := by
  intro pins s σ H D I h
  refine wpAny_Assign_stores (thn (he pins s σ H _ I h) fun v s1 ⟨x, H1, I1, r1, q1⟩ => ?_) hs hw
  rw [h1]
  exact thn (hg pins s1 σ H1 x v _ I1 r1 q1) fun _ s2 q => q
/-- name = value -/
theorem ps_set {i : Nat} {x : Str} {e : Expr} {te : TE} {pos' : Pos} (hN : X.N.Nodup) (hi : X.N[i]? = some x) (hx : Loc X.env.scope x) (he : PE X e te) (hs : swapsWith e (some (.Name x pos')) pos.line X.env = pure false := by rfl) (hf : X.fn x = true ∨ X.env.scope.names.lookup x = some .local := by first | exact .inl rfl | exact .inr rfl | assumption) :
    PS X (.Assign [.Name x pos'] e pos) (tAsg te (gName i)) := by
  intro pins s σ H D I h
  refine wpAny_Assign_Name (thn (he pins s σ H _ I h) fun v s1 ⟨y, H1, I1, r1, q1⟩ => ?_) hs
  exact store_ok I1 hN hi hx r1 (fun s2 I2 => ⟨_, H1, I2, q1⟩) hf
/-- a, b = x, y with plain local names: stored from the right; the pair itself is not tracked (the opening rows as in PyProof/Rows/TupAssign.lean:23) -/
noncomputable def tPar (i j : Nat) (ta : TA) : TS := fun D σ H => ta σ H fun vs H1 => ∃ v w, vs = [v, w] ∧ D.nx ((σ.set i (some v)).set j (some w)) H1
/-- name op= e -/
noncomputable def tAug (i : Nat) (te : TE) (ti : TIp) : TS := fun D σ H => ∃ x, σ[i]? = some (some x) ∧ te σ H fun y H1 => ti x y H1 fun z H2 => D.nx (σ.set i (some z)) H2
/-- o[i] op= e -/
noncomputable def tAugS (to ti te : TE) (tget : V → V → Hp → VK → Prop) (tip : TIp) (tset : TSet) : TS := fun D σ H => to σ H fun o H1 => ti σ H1 fun i H2 => tget o i H2 fun x H3 => te σ H3 fun y H4 => tip x y H4 fun z H5 => tset o i z H5 fun H6 => D.nx σ H6
/-- o[i], by values -/
noncomputable def PGet (X : Cx) (t : V → V → Hp → VK → Prop) : Prop :=
  ∀ (pins : List (Addr × Obj)) (s : Shared) (σ : St) (H : Hp) (o i : V) (ov iv : Value) (Q : VK), Inv X pins σ H s → RelV o ov → RelV i iv → t o i H Q →
    wpAny (model X.prog X.w) X.A (getItem ov iv) (EP X pins σ Q) X.xe s
/-- ints -/
noncomputable def ipI (f : Int → Int → Int) : TIp := fun x y H Q => ∃ i j, x = .int i ∧ y = .int j ∧ Q (.int (f i j)) H
end

/-! ### while -/
section
variable {X : Cx} {pos : Pos}
/-- the invariant W with its measure -/
noncomputable def tWhile (c : TT) (tb : TS) : TS := fun D σ H => ∃ W : Nat → St → Hp → Prop, (∃ m, W m σ H) ∧ ∀ m σ H, W m σ H →
  c σ H fun b H1 => if b = true then ∃ N : St → Hp → Prop, (∀ σ' H', N σ' H' → ∃ m', m' < m ∧ W m' σ' H') ∧ tb { D with nx := N, ct := N, bk := D.nx } σ H1 else D.nx σ H1
end

/-! ### what a loop or a comprehension walks -/
/-- at turn i: it yields x (the heap may grow), or it stops -/
structure It where
  go : Nat → Hp → Prop
  yld : Nat → Hp → V → Hp → Prop
  stop : Nat → Hp → Prop
/-- the iterator's own objects may turn: they are not the frame's, not pinned, younger than the entry (or a comprehension's own) -/
noncomputable def FpOk (X : Cx) (pins : List (Addr × Obj)) (H : Hp) (b : Addr) : Prop :=
  H b = none ∧ b ≠ X.env.locals ∧ b ∉ X.fs ∧ (b ∈ X.ex ∨ X.s₀.heap.objs.size ≤ b) ∧ (∀ x c, X.env.cells.lookup x = some c → c ≠ b) ∧ ∀ p ∈ X.pn ++ pins, p.1 ≠ b
theorem Inv.fpOk {X : Cx} {pins : List (Addr × Obj)} {σ : St} {H H' : Hp} {s : Shared} {b : Addr} (I : Inv X pins σ H s) (hb : s.heap.objs.size ≤ b) (hn : H' b = none) : FpOk X pins H' b := by
  refine ⟨hn, Nat.ne_of_gt (Nat.lt_of_lt_of_le I.lt hb), I.nofs hb, .inr (Nat.le_trans I.sz hb), fun x c e z => ?_, fun p hp z => ?_⟩
  · obtain ⟨v, q⟩ := I.cell x c e
    exact absurd (Nat.lt_of_lt_of_le q.lt (by rw [z]; exact hb)) (Nat.lt_irrefl _)
  · exact absurd (Nat.lt_of_lt_of_le (Heap.lt_size (I.pin p hp).1) (by rw [z]; exact hb)) (Nat.lt_irrefl _)
structure Turn (P : Program) (w : World) (K : PySem.W.Frag) (tg : Expr) (J : It) (fp : List Addr) (it : Addr) (tn : Nat → Heap → Prop) : Prop where
  mem : it ∈ fp
  obj : ∀ i h, tn i h → ∀ b ∈ fp, ∃ o, h.get? b = some o ∧ ∀ v, o.data ≠ .cell v
  keep : ∀ i h h', tn i h → (∀ b ∈ fp, ∀ o, h.get? b = some o → h'.get? b = some o) → tn i h'
  item : ∀ (X : Cx), X.prog = P → X.w = w → X.K = K → X.calm = true → ∀ (i : Nat) (pins : List (Addr × Obj)) (s : Shared) (σ : St) (H : Hp) (E : Value → Shared → Prop), Inv X pins σ H s → (∀ b ∈ fp, FpOk X pins H b) → tn i s.heap → J.go i H →
    wpAny (model P w) X.A (pyNext (.ref it)) (fun r s1 => ∃ u, r = some u ∧
      wpAny (model P w) X.A (letOwnedTupleGo tg (.ref it) u) (fun _ s2 => ∃ x H', Inv X pins σ H' s2 ∧ RelV x u ∧ J.yld i H x H' ∧ tn (i + 1) s2.heap ∧ ∀ b ∈ fp, H' b = none) E s1) E s
  done : ∀ (X : Cx), X.prog = P → X.w = w → X.K = K → X.calm = true → ∀ (i : Nat) (pins : List (Addr × Obj)) (s : Shared) (σ : St) (H : Hp) (E : Value → Shared → Prop), Inv X pins σ H s → (∀ b ∈ fp, FpOk X pins H b) → tn i s.heap → J.stop i H →
    wpAny (model P w) X.A (pyNext (.ref it)) (fun r s1 => r = none ∧ Inv X pins σ H s1) E s
  self : ∀ (A : Around) (i : Nat) (s : Shared) (Q : Value → Shared → Prop) (E : Value → Shared → Prop), tn i s.heap → Q (.ref it) s → wpAny (model P w) A (pyIter (.ref it)) Q E s
noncomputable abbrev TI := St → Hp → (It → Hp → Prop) → Prop
/-- an iterator has come -/
noncomputable def PIE (X : Cx) (pins : List (Addr × Obj)) (σ : St) (tg : Expr) (R : It → Hp → Prop) (itv : Value) (s2 : Shared) : Prop :=
  ∃ (it : Addr) (fp : List Addr) (tn : Nat → Heap → Prop) (J : It) (H' : Hp), itv = .ref it ∧ Inv X pins σ H' s2 ∧ Turn X.prog X.w X.K tg J fp it tn ∧ tn 0 s2.heap ∧ (∀ b ∈ fp, FpOk X pins H' b) ∧ R J H'
noncomputable def PI (X : Cx) (tg iter : Expr) (wi : TI) : Prop :=
  ∀ (pins : List (Addr × Obj)) (s : Shared) (σ : St) (H : Hp) (R : It → Hp → Prop), Inv X pins σ H s → wi σ H R →
    wpAny (model X.prog X.w) X.A (eval iter X.env) (fun v s1 => wpAny (model X.prog X.w) X.A (pyIter v) (PIE X pins σ tg R) X.xe s1) X.xe s

/-- the step ahead of the store is nothing for an iterator that keeps no tuple -/
theorem go_of {M : Model} {A : Around} {E : Value → Shared → Prop} {s : Shared} {tg : Expr} {it : Addr} {u : Value} {o : Obj} {n : String} {vs : Array Value} {Q : Unit → Shared → Prop} (ho : s.heap.get? it = some o) (hc : o.cls = .type n) (hd : o.data = .fields vs)
    (hn : ["enumerate", "zip", "dict_itemiterator", "dict_reverseitemiterator", "odict_iterator", "itertools.zip_longest", "itertools.pairwise"].contains n = false) (hQ : Q () s) : wpAny M A (letOwnedTupleGo tg (.ref it) u) Q E s := by
  unfold letOwnedTupleGo
  cases tg <;> first
    | exact wpAny_pure hQ
    | (cases u <;> first
        | exact wpAny_pure hQ
        | (refine wpAny_bind (wpAny_load ho ?_)
           rw [hc, hd]
           show wpAny M A (if (["enumerate", "zip", "dict_itemiterator", "dict_reverseitemiterator", "odict_iterator", "itertools.zip_longest", "itertools.pairwise"].contains n && vs[0]? == some (rawInt _)) = true then _ else _) Q E s
           rw [if_neg (by intro h; rw [hn, Bool.false_and] at h; cases h)]
           exact wpAny_pure hQ))

/-- the list at a, as it stands at each turn (a loop may append to it) -/
noncomputable def Itl (K : PySem.W.Frag) (a : Addr) : It :=
  ⟨fun i H => ∃ xs x, SqL K H a xs ∧ xs[i]? = some x, fun i H x H' => H' = H ∧ ∀ xs, SqL K H a xs → xs[i]? = some x, fun i H => ∃ xs, SqL K H a xs ∧ xs.length ≤ i⟩
noncomputable def Itt (K : PySem.W.Frag) (a : Addr) : It :=
  ⟨fun i H => ∃ xs x, SqT K H a xs ∧ xs[i]? = some x, fun i H x H' => H' = H ∧ ∀ xs, SqT K H a xs → xs[i]? = some x, fun i H => ∃ xs, SqT K H a xs ∧ xs.length ≤ i⟩
/-- lo, lo + 1, .. (n of them) -/
noncomputable def Itr (lo : Int) (n : Nat) : It := ⟨fun i _ => i < n, fun i H x H' => H' = H ∧ x = .int (lo + i), fun i _ => n ≤ i⟩
theorem turn_list {P : Program} {w : World} {K : PySem.W.Frag} {tg : Expr} (a it : Addr) : Turn P w K tg (Itl K a) [it] it (fun i h => h.IsListIter it a i) where
  mem := by simp
  obj := fun i h st b hb => by
    have e : b = it := by simpa using hb
    subst e
    obtain ⟨o, e, c, d⟩ := st
    exact ⟨o, e, fun v z => by rw [d] at z; cases z⟩
  keep := fun i h h' st k => st.at fun o e => k it (by simp) o e
  item := by
    intro X hP hw hK hc i pins s σ H E I hf st hg
    subst hP hw hK
    obtain ⟨xs, x, hq, hx⟩ := hg
    obtain ⟨its, rv, p, hz⟩ := I.list hq
    obtain ⟨u, hu, ru⟩ := rv.get hx
    obtain ⟨f0, f1, f2, f3, f4, f5⟩ := hf it (by simp)
    refine wpAny_pyNext_list_item st p.isList (x := u) (by simpa using hu) fun h' st' sb => ?_
    have I1 : Inv X pins σ H { s with heap := h' } := I.turned (t' := s.toks) (fun b o hb e => (sb.2 b hb).trans e) f0 f1 f3 f4 f5
    obtain ⟨o, e, c, d⟩ := id st'
    exact ⟨u, rfl, go_of (s := { s with heap := h' }) e c d (by decide) ⟨x, H, I1, ru, ⟨rfl, fun ys hy => by rw [I.list_inj hy hq]; exact hx⟩, st', fun b hb => (hf b hb).1⟩⟩
  done := by
    intro X hP hw hK hc i pins s σ H E I hf st hg
    subst hP hw hK
    obtain ⟨xs, hq, hx⟩ := hg
    obtain ⟨its, rv, p, hz⟩ := I.list hq
    obtain ⟨f0, f1, f2, f3, f4, f5⟩ := hf it (by simp)
    have hl := rv.length
    exact wpAny_pyNext_list_end (I.ok.hd hc) st p.isList (by simp; omega) fun h' eb => ⟨rfl, I.turned (t' := s.toks) (fun b o hb e => eb b o hb e) f0 f1 f3 f4 f5⟩
  self := fun _ _ _ _ _ st h => wpAny_pyIter_listiter st h
theorem turn_range {P : Program} {w : World} {K : PySem.W.Frag} {tg : Expr} (it : Addr) (lo : Int) (n : Nat) : Turn P w K tg (Itr lo n) [it] it (fun i h => IsRangeIter h it (lo + (i : Nat) * 1) ((n : Int) - (i : Nat)) 1) where
  mem := by simp
  obj := fun i h st b hb => by
    have e : b = it := by simpa using hb
    subst e
    exact ⟨_, st, fun v z => by
      have z' : Data.fields _ = Data.cell v := z
      cases z'⟩
  keep := fun i h h' st k => k it (by simp) _ st
  item := by
    intro X hP hw hK hc i pins s σ H E I hf st hg
    subst hP hw hK
    obtain ⟨f0, f1, f2, f3, f4, f5⟩ := hf it (by simp)
    have W := Walks.range (prog := X.prog) (w := X.w) (I.ok.hd hc) it lo 1 n
    refine W.item i s _ _ hg st fun v h' tk hv st' kk => ?_
    obtain ⟨t, rfl⟩ := hv
    have I1 : Inv X pins σ H { s with heap := h', toks := tk } := I.turned (fun b o hb e => kk b o (by simpa using hb) e) f0 f1 f3 f4 f5
    refine ⟨_, rfl, go_of (s := { s with heap := h', toks := tk }) (n := "range_iterator") st' rfl rfl (by decide) ⟨.int (lo + i), H, I1, ⟨t, ?_⟩, ⟨rfl, rfl⟩, st', fun b hb => (hf b hb).1⟩⟩
    rw [Int.mul_one]
  done := by
    intro X hP hw hK hc i pins s σ H E I hf st hg
    subst hP hw hK
    obtain ⟨f0, f1, f2, f3, f4, f5⟩ := hf it (by simp)
    exact wpAny_pyNext_range_end (I.ok.hd hc) st (by have : n ≤ i := hg; omega) fun h' eb => ⟨rfl, I.turned (t' := s.toks) (fun b o hb e => eb b o hb e) f0 f1 f3 f4 f5⟩
  self := fun _ _ _ _ _ st h => wpAny_pyIter_rangeiter st h
end L2

namespace L2
open PySem PySem.Spec PyProof.Rows
section
variable {X : Cx} {tg : Expr}
noncomputable def iList (K : PySem.W.Frag) (tl : TE) : TI := fun σ H R => tl σ H fun x H1 => ∃ a, x = .ref a ∧ (∃ xs, SqL K H1 a xs) ∧ R (Itl K a) H1
noncomputable def iTup (K : PySem.W.Frag) (tl : TE) : TI := fun σ H R => tl σ H fun x H1 => ∃ a, x = .ref a ∧ (∃ xs, SqT K H1 a xs) ∧ R (Itt K a) H1
theorem pi_list {l : Expr} {tl : TE} (hl : PE X l tl) : PI X tg l (iList X.K tl) := by
  intro pins s σ H R I h
  refine thn (hl pins s σ H _ I h) fun v s1 ⟨x, H1, I1, r1, q1⟩ => ?_
  obtain ⟨a, e, ⟨xs, hq⟩, q⟩ := q1
  subst e
  cases r1
  obtain ⟨its, rv, p, hz⟩ := I1.list hq
  refine wpAny_pyIter_list p.isList ?_
  refine ⟨s1.heap.objs.size, [s1.heap.objs.size], _, _, H1, rfl, I1.kept (t' := s1.toks) fun b o e => Heap.get?_push_of_some _ e, turn_list a _, ⟨_, Heap.get?_push_size _ rfl, rfl, rfl⟩, fun b hb => ?_, q⟩
  have e : b = s1.heap.objs.size := by simpa using hb
  subst e
  exact I1.fpOk (Nat.le_refl _) (I1.hok.fresh (Nat.le_refl _))
/-- a range object just made, walked -/
theorem range_it {pins : List (Addr × Obj)} {σ : St} {H : Hp} {s : Shared} {R : It → Hp → Prop} {E : Value → Shared → Prop} {lo hi : Int} {t u v : Tok} {tk : Nat} (I : Inv X pins σ H s) (h1 : -(2 ^ 62) ≤ lo) (h2 : lo < 2 ^ 62) (h3 : -(2 ^ 62) ≤ hi) (h4 : hi < 2 ^ 62)
    (q : R (Itr lo (hi - lo).toNat) H) : wpAny (model X.prog X.w) X.A (pyIter (.ref s.heap.objs.size)) (PIE X pins σ tg R) E { s with heap := s.heap.push { cls := .type "range", data := .fields #[.int lo t, .int hi u, .int 1 v] }, toks := tk } := by
  refine wpAny_pyIter_range (IsRange.new ..) (small_one h1 h2 h3 h4) ?_
  have I1 : Inv X pins σ H { s with heap := s.heap.push { cls := .type "range", data := .fields #[.int lo t, .int hi u, .int 1 v] }, toks := tk } := I.kept fun b o e => Heap.get?_push_of_some _ e
  refine ⟨(s.heap.push { cls := .type "range", data := .fields #[.int lo t, .int hi u, .int 1 v] }).objs.size, [(s.heap.push { cls := .type "range", data := .fields #[.int lo t, .int hi u, .int 1 v] }).objs.size], _, _, H, rfl,
    I1.kept (t' := tk) fun b o e => Heap.get?_push_of_some _ e, turn_range _ lo (hi - lo).toNat, ?_, fun b hb => ?_, q⟩
  · have e1 : lo + ((0 : Nat) : Int) * 1 = lo := by simp
    have e2 : (((hi - lo).toNat : Nat) : Int) - ((0 : Nat) : Int) = Builtin.Range.rangeSize lo hi 1 := by rw [rangeSize_one]; split <;> omega
    show IsRangeIter _ _ (lo + ((0 : Nat) : Int) * 1) ((((hi - lo).toNat : Nat) : Int) - ((0 : Nat) : Int)) 1
    rw [e1, e2]
    exact Heap.get?_push_size _ rfl
  · have e : b = (s.heap.push { cls := .type "range", data := .fields #[.int lo t, .int hi u, .int 1 v] }).objs.size := by simpa using hb
    subst e
    exact I1.fpOk (Nat.le_refl _) (I1.hok.fresh (Nat.le_refl _))
noncomputable def iRng1 (ta : TA) : TI := fun σ H R => ta σ H fun vs H1 => ∃ j : Int, vs = [.int j] ∧ -(2 ^ 62) ≤ j ∧ j < 2 ^ 62 ∧ R (Itr 0 j.toNat) H1
noncomputable def iRng2 (ta : TA) : TI := fun σ H R => ta σ H fun vs H1 => ∃ i j : Int, vs = [.int i, .int j] ∧ (-(2 ^ 62) ≤ i ∧ i < 2 ^ 62 ∧ -(2 ^ 62) ≤ j ∧ j < 2 ^ 62) ∧ R (Itr i (j - i).toNat) H1
theorem pi_range1 {a : Expr} {ta : TA} {p pos : Pos} (hg : Gl X "range") (hm : X.mg "range" = none) (ha : PA X [a] ta) (hs : starEach [a] X.env = [(false, eval a X.env)] := by rfl) : PI X tg (.Call (.Name "range" p) [a] [] pos) (iRng1 ta) := by
  intro pins s σ H R I h
  refine Call_ (ld_blt I hg hm boot_range (PyProof.Rows.callWith_type1 (thn (ha pos pins s σ H _ I h) fun us s1 ⟨vs, H1, I1, r1, q1⟩ => ?_) hs rfl))
  obtain ⟨j, e, q1, q2, q⟩ := q1
  subst e
  cases r1 with
  | cons r rr =>
    cases rr
    obtain ⟨t, rfl⟩ := r
    exact call_range_1 (range_it I1 (by omega) (by omega) q1 q2 (by simpa using q))
theorem pi_range2 {a b : Expr} {ta : TA} {p pos : Pos} (hg : Gl X "range") (hm : X.mg "range" = none) (ha : PA X [a, b] ta) (hs : starEach [a, b] X.env = [(false, eval a X.env), (false, eval b X.env)] := by rfl) (hs2 : starEach [b] X.env = [(false, eval b X.env)] := by rfl) :
    PI X tg (.Call (.Name "range" p) [a, b] [] pos) (iRng2 ta) := by
  intro pins s σ H R I h
  refine Call_ (ld_blt I hg hm boot_range (PyProof.Rows.callWith_type1 (thn (ha pos pins s σ H _ I h) fun us s1 ⟨vs, H1, I1, r1, q1⟩ => ?_) (by rw [hs, hs2]) (by rw [hs2]; rfl)))
  obtain ⟨i, j, e, ⟨q1, q2, q3, q4⟩, q⟩ := q1
  subst e
  cases r1 with
  | cons r rr =>
    cases rr with
    | cons r' rr =>
      cases rr
      obtain ⟨t, rfl⟩ := r
      obtain ⟨t', rfl⟩ := r'
      exact call_range_2 (range_it I1 q1 q2 q3 q4 q)

/-! ### for -/
/-- W: the invariant by the turn and a measure; N: what the body is to reach -/
noncomputable def tFor (wi : TI) (g : TG) (tb : TS) : TS := fun D σ H => wi σ H fun J H1 => ∃ W : Nat → Nat → St → Hp → Prop, (∃ m, W 0 m σ H1) ∧ ∀ i m σ H, W i m σ H →
  (J.stop i H ∧ D.nx σ H) ∨ (J.go i H ∧ ∃ N : St → Hp → Prop, (∀ σ' H', N σ' H' → ∃ m', m' < m ∧ W (i + 1) m' σ' H') ∧ ∀ x H', J.yld i H x H' → g x σ H' fun σ2 H2 => tb { D with nx := N, ct := N, bk := D.nx } σ2 H2)
/-- the records at fp as they stand -/
noncomputable def pinsAt (fp : List Addr) (h : Heap) : List (Addr × Obj) := fp.filterMap fun b => (h.get? b).map fun o => (b, o)
theorem mem_pinsAt {fp : List Addr} {h : Heap} {b : Addr} {o : Obj} (hb : b ∈ fp) (e : h.get? b = some o) : (b, o) ∈ pinsAt fp h := List.mem_filterMap.mpr ⟨b, hb, by rw [e]; rfl⟩
theorem of_pinsAt {fp : List Addr} {h : Heap} {p : Addr × Obj} (hp : p ∈ pinsAt fp h) : p.1 ∈ fp ∧ h.get? p.1 = some p.2 := by
  obtain ⟨b, hb, e⟩ := List.mem_filterMap.mp hp
  cases q : h.get? b with
  | none => rw [q] at e; cases e
  | some o =>
    rw [q] at e
    have e' : (b, o) = p := Option.some.inj e
    subst e'
    exact ⟨hb, q⟩
theorem Inv.pinned {pins : List (Addr × Obj)} {σ : St} {H : Hp} {s : Shared} {fp : List Addr} (I : Inv X pins σ H s) (hf : ∀ b ∈ fp, FpOk X pins H b) (ho : ∀ b ∈ fp, ∃ o, s.heap.get? b = some o ∧ ∀ v, o.data ≠ .cell v) : Inv X (pins ++ pinsAt fp s.heap) σ H s :=
  I.pins_of fun p hp => (List.mem_append.mp hp).elim (fun z => I.pin p (List.mem_append_right _ z)) fun z => by
    obtain ⟨hb, e⟩ := of_pinsAt z
    obtain ⟨f0, f1, f2, _⟩ := hf p.1 hb
    obtain ⟨o, e', d⟩ := ho p.1 hb
    rw [e] at e'; cases e'
    exact ⟨e, f0, f1, f2, d⟩
theorem Inv.unpinned {pins pl : List (Addr × Obj)} {σ : St} {H : Hp} {s : Shared} (I : Inv X (pins ++ pl) σ H s) : Inv X pins σ H s := I.pins_of fun p hp => I.pin p (List.mem_append_right _ (List.mem_append_left _ hp))
theorem ps_for {iter : Expr} {body : List Stmt} {wi : TI} {g : TG} {tb : TS} {pos : Pos} (hp : PassesOwn (model X.prog X.w) X.A X.env X.xe) (hc : X.calm = true) (hi : PI X tg iter wi) (hg : PG X tg g) (hb : PSs X body tb)
    (hs : ∀ x, foldedSetIterable iter X.env x = pure x := by intro _; rfl) : PS X (.For tg iter body [] pos) (tFor wi g tb) := by
  intro pins s σ H D I h
  refine wpAny_For (thn (hi pins s σ H _ I h) fun v s1 h1 => thn h1 fun itv s2 h2 => ?_) hs
  obtain ⟨it, fp, tn, J, H2, e, I2, T, st2, f2, W, ⟨m0, w0⟩, turn⟩ := h2
  subst e
  -- what stays true of the iterator's objects through the loop
  have stat : ∀ {H' : Hp}, (∀ b ∈ fp, H' b = none) → ∀ b ∈ fp, FpOk X pins H' b := fun hn b hb => ⟨hn b hb, (f2 b hb).2⟩
  refine codeAny_forLoop_any (fun n s' => ∃ i σ' H', Inv X pins σ' H' s' ∧ tn i s'.heap ∧ (∀ b ∈ fp, H' b = none) ∧ W i n σ' H') ?_ m0 ⟨0, σ, H2, I2, st2, fun b hb => (f2 b hb).1, w0⟩
  rintro n s3 ⟨i, σ3, H3, I3, st3, fr3, w3⟩
  rcases turn i n σ3 H3 w3 with ⟨stop, qn⟩ | ⟨go, N, hN, step⟩
  · refine wpAny_passesOwn hp (thn (T.done X rfl rfl rfl hc i pins s3 σ3 H3 X.xe I3 (stat fr3) st3 stop) fun r s4 ⟨hr, I4⟩ => ?_)
    subst hr
    exact wpAny_execs_nil ⟨σ3, H3, I4, qn⟩
  · refine wpAny_passesOwn hp (thn (T.item X rfl rfl rfl hc i pins s3 σ3 H3 X.xe I3 (stat fr3) st3 go) fun r s4 ⟨u, hr, h4⟩ => ?_)
    subst hr
    refine wpAny_passesOwn hp (thn h4 fun _ s5 ⟨x, H5, I5, r5, y5, st5, fr5⟩ => ?_)
    have I5' := I5.pinned (stat fr5) (T.obj _ _ st5)
    refine wpAny_passesOwn hp (thn (hg _ s5 σ3 H5 x u _ I5' r5 (step x H5 y5)) fun _ s6 ⟨σ6, H6, I6, q6⟩ => ?_)
    refine wpAny_passesOwn hp (thn (hb _ s6 σ6 H6 _ I6 q6) fun f s7 q7 => ?_)
    have again : ∀ {σ7 : St} {H7 : Hp}, Inv X (pins ++ pinsAt fp s5.heap) σ7 H7 s7 → N σ7 H7 → ∃ m, m < n ∧ ∃ i σ' H', Inv X pins σ' H' s7 ∧ tn i s7.heap ∧ (∀ b ∈ fp, H' b = none) ∧ W i m σ' H' := fun {σ7 H7} I7 n7 => by
      obtain ⟨m', hm, w7⟩ := hN σ7 H7 n7
      refine ⟨m', hm, i + 1, σ7, H7, I7.unpinned, T.keep _ _ _ st5 fun b hb o e => (I7.pin (b, o) (List.mem_append_right _ (List.mem_append_right _ (mem_pinsAt hb e)))).1, fun b hb => ?_, w7⟩
      obtain ⟨o, e, d⟩ := T.obj _ _ st5 b hb
      exact (I7.pin (b, o) (List.mem_append_right _ (List.mem_append_right _ (mem_pinsAt hb e)))).2.1
    cases f with
    | next => obtain ⟨σ7, H7, I7, n7⟩ := q7; exact again I7 n7
    | cont => obtain ⟨σ7, H7, I7, n7⟩ := q7; exact again I7 n7
    | brk => obtain ⟨σ7, H7, I7, q7⟩ := q7; exact ⟨σ7, H7, I7.unpinned, q7⟩
    | ret v => obtain ⟨x7, σ7, H7, I7, r7, q7⟩ := q7; exact ⟨x7, σ7, H7, I7.unpinned, r7, q7⟩
end

/-! ### the forms one uses -/
/-- over a list that the body leaves as it is -/
theorem for_list {K : PySem.W.Frag} {a : Addr} {xs : List V} {g : TG} {tb : TS} {D : Ends} {σ : St} {H : Hp} (Pv : Nat → St → Hp → Prop) (h0 : Pv 0 σ H) (hl : ∀ i σ H, i ≤ xs.length → Pv i σ H → SqL K H a xs)
    (hs : ∀ i x σ H, xs[i]? = some x → Pv i σ H → g x σ H fun σ2 H2 => tb { D with nx := Pv (i + 1), ct := Pv (i + 1), bk := D.nx } σ2 H2) (hd : ∀ σ H, Pv xs.length σ H → D.nx σ H) :
    ∃ W : Nat → Nat → St → Hp → Prop, (∃ m, W 0 m σ H) ∧ ∀ i m σ H, W i m σ H →
      ((Itl K a).stop i H ∧ D.nx σ H) ∨ ((Itl K a).go i H ∧ ∃ N : St → Hp → Prop, (∀ σ' H', N σ' H' → ∃ m', m' < m ∧ W (i + 1) m' σ' H') ∧ ∀ x H', (Itl K a).yld i H x H' → g x σ H' fun σ2 H2 => tb { D with nx := N, ct := N, bk := D.nx } σ2 H2) := by
  refine ⟨fun i m σ H => m = xs.length - i ∧ i ≤ xs.length ∧ Pv i σ H, ⟨xs.length, by simp, Nat.zero_le _, h0⟩, ?_⟩
  rintro i m σ H ⟨rfl, hi, p⟩
  have q := hl i σ H hi p
  by_cases hlt : i < xs.length
  · refine .inr ⟨⟨xs, xs[i], q, by simp [hlt]⟩, Pv (i + 1), fun σ' H' p' => ⟨xs.length - (i + 1), by omega, rfl, hlt, p'⟩, fun x H' y => ?_⟩
    obtain ⟨e, y⟩ := y
    subst e
    exact hs i x σ _ (y xs q) p
  · have e : i = xs.length := by omega
    subst e
    exact .inl ⟨⟨xs, q, Nat.le_refl _⟩, hd σ H p⟩
theorem for_range {lo : Int} {n : Nat} {g : TG} {tb : TS} {D : Ends} {σ : St} {H : Hp} (Pv : Nat → St → Hp → Prop) (h0 : Pv 0 σ H)
    (hs : ∀ i σ H, i < n → Pv i σ H → g (.int (lo + i)) σ H fun σ2 H2 => tb { D with nx := Pv (i + 1), ct := Pv (i + 1), bk := D.nx } σ2 H2) (hd : ∀ σ H, Pv n σ H → D.nx σ H) :
    ∃ W : Nat → Nat → St → Hp → Prop, (∃ m, W 0 m σ H) ∧ ∀ i m σ H, W i m σ H →
      ((Itr lo n).stop i H ∧ D.nx σ H) ∨ ((Itr lo n).go i H ∧ ∃ N : St → Hp → Prop, (∀ σ' H', N σ' H' → ∃ m', m' < m ∧ W (i + 1) m' σ' H') ∧ ∀ x H', (Itr lo n).yld i H x H' → g x σ H' fun σ2 H2 => tb { D with nx := N, ct := N, bk := D.nx } σ2 H2) := by
  refine ⟨fun i m σ H => m = n - i ∧ i ≤ n ∧ Pv i σ H, ⟨n, by simp, Nat.zero_le _, h0⟩, ?_⟩
  rintro i m σ H ⟨rfl, hi, p⟩
  by_cases hlt : i < n
  · refine .inr ⟨hlt, Pv (i + 1), fun σ' H' p' => ⟨n - (i + 1), by omega, rfl, hlt, p'⟩, fun x H' y => ?_⟩
    obtain ⟨e, y⟩ := y
    subst e y
    exact hs i σ _ hlt p
  · have e : i = n := by omega
    subst e
    exact .inl ⟨Nat.le_refl _, hd σ H p⟩
end L2

namespace L2
open PySem PySem.Spec PyProof.Rows

noncomputable abbrev R2 := V → V → Hp → VK → Prop
/-- a two-place operation on values: f is binaryOp op, inplaceOp op or compareOp op -/
noncomputable def OpR (X : Cx) (f : Value → Value → Sem Value) (r : R2) : Prop :=
  ∀ (pins : List (Addr × Obj)) (s : Shared) (σ : St) (H : Hp) (x y : V) (v u : Value) (Q : VK), Inv X pins σ H s → RelV x v → RelV y u → r x y H Q →
    wpAny (model X.prog X.w) X.A (f v u) (EP X pins σ Q) X.xe s
/-- a one-place operation -/
noncomputable def UnR (X : Cx) (f : Value → Sem Value) (r : V → Hp → VK → Prop) : Prop :=
  ∀ (pins : List (Addr × Obj)) (s : Shared) (σ : St) (H : Hp) (x : V) (v : Value) (Q : VK), Inv X pins σ H s → RelV x v → r x H Q →
    wpAny (model X.prog X.w) X.A (f v) (EP X pins σ Q) X.xe s
/-- a call of a value that is known (a builtin, a type) with values -/
noncomputable def CallR (X : Cx) (f : Value) (r : List V → Hp → VK → Prop) : Prop :=
  ∀ (pins : List (Addr × Obj)) (s : Shared) (σ : St) (H : Hp) (xs : List V) (us : List Value) (Q : VK), Inv X pins σ H s → Vals xs us → r xs H Q →
    wpAny (model X.prog X.w) X.A (call f us) (EP X pins σ Q) X.xe s
/-- a value's truth -/
noncomputable def TruR (X : Cx) (r : V → Hp → (Bool → Hp → Prop) → Prop) : Prop :=
  ∀ (pins : List (Addr × Obj)) (s : Shared) (σ : St) (H : Hp) (x : V) (v : Value) (Q : Bool → Hp → Prop), Inv X pins σ H s → RelV x v → r x H Q →
    wpAny (model X.prog X.w) X.A (truthy v) (TP X pins σ Q) X.xe s

noncomputable def tOp (r : R2) (ta tb : TE) : TE := fun σ H Q => ta σ H fun x H1 => tb σ H1 fun y H2 => r x y H2 Q
noncomputable def tUn (r : V → Hp → VK → Prop) (ta : TE) : TE := fun σ H Q => ta σ H fun x H1 => r x H1 Q
/-- ints in, under C, and a value out -/
noncomputable def rI (C : Int → Int → Prop) (g : Int → Int → V) : R2 := fun x y H Q => ∃ i j, x = .int i ∧ y = .int j ∧ C i j ∧ Q (g i j) H
noncomputable def rI0 (g : Int → Int → V) : R2 := fun x y H Q => ∃ i j, x = .int i ∧ y = .int j ∧ Q (g i j) H
noncomputable def rU (g : Int → V) : V → Hp → VK → Prop := fun x H Q => ∃ i, x = .int i ∧ Q (g i) H

section
variable {X : Cx} {a b c : Expr} {ta tb tc : TE} {pos : Pos}

theorem binT (ha : PE X a ta) (hb : PE X b tb) {pins : List (Addr × Obj)} {s : Shared} {σ : St} {H : Hp} {R : V → V → Hp → Prop} (I : Inv X pins σ H s)
    (h : ta σ H fun x H1 => tb σ H1 fun y H2 => R x y H2) {Q : Value → Shared → Prop} {f : Value → Value → Sem Value}
    (hf : ∀ v u s2 x y H2, Inv X pins σ H2 s2 → RelV x v → RelV y u → R x y H2 → wpAny (model X.prog X.w) X.A (f v u) Q X.xe s2) :
    wpAny (model X.prog X.w) X.A (eval a X.env) (fun v s₁ => wpAny (model X.prog X.w) X.A (eval b X.env) (fun u s₂ => wpAny (model X.prog X.w) X.A (f v u) Q X.xe s₂) X.xe s₁) X.xe s := by
  refine thn (ha pins s σ H _ I h) fun v s1 ⟨x, H1, I1, r1, q1⟩ => ?_
  refine thn (hb pins s1 σ H1 _ I1 q1) fun u s2 ⟨y, H2, I2, r2, q2⟩ => ?_
  exact hf v u s2 x y H2 I2 r1 r2 q2

theorem pe_op {op : Operator} {r : R2} (ho : OpR X (binaryOp op) r) (ha : PE X a ta) (hb : PE X b tb) : PE X (.BinOp a op b pos) (tOp r ta tb) := by
  intro pins s σ H Q I h
  exact wpAny_BinOp (binT ha hb I h fun v u s2 x y H2 I2 rx ry q => ho pins s2 σ H2 x y v u Q I2 rx ry q)
theorem pe_un {op : UnaryOp} {r : V → Hp → VK → Prop} (ho : UnR X (unaryOp op) r) (ha : PE X a ta) : PE X (.UnaryOp op a pos) (tUn r ta) := by
  intro pins s σ H Q I h
  exact UnaryOp_ (thn (ha pins s σ H _ I h) fun v s1 ⟨x, H1, I1, r1, q1⟩ => ho pins s1 σ H1 x v Q I1 r1 q1)
/-! ### ints -/
theorem opI {f : Value → Value → Sem Value} {C : Int → Int → Prop} {g : Int → Int → Int}
    (rule : ∀ (i j : Int) (t u : Tok) (s : Shared) (Q : Value → Shared → Prop) (E : Value → Shared → Prop), C i j → Q (.int (g i j) s.toks) { s with toks := s.toks + 1 } → wpAny (model X.prog X.w) X.A (f (.int i t) (.int j u)) Q E s) :
    OpR X f (rI C fun i j => .int (g i j)) := by
  intro pins s σ H x y v u Q I rx ry h
  obtain ⟨i, j, rfl, rfl, hc, q⟩ := h
  obtain ⟨t, rfl⟩ := rx
  obtain ⟨t', rfl⟩ := ry
  exact rule i j t t' s _ _ hc ⟨.int (g i j), H, I.tok _, ⟨_, rfl⟩, q⟩
theorem opI0 {f : Value → Value → Sem Value} {g : Int → Int → Int}
    (rule : ∀ (i j : Int) (t u : Tok) (s : Shared) (Q : Value → Shared → Prop) (E : Value → Shared → Prop), Q (.int (g i j) s.toks) { s with toks := s.toks + 1 } → wpAny (model X.prog X.w) X.A (f (.int i t) (.int j u)) Q E s) :
    OpR X f (rI0 fun i j => .int (g i j)) := by
  intro pins s σ H x y v u Q I rx ry h
  obtain ⟨i, j, rfl, rfl, q⟩ := h
  obtain ⟨t, rfl⟩ := rx
  obtain ⟨t', rfl⟩ := ry
  exact rule i j t t' s _ _ ⟨.int (g i j), H, I.tok _, ⟨_, rfl⟩, q⟩
theorem opB0 {f : Value → Value → Sem Value} {g : Int → Int → Bool}
    (rule : ∀ (i j : Int) (t u : Tok) (s : Shared) (Q : Value → Shared → Prop) (E : Value → Shared → Prop), Q (.bool (g i j)) s → wpAny (model X.prog X.w) X.A (f (.int i t) (.int j u)) Q E s) :
    OpR X f (rI0 fun i j => .bl (g i j)) := by
  intro pins s σ H x y v u Q I rx ry h
  obtain ⟨i, j, rfl, rfl, q⟩ := h
  obtain ⟨t, rfl⟩ := rx
  obtain ⟨t', rfl⟩ := ry
  exact rule i j t t' s _ _ ⟨.bl (g i j), H, I, rfl, q⟩

noncomputable def CDiv (i j : Int) : Prop := 0 < j ∧ j < 1073741824
noncomputable def CDivN (i j : Int) : Prop := j ≠ 0 ∧ j.natAbs < 1073741824
noncomputable def CPow (i j : Int) : Prop := 0 ≤ j ∧ j ≤ 1000000 ∧ i.natAbs < 2 ^ 64
noncomputable def CMul (i j : Int) : Prop := (-(2 ^ 64) < i ∧ i < 2 ^ 64) ∨ (-(2 ^ 64) < j ∧ j < 2 ^ 64)
theorem CMul.ok {i j : Int} (h : CMul i j) : IntMulOk i j := by
  rcases h with ⟨h1, h2⟩ | ⟨h1, h2⟩
  · exact .of_left (intBits_le_64 h1 h2)
  · exact .of_right (intBits_le_64 h1 h2)
theorem two_pow_nn (k : Nat) : (0 : Int) ≤ 2 ^ k := by
  rw [two_pow_cast]
  exact Int.natCast_nonneg _

theorem op_add : OpR X (binaryOp .Add) (rI0 fun i j => .int (i + j)) := opI0 fun _ _ _ _ _ _ _ q => add_int q
theorem op_sub : OpR X (binaryOp .Sub) (rI0 fun i j => .int (i - j)) := opI0 fun _ _ _ _ _ _ _ q => sub_int q
theorem op_mul : OpR X (binaryOp .Mult) (rI CMul fun i j => .int (i * j)) := opI fun _ _ _ _ _ _ _ hc q => mul_int q hc.ok
/-- // by a positive divisor -/
theorem op_fdiv : OpR X (binaryOp .FloorDiv) (rI CDiv fun i j => .int (i / j)) := opI fun i j _ _ _ _ _ hc q => by
  have h1 : (0 : Int) < j := hc.1
  have h2 : j < 1073741824 := hc.2
  exact floordiv_int (by omega) (by rw [Int.fdiv_eq_ediv_of_nonneg i (by omega)]; exact q) (.inl (PyProof.noPylong_small (by omega)))
/-- % by a positive divisor of any size -/
theorem op_mod : OpR X (binaryOp .Mod) (rI (fun _ j => 0 < j) fun i j => .int (i % j)) := opI fun i j _ _ _ _ _ hc q => by
  have h1 : (0 : Int) < j := hc
  exact mod_int' (by omega) (by rw [Int.fmod_eq_emod_of_nonneg i (by omega)]; exact q)
theorem op_pow : OpR X (binaryOp .Pow) (rI CPow fun i j => .int (i ^ j.toNat)) := opI fun _ _ _ _ _ _ _ hc q => pow_int_small hc.1 hc.2.1 hc.2.2 q
theorem op_shl : OpR X (binaryOp .LShift) (rI CPow fun i j => .int (i * 2 ^ j.toNat)) := opI fun _ _ _ _ _ _ _ hc q => lshift_int_small hc.1 hc.2.1 hc.2.2 q
theorem op_shr : OpR X (binaryOp .RShift) (rI (fun _ j => 0 ≤ j) fun i j => .int (i / 2 ^ j.toNat)) := opI fun i j _ _ _ _ _ hc q =>
  rshift_int hc (by rw [Int.fdiv_eq_ediv_of_nonneg i (two_pow_nn _)]; exact q)
theorem op_and : OpR X (binaryOp .BitAnd) (rI0 fun i j => .int (Builtin.bitAnd i j)) := opI0 fun _ _ _ _ _ _ _ q => and_int q
theorem op_or : OpR X (binaryOp .BitOr) (rI0 fun i j => .int (Builtin.bitOr i j)) := opI0 fun _ _ _ _ _ _ _ q => or_int q
theorem unI {f : Value → Sem Value} {g : Int → Int}
    (rule : ∀ (i : Int) (t : Tok) (s : Shared) (Q : Value → Shared → Prop) (E : Value → Shared → Prop), Q (.int (g i) s.toks) { s with toks := s.toks + 1 } → wpAny (model X.prog X.w) X.A (f (.int i t)) Q E s) :
    UnR X f (rU fun i => .int (g i)) := by
  intro pins s σ H x v Q I rx h
  obtain ⟨i, rfl, q⟩ := h
  obtain ⟨t, rfl⟩ := rx
  exact rule i t s _ _ ⟨.int (g i), H, I.tok _, ⟨_, rfl⟩, q⟩
theorem un_neg : UnR X (unaryOp .USub) (rU fun i => .int (-i)) := unI fun _ _ _ _ _ q => neg_int q
/-! ### bools among ints: n += (a < b) -/
end

/-! ### comparisons -/
/-- the scalars that == tells apart as data does -/
noncomputable def scal : V → V → Bool
  | .non, .non => true | .non, .int _ => true | .int _, .non => true | .non, .bl _ => true | .bl _, .non => true | .non, .str _ => true | .str _, .non => true
  | .int _, .int _ => true | .bl _, .bl _ => true | .str _, .str _ => true | .byt _, .byt _ => true
  | .int _, .str _ => true | .str _, .int _ => true | .bl _, .str _ => true | .str _, .bl _ => true
  | _, _ => false
noncomputable def rEq : R2 := fun x y H Q => scal x y = true ∧ Q (.bl (decide (x = y))) H
noncomputable def rNe : R2 := fun x y H Q => scal x y = true ∧ Q (.bl (!decide (x = y))) H

theorem dec_int {i j : Int} : decide (V.int i = V.int j) = (i == j) := by
  rw [Bool.eq_iff_iff]
  simp
theorem dec_bl {i j : Bool} : decide (V.bl i = V.bl j) = (i == j) := by
  rw [Bool.eq_iff_iff]
  simp
theorem dec_str {i j : Str} : decide (V.str i = V.str j) = (i == j) := by
  rw [Bool.eq_iff_iff]
  simp
theorem dec_byt {i j : Array UInt8} : decide (V.byt i = V.byt j) = (i.toList == j.toList) := by
  rw [Bool.eq_iff_iff]
  cases i
  cases j
  simp

section
variable {X : Cx} {a b c : Expr} {ta tb tc : TE} {pos : Pos}
theorem fin_bl {pins : List (Addr × Obj)} {σ : St} {H : Hp} {s : Shared} {Q : VK} {k k' : Bool} (I : Inv X pins σ H s) (q : Q (.bl k) H) (e : k = k') : EP X pins σ Q (.bool k') s := by
  subst e
  exact ⟨.bl k, H, I, rfl, q⟩
theorem op_eq : OpR X (compareOp .Eq) rEq := by
  intro pins s σ H x y v u Q I rx ry h
  obtain ⟨hs, q⟩ := h
  cases x with
  | non =>
    cases rx
    cases y with
    | non => cases ry; exact PySem.EqNone.eq_none_none (fin_bl I q (by simp))
    | bl j => cases ry; exact PySem.EqNone.eq_none_bool (fin_bl I q (by simp))
    | int j => obtain ⟨t', rfl⟩ := ry; exact PySem.EqNone.eq_none_int (fin_bl I q (by simp))
    | str j => obtain ⟨t', rfl⟩ := ry; exact PySem.EqNone.eq_none_str (fin_bl I q (by simp))
    | _ => exact absurd (show false = true from hs) Bool.false_ne_true
  | bl i =>
    cases rx
    cases y with
    | non => cases ry; exact PySem.EqNone.eq_bool_none (fin_bl I q (by simp))
    | bl j => cases ry; exact eq_bool (fin_bl I q dec_bl)
    | str j => obtain ⟨t', rfl⟩ := ry; exact PySem.EqMixed.eq_bool_str (fin_bl I q (by simp))
    | _ => exact absurd (show false = true from hs) Bool.false_ne_true
  | int i =>
    obtain ⟨t, rfl⟩ := rx
    cases y with
    | non => cases ry; exact PySem.EqNone.eq_int_none (fin_bl I q (by simp))
    | int j => obtain ⟨t', rfl⟩ := ry; exact eq_int (fin_bl I q dec_int)
    | str j => obtain ⟨t', rfl⟩ := ry; exact PySem.EqMixed.eq_int_str (fin_bl I q (by simp))
    | _ => exact absurd (show false = true from hs) Bool.false_ne_true
  | str i =>
    obtain ⟨t, rfl⟩ := rx
    cases y with
    | non => cases ry; exact PySem.EqNone.eq_str_none (fin_bl I q (by simp))
    | bl j => cases ry; exact PySem.EqMixed.eq_str_bool (fin_bl I q (by simp))
    | int j => obtain ⟨t', rfl⟩ := ry; exact PySem.EqMixed.eq_str_int (fin_bl I q (by simp))
    | str j => obtain ⟨t', rfl⟩ := ry; exact eq_str (fin_bl I q dec_str)
    | _ => exact absurd (show false = true from hs) Bool.false_ne_true
  | byt i =>
    obtain ⟨t, rfl⟩ := rx
    cases y with
    | byt j => obtain ⟨t', rfl⟩ := ry; exact PySem.W.eq_bytes (fin_bl I q dec_byt)
    | _ => exact absurd (show false = true from hs) Bool.false_ne_true
  | _ => cases y <;> exact absurd (show false = true from hs) Bool.false_ne_true
theorem op_ne : OpR X (compareOp .NotEq) rNe := by
  intro pins s σ H x y v u Q I rx ry h
  obtain ⟨hs, q⟩ := h
  cases x with
  | non =>
    cases rx
    cases y with
    | non => cases ry; exact PySem.EqNone.ne_none_none (fin_bl I q (by simp))
    | bl j => cases ry; exact PySem.EqNone.ne_none_bool (fin_bl I q (by simp))
    | int j => obtain ⟨t', rfl⟩ := ry; exact PySem.EqNone.ne_none_int (fin_bl I q (by simp))
    | str j => obtain ⟨t', rfl⟩ := ry; exact PySem.EqNone.ne_none_str (fin_bl I q (by simp))
    | _ => exact absurd (show false = true from hs) Bool.false_ne_true
  | bl i =>
    cases rx
    cases y with
    | non => cases ry; exact PySem.EqNone.ne_bool_none (fin_bl I q (by simp))
    | bl j => cases ry; exact ne_bool (fin_bl I q (congrArg not dec_bl))
    | str j => obtain ⟨t', rfl⟩ := ry; exact PySem.EqMixed.ne_bool_str (fin_bl I q (by simp))
    | _ => exact absurd (show false = true from hs) Bool.false_ne_true
  | int i =>
    obtain ⟨t, rfl⟩ := rx
    cases y with
    | non => cases ry; exact PySem.EqNone.ne_int_none (fin_bl I q (by simp))
    | int j => obtain ⟨t', rfl⟩ := ry; exact ne_int (fin_bl I q (congrArg not dec_int))
    | str j => obtain ⟨t', rfl⟩ := ry; exact PySem.EqMixed.ne_int_str (fin_bl I q (by simp))
    | _ => exact absurd (show false = true from hs) Bool.false_ne_true
  | str i =>
    obtain ⟨t, rfl⟩ := rx
    cases y with
    | non => cases ry; exact PySem.EqNone.ne_str_none (fin_bl I q (by simp))
    | bl j => cases ry; exact PySem.EqMixed.ne_str_bool (fin_bl I q (by simp))
    | int j => obtain ⟨t', rfl⟩ := ry; exact PySem.EqMixed.ne_str_int (fin_bl I q (by simp))
    | str j => obtain ⟨t', rfl⟩ := ry; exact ne_str (fin_bl I q (congrArg not dec_str))
    | _ => exact absurd (show false = true from hs) Bool.false_ne_true
  | byt i =>
    obtain ⟨t, rfl⟩ := rx
    cases y with
    | byt j => obtain ⟨t', rfl⟩ := ry; exact PySem.W.ne_bytes (fin_bl I q (congrArg not dec_byt))
    | _ => exact absurd (show false = true from hs) Bool.false_ne_true
  | _ => cases y <;> exact absurd (show false = true from hs) Bool.false_ne_true

theorem op_lt : OpR X (compareOp .Lt) (rI0 fun i j => .bl (decide (i < j))) := opB0 fun _ _ _ _ _ _ _ q => lt_int q
theorem op_le : OpR X (compareOp .LtE) (rI0 fun i j => .bl (decide (i ≤ j))) := opB0 fun _ _ _ _ _ _ _ q => le_int q
theorem op_gt : OpR X (compareOp .Gt) (rI0 fun i j => .bl (decide (j < i))) := opB0 fun _ _ _ _ _ _ _ q => gt_int q
theorem op_ge : OpR X (compareOp .GtE) (rI0 fun i j => .bl (decide (j ≤ i))) := opB0 fun _ _ _ _ _ _ _ q => ge_int q
/-- is, is not of two objects that are tracked lists or instances -/
noncomputable def isObj : HO → Bool
  | .lst _ => true
  | .ins _ _ _ => true
  | _ => false
theorem nomark (b : Expr) {op : CmpOp} (h : op ≠ .In := by decide) (h2 : op ≠ .NotIn := by decide) : behindInMarks op b = false := by
  have e1 : (op == CmpOp.In) = false := by cases op <;> first | rfl | exact absurd rfl h
  have e2 : (op == CmpOp.NotIn) = false := by cases op <;> first | rfl | exact absurd rfl h2
  cases b <;> simp [behindInMarks, e1, e2]
/-- a comparison as a value; hm: nomark b, or (for in, not in) by with_unfolding_all rfl -/
theorem pe_cmpR {op : CmpOp} {r : R2} (ho : OpR X (compareOp op) r) (ha : PE X a ta) (hb : PE X b tb) (hm : behindInMarks op b = false) : PE X (.Compare a [op] [b] pos) (tOp r ta tb) := by
  intro pins s σ H Q I h
  exact wpAny_Compare1 (binT ha hb I h fun v u s2 x y H2 I2 rx ry q => ho pins s2 σ H2 x y v u Q I2 rx ry q) hm
/-- a reading of a value as a test -/
noncomputable def tTest (t : TE) : TT := fun σ H Q => t σ H fun x H' => ∃ k, x = .bl k ∧ Q k H'
theorem pt_cmpR {op : CmpOp} {r : R2} (ho : OpR X (compareOp op) r) (ha : PE X a ta) (hb : PE X b tb) (hm : behindInMarks op b = false) : PT X (.Compare a [op] [b] pos) (tTest (tOp r ta tb)) := by
  intro pins s σ H Q I h
  refine wpAny_isTrue_Compare1 (thn (ha pins s σ H _ I h) fun v s1 ⟨x, H1, I1, r1, q1⟩ => thn (hb pins s1 σ H1 _ I1 q1) fun u s2 ⟨y, H2, I2, r2, q2⟩ =>
    thn (ho pins s2 σ H2 x y v u _ I2 r1 r2 q2) fun c s3 ⟨z, H3, I3, r3, k, e, q3⟩ => ?_) hm
  subst e
  cases r3
  exact wpAny_truthy_bool ⟨H3, I3, q3⟩
/-- a op1 b op2 c -/
noncomputable def tChain (r r' : R2) (ta tb tc : TE) : TE := fun σ H Q => ta σ H fun x H1 => tb σ H1 fun y H2 => r x y H2 fun z H3 => ∃ k, z = .bl k ∧
  (if k = true then tc σ H3 fun w' H4 => r' y w' H4 Q else Q (.bl false) H3)
/-! ### truth -/
/-- a value's truth by the abstract heap -/
noncomputable def TruV (K : PySem.W.Frag) (x : V) (H : Hp) (k : Bool) : Prop :=
  match x with
  | .non => k = false
  | .bl b => k = b
  | .int i => k = (i != 0)
  | .str y => y.length ≤ sizeLine ∧ k = ((y.length : Int) != 0)
  | .byt y => y.size ≤ sizeLine ∧ k = ((y.size : Int) != 0)
  | .ref p => (∃ xs, SqL K H p xs ∧ k = !xs.isEmpty) ∨ (∃ xs, SqT K H p xs ∧ k = !xs.isEmpty) ∨ ∃ kvs, H p = some (.dK kvs) ∧ k = !kvs.isEmpty
  | _ => False
theorem line63 : (sizeLine : Nat) < 2 ^ 63 := by rw [sizeLine_eq]; decide
/-! ### strs and bytes -/
noncomputable def PlainIxT (b : Expr) : Prop := ∀ o i, subscripted b false o i = operate [o, i] (getItem o i)
/-! ### scalar builtins, by CallR -/
theorem vals1 {x : V} {us : List Value} (r : Vals [x] us) : ∃ u, us = [u] ∧ RelV x u := by
  cases r with
  | cons r1 r2 => cases r2; exact ⟨_, rfl, r1⟩
theorem vals2 {x y : V} {us : List Value} (r : Vals [x, y] us) : ∃ u w', us = [u, w'] ∧ RelV x u ∧ RelV y w' := by
  cases r with
  | cons r1 r2 =>
    cases r2 with
    | cons r3 r4 => cases r4; exact ⟨_, _, rfl, r1, r3⟩
/-- len of a str, a bytes, a list, a tuple -/
noncomputable def LenV (K : PySem.W.Frag) (x : V) (H : Hp) (n : Nat) : Prop :=
  match x with
  | .str y => y.length ≤ sizeLine ∧ n = y.length
  | .byt y => y.size ≤ sizeLine ∧ n = y.size
  | .ref p => (∃ xs, SqL K H p xs ∧ n = xs.length) ∨ ∃ xs, SqT K H p xs ∧ n = xs.length
  | _ => False
end
end L2

namespace L2
open PySem PySem.Spec PyProof.Rows

/-! ### an instance, its attributes a map -/
structure ObjM (h : Heap) (x dx C : Addr) (mA : Str → Option Value) : Prop where
  obj : h.get? x = some (PySem.W.instObj C dx)
  ns : h.Ns1 dx mA
  ne : dx ≠ x

theorem lookIn_ns {h : Heap} {dx : Addr} {mA : Str → Option Value} (n : h.Ns1 dx mA) : ∃ od, h.get? dx = some od ∧ ∀ name, PySem.W.lookIn name od = some (mA name) := by
  obtain ⟨o, es, ep, ho, hd, hk, _, hm⟩ := n
  refine ⟨o, ho, fun name => ?_⟩
  have e := hm name
  unfold nsFind findBy at e
  rw [← Array.find?_toList] at e
  unfold PySem.W.lookIn
  rw [hd]
  dsimp only
  split
  · rename_i y q
    rw [q] at e
    exact congrArg some e
  · rename_i q
    rw [q] at e
    have a : es.toList.any (·.refKey) = false := by
      rw [List.any_eq_false]
      intro y hy
      obtain ⟨z, t, hkey⟩ := hk y (Array.mem_toList_iff.mp hy)
      simp [DictEntry.refKey, hkey]
    have a' : ¬ es.toList.any (·.refKey) = true := by rw [a]; exact Bool.false_ne_true
    rw [if_neg a']
    exact congrArg some e

theorem ObjM.look {h : Heap} {x dx C : Addr} {mA : Str → Option Value} (I : ObjM h x dx C mA) : ∃ od, PySem.W.InstAt h x (PySem.W.instObj C dx) C (some od) ∧ ∀ name, PySem.W.lookIn name od = some (mA name) :=
  let ⟨od, ho, hl⟩ := lookIn_ns I.ns
  ⟨od, ⟨I.obj, rfl, rfl, ho⟩, hl⟩

section
variable {prog : Program} {w : World} {A : Around} {E : Value → Shared → Prop} {s : Shared} {K : PySem.W.Frag} {x dx C f : Addr} {mA : Str → Option Value} {name : Str} {v : Value}

end

/-! ### the attributes as a list of pairs -/
noncomputable def putF (f : Str) (v : V) : List (Str × V) → List (Str × V)
  | [] => [(f, v)]
  | (g, x) :: r => if g = f then (g, v) :: r else (g, x) :: putF f v r
section
variable {P : Program} {w : World} {H H' : Hp} {h h' : Heap} {a C dx : Addr} {fs fs' : List (Str × V)}
theorem ins_get (hok : HOk P w H h) (e : H a = some (.ins C dx fs)) : ∃ mA, ObjM h a dx C mA ∧ (∀ f, RelO (fs.lookup f) (mA f)) ∧ PySem.Within mA (fs.map (·.1)) ∧ fs.length ≤ 1000 ∧ H dx = some (.own a) := by
  obtain ⟨d, z, ne, ob, mA, n, r, q⟩ := (show ObjOk P w H h a (.ins C dx fs) from hok a _ e)
  exact ⟨mA, ⟨ob, n, ne⟩, r, q, z, d⟩
end

/-! ### what of the text a class must have -/
structure Cls (K : PySem.W.Frag) (C : Addr) : Prop where
  pg : PySem.W.plainGet K C Str.empty = true
  hd : PySem.W.hasDictIn K C = true
  po : PySem.W.plainOver K C = true
  sa : PySem.W.findIn K (.ref C) "__setattr__" = some (some (.builtin "object.__setattr__"))
theorem Cls.get {K : PySem.W.Frag} {C : Addr} (c : Cls K C) (f : Str) : PySem.W.plainGet K C f = true := c.pg
/-- no class of it has the name -/
noncomputable def NoAttr (K : PySem.W.Frag) (C : Addr) (f : Str) : Prop := PySem.W.findIn K (.ref C) f = some none
/-- a constant of the class -/
structure Con (K : PySem.W.Frag) (C : Addr) (f : Str) (v : V) (u : Value) : Prop where
  at_ : PySem.W.findIn K (.ref C) f = some (some u)
  rel : RelV v u
  get : PySem.W.specialIn K u "__get__" = some none
  cp : PySem.W.copiedNames.contains f = false
/-- a method: a plain def of the class or of one above it -/
structure Meth (K : PySem.W.Frag) (C : Addr) (m : Str) (f : Addr) : Prop where
  at_ : PySem.W.findIn K (.ref C) m = some (some (.ref f))
  fn : PySem.W.isFn K (.ref f) = true
  kp : PySem.W.keepIn K (.ref f) = true

section
variable {X : Cx} {pins : List (Addr × Obj)} {σ : St} {H : Hp} {s : Shared} {a C dx : Addr} {fs : List (Str × V)} {f : Str} {v : V} {A : Around} {E : Value → Shared → Prop}

end

/-! ### readings and rules -/
/-- e.f, an attribute of the instance -/
noncomputable def tFld (K : PySem.W.Frag) (ta : TE) (f : Str) : TE := fun σ H Q => ta σ H fun x H1 => ∃ a C dx fs v, x = .ref a ∧ H1 a = some (.ins C dx fs) ∧ Cls K C ∧ NoAttr K C f ∧ fs.lookup f = some v ∧ Q v H1
/-- e.f, a constant of the class -/
noncomputable def tCon (K : PySem.W.Frag) (ta : TE) (f : Str) : TE := fun σ H Q => ta σ H fun x H1 => ∃ a C dx fs v u, x = .ref a ∧ H1 a = some (.ins C dx fs) ∧ Cls K C ∧ Con K C f v u ∧ fs.lookup f = none ∧ Q v H1
/-- e.f = value -/
noncomputable def sFld (K : PySem.W.Frag) (ta tv : TE) (f : Str) : TS := fun D σ H => tv σ H fun y H1 => ta σ H1 fun x H2 => ∃ a C dx fs, x = .ref a ∧ H2 a = some (.ins C dx fs) ∧ Cls K C ∧ NoAttr K C f ∧ fs.length < 1000 ∧
  D.nx σ (upd H2 a (.ins C dx (putF f y fs)))
/-- an augmented operator on two values -/
noncomputable def InOp (X : Cx) (op : Operator) (rd : V → V → Hp → VK → Prop) : Prop :=
  ∀ (pins : List (Addr × Obj)) (s : Shared) (σ : St) (H : Hp) (x y : V) (u v : Value) (Q : VK), Inv X pins σ H s → RelV x u → RelV y v → rd x y H Q → wpAny (model X.prog X.w) X.A (inplaceOp op u v) (EP X pins σ Q) X.xe s
/-- e.f op= value -/
noncomputable def sFldAug (K : PySem.W.Frag) (ta tv : TE) (rd : V → V → Hp → VK → Prop) (f : Str) : TS := fun D σ H => ta σ H fun x H1 => ∃ a C dx fs v, x = .ref a ∧ H1 a = some (.ins C dx fs) ∧ Cls K C ∧ NoAttr K C f ∧ fs.lookup f = some v ∧
  tv σ H1 fun y H2 => rd v y H2 fun z H3 => ∃ dx' fs', H3 a = some (.ins C dx' fs') ∧ fs'.length < 1000 ∧ D.nx σ (upd H3 a (.ins C dx' (putF f z fs')))

section
variable {X : Cx} {o e value : Expr} {f : Str} {pos pos' tpos : Pos} {ta tv : TE}
noncomputable def rAdd : V → V → Hp → VK → Prop := fun x y H Q => ∃ i j, x = .int i ∧ y = .int j ∧ Q (.int (i + j)) H
noncomputable def rSub : V → V → Hp → VK → Prop := fun x y H Q => ∃ i j, x = .int i ∧ y = .int j ∧ Q (.int (i - j)) H
end

/-! ### isinstance -/
section
variable {X : Cx} {pins : List (Addr × Obj)} {σ : St} {H : Hp} {s : Shared} {A : Around} {E : Value → Shared → Prop} {Q : Value → Shared → Prop} {c : Value} {b : Bool}
/-- the type of a value, as the fragment's deciders take it; for an instance its class -/
inductive TyOf (K : PySem.W.Frag) (H : Hp) : V → Value → Prop where
  | non : TyOf K H .non (.type "NoneType")
  | bl (x : Bool) : TyOf K H (.bl x) (.type "bool")
  | int (i : Int) : TyOf K H (.int i) (.type "int")
  | str (x : Str) : TyOf K H (.str x) (.type "str")
  | flt (x : UInt64) : TyOf K H (.flt x) (.type "float")
  | lst {a : Addr} {xs : List V} (e : H a = some (.lst xs)) : TyOf K H (.ref a) (.type "list")
  | frz {a : Addr} {o : Obj} {xs : List V} (e : H a = some (.frz o (.lst xs))) : TyOf K H (.ref a) (.type "list")
  | tup {a : Addr} {xs : List V} (e : H a = some (.tup xs)) : TyOf K H (.ref a) (.type "tuple")
  | dK {a : Addr} {kvs : List (Key × V)} (e : H a = some (.dK kvs)) : TyOf K H (.ref a) (.type "dict")
  | dT {a : Addr} {kvs : List (List Key × V)} (e : H a = some (.dT kvs)) : TyOf K H (.ref a) (.type "dict")
  | ins {a C dx : Addr} {fs : List (Str × V)} (e : H a = some (.ins C dx fs)) (cl : Cls K C) (ha : PySem.W.findIn K (.ref C) "__class__" = some (some (.builtin "object.__class__")))
      (hn : PySem.W.specialIn K (.builtin "object.__class__") "__get__" = some (some (.builtin "getset_descriptor.__get__"))) (htk : PySem.W.takesIn K (.builtin "object.__class__") = some true)
      (hm : PySem.W.mroIn K C (.type "object") = some true) : TyOf K H (.ref a) (.ref C)
/-- isinstance(x, c) for one class c, a built-in or an own one: kitOne's answer -/
theorem isinst_ok {x : V} {u t : Value} (I : Inv X pins σ H s) (rx : RelV x u) (ty : TyOf X.K H x t) (e : PySem.W.kitOne X.K t c = some b) (h : ∀ tk, Q (.bool b) { s with toks := tk }) :
    wpAny (model X.prog X.w) A (call (.builtin "isinstance") [u, c]) Q E s := by
  cases ty with
  | non => cases (show u = Value.none from rx); exact PySem.W.kia_one PySem.W.kitx_none I.kIn True.intro e (fun z => nomatch z) h
  | bl y => cases (show u = Value.bool y from rx); exact PySem.W.kia_one PySem.W.kitx_bool I.kIn True.intro e (fun z => nomatch z) h
  | int i => obtain ⟨t, q⟩ := (show ∃ t, u = Value.int i t from rx); cases q; exact PySem.W.kia_one PySem.W.kitx_int I.kIn True.intro e (fun z => nomatch z) h
  | str y => obtain ⟨t, q⟩ := (show ∃ t, u = Value.str y t from rx); cases q; exact PySem.W.kia_one PySem.W.kitx_str I.kIn True.intro e (fun z => nomatch z) h
  | flt y => obtain ⟨t, q⟩ := (show ∃ t, u = Value.float y t from rx); cases q; exact PySem.W.kia_one PySem.W.kitx_float I.kIn True.intro e (fun z => nomatch z) h
  | @lst a xs ea =>
    cases (show u = Value.ref a from rx)
    obtain ⟨_, _, n, _, h1⟩ := (show ObjOk X.prog X.w H s.heap a (.lst xs) from I.hok a _ ea)
    exact PySem.W.kia_one PySem.W.kitx_list I.kIn ⟨_, h1, rfl⟩ e (fun z => nomatch z) h
  | @frz a ob xs ea =>
    cases (show u = Value.ref a from rx)
    obtain ⟨_, _, _, n, _, h1⟩ := (show ObjOk X.prog X.w H s.heap a (.frz ob (.lst xs)) from I.hok a _ ea)
    exact PySem.W.kia_one PySem.W.kitx_list I.kIn ⟨_, h1, rfl⟩ e (fun z => nomatch z) h
  | @tup a xs ea =>
    cases (show u = Value.ref a from rx)
    obtain ⟨_, _, _, p⟩ := (show ObjOk X.prog X.w H s.heap a (.tup xs) from I.hok a _ ea)
    obtain ⟨o, h1, h2, _⟩ := p
    exact PySem.W.kia_one PySem.W.kitx_tuple I.kIn ⟨o, h1, h2⟩ e (fun z => nomatch z) h
  | @dK a kvs ea =>
    cases (show u = Value.ref a from rx)
    obtain ⟨_, _, vs, _, p⟩ := (show ObjOk X.prog X.w H s.heap a (.dK kvs) from I.hok a _ ea)
    obtain ⟨o, es, ep, h1, h2, _⟩ := p
    exact PySem.W.kia_one PySem.W.kitx_dict I.kIn ⟨o, h1, h2.1⟩ e (fun z => nomatch z) h
  | @dT a kvs ea =>
    cases (show u = Value.ref a from rx)
    obtain ⟨_, _, xs, _, o, es, ep, h1, h2, _⟩ := (show ObjOk X.prog X.w H s.heap a (.dT kvs) from I.hok a _ ea)
    exact PySem.W.kia_one PySem.W.kitx_dict I.kIn ⟨o, h1, h2.1⟩ e (fun z => nomatch z) h
  | @ins a C dx fs ea cl ha hn htk hm =>
    cases (show u = Value.ref a from rx)
    obtain ⟨mA, O, _⟩ := ins_get I.hok ea
    obtain ⟨od, J, _⟩ := O.look
    exact PySem.W.kia_one (PySem.W.kitx_own (cl.get _) cl.hd ha hn htk hm) I.kIn J e (fun z => nomatch z) h
end
end L2

namespace L2
open PySem PySem.Spec PyProof.Rows

/-! ### room -/
structure Room (k : Nat) (A : Around) : Prop where
  hd : A.handled = none
  dp : A.depth + 3 * k + 5 < recursionLimit
  un : A.units + 16 * k + 200 < cLine
  gd : A.guards = some []
theorem Room.mono {j k : Nat} {A : Around} (r : Room k A) (h : j ≤ k) : Room j A := ⟨r.hd, by have := r.dp; omega, by have := r.un; omega, r.gd⟩
theorem Room.deeper {k : Nat} {A : Around} (r : Room (k + 1) A) (env : Env) : Room k (A.deeper env) :=
  ⟨r.hd, by have := r.dp; show A.depth + 1 + 3 * k + 5 < _; omega, by have := r.un; show A.units + 3 + 16 * k + 200 < _; omega, r.gd⟩
theorem Room.depth {k : Nat} {A : Around} (r : Room k A) : A.depth < recursionLimit := by have := r.dp; omega
theorem Room.units {k : Nat} {A : Around} (r : Room k A) : A.units + 64 < cLine := by have := r.un; omega
/-! ### argument lists and displays -/
noncomputable def tNil : TA := fun _ H Q => Q [] H
noncomputable def tCons (ta : TE) (tr : TA) : TA := fun σ H Q => ta σ H fun x H1 => tr σ H1 fun xs H2 => Q (x :: xs) H2
section
variable {X : Cx} {e : Expr} {es : List Expr} {te : TE} {t : TA} {pos : Pos}
theorem pa_nil : PA X [] tNil := fun _ _ _ _ H Q I h => Calls.spliced_nil ⟨[], H, I, .nil, h⟩
theorem pa_cons (ha : PE X e te) (hr : PA X es t) (hs : starEach (e :: es) X.env = (false, eval e X.env) :: starEach es X.env := by rfl) : PA X (e :: es) (tCons te t) := by
  intro pos pins s σ H Q I h
  rw [hs]
  show wpAny _ _ (spliced ((false, eval e X.env) :: backTo pos (starEach es X.env))) _ _ s
  refine Calls.spliced_cons (thn (ha pins s σ H _ I h) fun u s1 ⟨x, H1, I1, r1, q1⟩ => ?_)
  exact thn (hr pos pins s1 σ H1 _ I1 q1) fun us s2 ⟨xs, H2, I2, r2, q2⟩ => ⟨x :: xs, H2, I2, .cons r1 r2, q2⟩

/-- a tuple, a list of written items -/
noncomputable def tTup (t : TA) : TE := fun σ H Q => t σ H fun xs H1 => xs.length ≤ sizeLine ∧ ∀ p, H1 p = none → Q (.ref p) (upd H1 p (.tup xs))
noncomputable def tLst (t : TA) : TE := fun σ H Q => t σ H fun xs H1 => xs.length ≤ sizeLine ∧ ∀ p, H1 p = none → Q (.ref p) (upd H1 p (.lst xs))
theorem pe_tup {x1} (h : PA X es t) : PE X (.Tuple es x1 pos) (tTup t) := by
  intro pins s σ H Q I hq
  refine wpAny_Tuple_spliced (thn (h pos pins s σ H _ I hq) fun us s1 ⟨xs, H1, I1, r, z, q⟩ => ⟨by rw [← r.length]; exact z, ?_⟩)
  have hf : H1 s1.heap.objs.size = none := I1.hok.fresh (Nat.le_refl _)
  refine ⟨.ref s1.heap.objs.size, upd H1 s1.heap.objs.size (.tup xs), I1.laid (t' := s1.toks) (fun b u e => Heap.get?_push_of_some _ e) (Nat.le_refl _) ?_, rfl, q _ hf⟩
  exact ⟨z, us, r, ⟨_, Heap.get?_push_size _ rfl, rfl, _, rfl⟩⟩
theorem pe_lst (h : PA X es t) : PE X (.List es pos) (tLst t) := by
  intro pins s σ H Q I hq
  refine wpAny_List_spliced (thn (h pos pins s σ H _ I hq) fun us s1 ⟨xs, H1, I1, r, z, q⟩ => ⟨by rw [← r.length]; exact z, ?_⟩)
  have hf : H1 s1.heap.objs.size = none := I1.hok.fresh (Nat.le_refl _)
  refine ⟨.ref s1.heap.objs.size, upd H1 s1.heap.objs.size (.lst xs), I1.laid (t' := s1.toks) (fun b u e => Heap.get?_push_of_some _ e) (Nat.le_refl _) ?_, rfl, q _ hf⟩
  exact ⟨z, us, 0, r, Heap.get?_push_size _ rfl⟩
end

/-! ### what a def promises -/
/-- a def's promise: the bound arguments in the parameters' order, the heap, the wanted end, the wanted exception -/
noncomputable abbrev Sp := List V → Hp → VK → XK → Prop
/-- how an exception lies behind a call (file 08 gives it): the callers' frames, abstract heap and state ahead of the call, the wish, the exception, the state -/
noncomputable abbrev CXT := List Env → Hp → Shared → XK → Value → Shared → Prop

/-- the state at a call -/
structure Env0 (P : Program) (w : World) (K : PySem.W.Frag) (mg : Str → Option Value) (base : Heap) (A : Around) (outer : List Env) (s : Shared) (H : Hp) : Prop where
  frames : A.frames = some outer
  mod : Mod K mg base
  bs : ∀ b o, base.get? b = some o → s.heap.get? b = some o ∧ H b = none
  bsz : base.objs.size ≤ s.heap.objs.size
  funs : s.heap.FunFrames base outer
  frf : ∀ b ∈ frs outer, H b = none
  hok : HOk P w H s.heap
  bare : AllBare s.gens
/-- a call's end -/
noncomputable def CE (outer : List Env) (P : Program) (w : World) (H : Hp) (s : Shared) (Q : VK) (u : Value) (s' : Shared) : Prop :=
  ∃ v H', s'.os = s.os ∧ AllBare s'.gens ∧ Un (frs outer) [] H H' s.heap s'.heap ∧ HOk P w H' s'.heap ∧ RelV v u ∧ Q v H'
noncomputable def CR (CX : CXT) (outer : List Env) (P : Program) (w : World) (H : Hp) (s : Shared) (Q : VK) (E : XK) (r : Result) (s' : Shared) : Prop :=
  match r with
  | .ok (.ret u) => CE outer P w H s Q u s'
  | .ok _ => False
  | .error e => CX outer H s E e s'
structure FnOk (P : Program) (w : World) (K : PySem.W.Frag) (mg : Str → Option Value) (base : Heap) (CX : CXT) (k : Nat) (f : Addr) (fd : FuncData) (ps : List Str) (sp : Sp) : Prop where
  len : ∀ vs H Q E, sp vs H Q E → vs.length = ps.length
  run : ∀ (A : Around) (outer : List Env) (s : Shared) (H : Hp) (args : Args) (us : List Value) (vs : List V) (Q : VK) (E : XK), Room k A → Env0 P w K mg base A outer s H → BindsTo s fd args (ps.zip us) → Vals vs us → sp vs H Q E →
    codeAny (model P w) A (.call (.ref f) args) (CR CX outer P w H s Q E) s
theorem FnOk.mono {P : Program} {w : World} {K : PySem.W.Frag} {mg : Str → Option Value} {base : Heap} {CX : CXT} {j k : Nat} {f : Addr} {fd : FuncData} {ps : List Str} {sp : Sp} (F : FnOk P w K mg base CX j f fd ps sp) (h : j ≤ k) :
    FnOk P w K mg base CX k f fd ps sp := ⟨F.len, fun A outer s H args us vs Q E hr => F.run A outer s H args us vs Q E (hr.mono h)⟩
section
variable {X : Cx} {pins : List (Addr × Obj)} {σ : St} {H : Hp} {s s' : Shared}
/-- from a body: what a callee wants -/
theorem Inv.env0 (I : Inv X pins σ H s) : Env0 X.prog X.w X.K X.mg X.base X.A X.stack s H :=
  ⟨I.ok.frames, I.ok.mod, I.bs, Nat.le_trans I.ok.bsz I.sz, I.stack, I.stkFree, I.hok, I.bare⟩
/-- behind a call -/
theorem Inv.after {Q : VK} {u : Value} (I : Inv X pins σ H s) (h : CE X.stack X.prog X.w H s Q u s') : EP X pins σ Q u s' := by
  obtain ⟨v, H', os, bare, un, hok, r, q⟩ := h
  obtain ⟨hh, g, d, t, os'⟩ := s'
  obtain rfl : os' = s.os := os
  exact ⟨v, H', I.call (h' := hh) (g' := g) (d' := d) (t' := t) (ch := []) un hok bare (fun b z => absurd z (by simp)), r, q⟩
end

/-! ### calls -/
/-- f(..): the written arguments, then the defaults dvs; E: what is wanted of an exception -/
noncomputable def tCall (sp : Sp) (dvs : List V) (E : XK) (t : TA) : TE := fun σ H Q => t σ H fun vs H1 => sp (vs ++ dvs) H1 Q E
/-- o.m(..) of an instance of the class at C -/
noncomputable def tMeth (C : Addr) (m : Str) (sp : Sp) (dvs : List V) (E : XK) (ta : TE) (t : TA) : TE := fun σ H Q => ta σ H fun x H1 => ∃ a dx fs, x = .ref a ∧ H1 a = some (.ins C dx fs) ∧ fs.lookup m = none ∧
  t σ H1 fun vs H2 => sp (x :: (vs ++ dvs)) H2 Q E
/-- C(..): a new instance and its dict, then __init__ -/
noncomputable def tMake (C : Addr) (sp : Sp) (dvs : List V) (E : XK) (t : TA) : TE := fun σ H Q => t σ H fun vs H1 => ∀ x dx, H1 x = none → H1 dx = none → dx ≠ x →
  sp (.ref x :: (vs ++ dvs)) (upd (upd H1 dx (.own x)) x (.ins C dx [])) (fun v H2 => v = .non ∧ Q (.ref x) H2) E

/-- how the parameters are bound: us the positional arguments, kw the keywords' values by name, ds the defaults that fill up -/
noncomputable def Binds (K : PySem.W.Frag) (fd : FuncData) (ps : List Str) (ds : List Value) : Prop :=
  ∀ (s : Shared) (us : List Value), K.In s.heap → (us ++ ds).length = ps.length → BindsTo s fd ⟨us, []⟩ (ps.zip (us ++ ds))
/-- every parameter is given -/
theorem Binds.all {K : PySem.W.Frag} {fd : FuncData} {ps : List Str} (h : ∀ us : List Value, us.length = ps.length → bindArgs fd ⟨us, []⟩ = pure (ps.zip us)) : Binds K fd ps [] := fun s us _ hl => by
  rw [List.append_nil] at hl ⊢
  exact .of_eq (h us hl)

/-- an exception of a callee reaches what this body wants of exceptions -/
noncomputable def Passes (CX : CXT) (X : Cx) (E : XK) : Prop := ∀ (pins : List (Addr × Obj)) (σ : St) (H : Hp) (s : Shared) (e : Value) (s' : Shared), Inv X pins σ H s → CX X.stack H s E e s' → X.xe e s'

section
variable {X : Cx} {CX : CXT} {k : Nat} {f C : Addr} {fd : FuncData} {ps : List Str} {sp : Sp} {dvs : List V} {ds : List Value} {E : XK} {x m : Str} {p pos apos : Pos} {e o : Expr} {es : List Expr} {ta : TE} {t : TA}

/-- the callee runs -/
theorem run_fn {pins : List (Addr × Obj)} {σ : St} {H : Hp} {s : Shared} {Q : VK} {us : List Value} {vs : List V} (F : FnOk X.prog X.w X.K X.mg X.base CX k f fd ps sp) (hr : Room k X.A) (hb : Binds X.K fd ps ds) (hd : Vals dvs ds) (hx : Passes CX X E)
    (I : Inv X pins σ H s) (r : Vals vs us) (h : sp (vs ++ dvs) H Q E) : wpAny (model X.prog X.w) X.A (call (.ref f) us) (EP X pins σ Q) X.xe s := by
  have r2 : Vals (vs ++ dvs) (us ++ ds) := r.append hd
  have hl : (us ++ ds).length = ps.length := by rw [← r2.length]; exact F.len _ _ _ _ h
  refine wpAny_call (codeAny_mono (F.run X.A X.stack s H ⟨us, []⟩ (us ++ ds) (vs ++ dvs) Q E hr I.env0 (hb s us I.kIn hl) r2 h) fun r s' hq => ?_)
  cases r with
  | error e => exact hx pins σ H s e s' I hq
  | ok fl =>
    cases fl with
    | ret u => exact I.after hq
    | next => exact False.elim hq
    | brk => exact False.elim hq
    | cont => exact False.elim hq

theorem pe_call (F : FnOk X.prog X.w X.K X.mg X.base CX k f fd ps sp) (hr : Room k X.A) (hg : Gl X x) (hm : X.mg x = some (.ref f)) (hk : PySem.W.keepIn X.K (.ref f) = true) (hb : Binds X.K fd ps ds) (hd : Vals dvs ds) (hx : Passes CX X E)
    (ha : PA X (e :: es) t) (hdb : (x == ("__debug__" : Str)) = false := by decide) (he : starEach (e :: es) X.env = (false, eval e X.env) :: starEach es X.env := by rfl) (hpl : (backTo pos (starEach es X.env)).any (·.1) = false := by rfl) :
    PE X (.Call (.Name x p) (e :: es) [] pos) (tCall sp dvs E t) := by
  intro pins s σ H Q I h
  refine wpAny_Call_Name_kw (ld_glob I hg hm ?_ hdb)
  refine PySem.W.callWith_K (h₀ := X.base) I.ok.mod.kin hk (thn (ha pos pins s σ H _ I h) fun us s1 ⟨vs, H1, I1, r, q⟩ => ⟨I1.kIn, ?_⟩) he hpl
  exact run_fn F hr hb hd hx I1 r q
/-- what a class must have to be made -/
structure Mk (K : PySem.W.Frag) (C f : Addr) : Prop where
  makes : PySem.W.makesIn K C = true
  init : PySem.W.findIn K (.ref C) "__init__" = some (some (.ref f))
  fn : PySem.W.isFn K (.ref f) = true
  kp : PySem.W.keepIn K (.ref C) = true

end

/-! ### keywords -/
/-- the values of the keywords, from the left -/
noncomputable def PK (X : Cx) (kws : List Keyword) (t : TA) : Prop :=
  ∀ (pos : Pos) (pins : List (Addr × Obj)) (s : Shared) (σ : St) (H : Hp) (Q : List V → Hp → Prop), Inv X pins σ H s → t σ H Q → wpAny (model X.prog X.w) X.A (evalAll ((backToKw pos (keywordEach kws X.env)).map (·.2))) (AP X pins σ Q) X.xe s
section
variable {X : Cx} {CX : CXT} {k : Nat} {f C : Addr} {fd : FuncData} {ps ks : List Str} {sp : Sp} {E : XK} {x m : Str} {p pos apos kpos : Pos} {e o : Expr} {es : List Expr} {kws : List Keyword} {te ta : TE} {t tk : TA} {nm : Option Str}
/-- how a call with keywords binds: g puts the positional values us and the keywords' values ws (names ks) in the parameters' order, defaults among them -/
structure KBinds (K : PySem.W.Frag) (fd : FuncData) (ps ks : List Str) (g : List Value → List Value → List Value) (gV : List V → List V → List V) : Prop where
  to : ∀ (s : Shared) (us ws : List Value), K.In s.heap → (g us ws).length = ps.length → BindsTo s fd ⟨us, ks.zip ws⟩ (ps.zip (g us ws))
  rel : ∀ {vs : List V} {us : List Value} {zs : List V} {ws : List Value}, Vals vs us → Vals zs ws → Vals (gV vs zs) (g us ws)
noncomputable def tCallK (sp : Sp) (gV : List V → List V → List V) (E : XK) (t tk : TA) : TE := fun σ H Q => t σ H fun vs H1 => tk σ H1 fun zs H2 => sp (gV vs zs) H2 Q E
variable {g : List Value → List Value → List Value} {gV : List V → List V → List V}
end

/-! ### a def's body keeps its promise -/
/-- names: the parameters first -/
structure FnScope (N P : List Str) (sc : Scope) : Prop where
  kind : sc.kind = .function
  co : sc.isCoroutine = false
  gen : sc.isGenerator = false
  nd : N.Nodup
  pre : N.take P.length = P
  par : ∀ x ∈ P, sc.names.lookup x = some .local ∨ sc.names.lookup x = some .cell
  nofree : ∀ y ∈ sc.names, y.2 ≠ .free

theorem bindL_out {kindOf : Str → Option NameKind} {x : Str} : ∀ {binds : List (Str × Value)} {m : Str → Option Value}, (∀ v, (x, v) ∉ binds) → bindL kindOf binds m x = m x
  | [], _, _ => rfl
  | (n, v) :: r, m, h => by
    unfold bindL
    rw [bindL_out fun w hw => h w (List.mem_cons_of_mem _ hw)]
    split
    · have : x ≠ n := by rintro rfl; exact h v List.mem_cons_self
      simp [this]
    · rfl
theorem bindC_out {kindOf : Str → Option NameKind} {x : Str} : ∀ {binds : List (Str × Value)} {m : Str → Option Value}, (∀ v, (x, v) ∉ binds) → bindC kindOf binds m x = m x
  | [], _, _ => rfl
  | (n, v) :: r, m, h => by
    unfold bindC
    rw [bindC_out fun w hw => h w (List.mem_cons_of_mem _ hw)]
    split
    · rfl
    · have : x ≠ n := by rintro rfl; exact h v List.mem_cons_self
      simp [this]
theorem bindL_get {kindOf : Str → Option NameKind} {x : Str} {v : Value} : ∀ {P : List Str} {vs : List Value} {i : Nat} {m : Str → Option Value}, P.Nodup → P[i]? = some x → vs[i]? = some v → kindOf x = some .local →
    bindL kindOf (P.zip vs) m x = some v
  | [], _, _, _, _, h, _, _ => by simp at h
  | _ :: _, [], _, _, _, _, h, _ => by simp at h
  | p :: P, w :: vs, 0, m, nd, h1, h2, hk => by
    simp at h1 h2; subst h1; subst h2
    show bindL kindOf ((p, w) :: P.zip vs) m p = _
    unfold bindL
    rw [bindL_out fun v hv => (List.nodup_cons.mp nd).1 (List.of_mem_zip hv).1, if_pos hk]
    simp
  | p :: P, w :: vs, i + 1, m, nd, h1, h2, hk => by
    show bindL kindOf ((p, w) :: P.zip vs) m x = _
    unfold bindL
    exact bindL_get (i := i) (List.nodup_cons.mp nd).2 (by simpa using h1) (by simpa using h2) hk
theorem bindC_get {kindOf : Str → Option NameKind} {x : Str} {v : Value} : ∀ {P : List Str} {vs : List Value} {i : Nat} {m : Str → Option Value}, P.Nodup → P[i]? = some x → vs[i]? = some v → kindOf x ≠ some .local →
    bindC kindOf (P.zip vs) m x = some v
  | [], _, _, _, _, h, _, _ => by simp at h
  | _ :: _, [], _, _, _, _, h, _ => by simp at h
  | p :: P, w :: vs, 0, m, nd, h1, h2, hk => by
    simp at h1 h2; subst h1; subst h2
    show bindC kindOf ((p, w) :: P.zip vs) m p = _
    unfold bindC
    rw [bindC_out fun v hv => (List.nodup_cons.mp nd).1 (List.of_mem_zip hv).1, if_neg hk]
    simp
  | p :: P, w :: vs, i + 1, m, nd, h1, h2, hk => by
    show bindC kindOf ((p, w) :: P.zip vs) m x = _
    unfold bindC
    exact bindC_get (i := i) (List.nodup_cons.mp nd).2 (by simpa using h1) (by simpa using h2) hk

/-- the names' values at the entry -/
noncomputable def start (N : List Str) (vs : List V) : St := vs.map some ++ List.replicate (N.length - vs.length) none

/-- the context of a def's body, at its entry; an exception leaves the frame, then lies as CX says -/
noncomputable def cxOf (CX : CXT) (P : Program) (w : World) (K : PySem.W.Frag) (mg : Str → Option Value) (base : Heap) (N : List Str) (qual : Str) (scope : Scope) (f : Addr) (cd : Value) (A : Around) (outer : List Env) (s : Shared) (H : Hp) (E : XK) : Cx where
  prog := P
  w := w
  K := K
  mg := mg
  base := base
  A := A.deeper (envOfC qual scope s.heap.objs.size f cd)
  N := N
  s₀ := s
  H₀ := H
  env := envOfC qual scope s.heap.objs.size f cd
  outer := outer
  stack := envOfC qual scope s.heap.objs.size f cd :: outer
  ex := []
  calm := true
  fn := fun _ => true
  pn := []
  xe := fun e s' => wpAny (model P w) (A.deeper (envOfC qual scope s.heap.objs.size f cd)) (leaving (envOfC qual scope s.heap.objs.size f cd) e) (fun _ s'' => CX outer H s E e s'') (fun e' s'' => CX outer H s E e' s'') s'

theorem cell_has {sc : Scope} {n : Nat} {x : Str} (h : sc.names.lookup x = some .cell) : ∃ c, (cellsFrom n sc.names []).lookup x = some c := by
  have q := PySem.W.cellsFrom_some sc.names n [] (.inl h)
  exact Option.isSome_iff_exists.mp q

theorem inv_start {CX : CXT} {P : Program} {w : World} {K : PySem.W.Frag} {mg : Str → Option Value} {base : Heap} {N ps : List Str} {qual : Str} {scope : Scope} {f : Addr} {cd : Value} {A : Around} {outer : List Env} {s s1 : Shared} {H : Hp} {E : XK} {us : List Value} {vs : List V}
    (S : FnScope N ps scope) (hd : A.handled = none) (e0 : Env0 P w K mg base A outer s H) (hl : vs.length = ps.length) (r : Vals vs us)
    (x : InCallC s s.heap.objs.size (bindL (envOfC qual scope s.heap.objs.size f cd).kindOf (ps.zip us) fun _ => none) (cellsFrom (s.heap.objs.size + 1) scope.names []) (bindC (envOfC qual scope s.heap.objs.size f cd).kindOf (ps.zip us) fun _ => none) s1) :
    Inv (cxOf CX P w K mg base N qual scope f cd A outer s H E) [] (start N vs) H s1 := by
  have hpl : ps.length ≤ N.length := by have := congrArg List.length S.pre; rw [List.length_take] at this; omega
  obtain ⟨h1, tk, rfl, hk⟩ := x.done
  have noA : ∀ b : Addr, b ∉ (cxOf CX P w K mg base N qual scope f cd A outer s H E).ex := fun b z => absurd (show b ∈ ([] : List Addr) from z) (by simp)
  refine ⟨⟨e0.mod, S.kind, rfl, rfl, Nat.le_refl _, fun y z c h1 h2 => ?_, fun y hy => ?_, fun y c _ h => ?_, fun _ => hd, Around.frames_deeper e0.frames, .inr ⟨rfl, rfl⟩, fun b z => absurd z (noA b), e0.bs, e0.bsz, fun b _ _ => noA b, fun b z => absurd z (noA b), e0.funs, e0.frf⟩,
    rfl, e0.bare, Un.kept hk, ⟨_, x.toInCall.ns, fun i y v h1 h2 h3 => ?_⟩, fun y c h => ⟨_, x.cell y c h⟩, e0.hok.fresh (Nat.le_refl _), fun y c h => ?_, fun p hp => absurd (show p ∈ ([] : List (Addr × Obj)) from hp) (by simp), e0.hok.kept hk, ?_⟩
  · exact name_of_addr x.apart (PySem.mem_of_lookup h1) (PySem.mem_of_lookup h2)
  · have hy : scope.names.lookup y = some .cell ∨ scope.names.lookup y = some .free := hy
    rcases hy with hy | hy
    · exact cell_has hy
    · exact absurd rfl (S.nofree _ (PySem.mem_of_lookup hy))
  · exact Nat.le_of_lt (x.above y c (PySem.mem_of_lookup h))
  · have hi : i < vs.length := by
      unfold start at h2
      by_cases hi : i < vs.length
      · exact hi
      · rw [List.getElem?_append_right (by simpa using hi)] at h2
        rw [List.getElem?_replicate] at h2
        split at h2 <;> cases h2
    have ha : vs[i]? = some v := by
      unfold start at h2
      rw [List.getElem?_append_left (by simpa using hi), List.getElem?_map] at h2
      cases e : vs[i]? with
      | none => rw [e] at h2; cases h2
      | some a => rw [e] at h2; cases h2; rfl
    obtain ⟨u, hu, rv⟩ := r.get ha
    have hp : ps[i]? = some y := by
      rw [← S.pre, List.getElem?_take_of_lt (by omega)]; exact h1
    have ndP : ps.Nodup := by rw [← S.pre]; exact S.nd.sublist (List.take_sublist _ _)
    refine ⟨u, rv, ?_⟩
    rcases S.par y (List.mem_of_getElem? hp) with k | k
    · exact .inl ⟨k, bindL_get ndP hp hu k⟩
    · obtain ⟨c, e⟩ := cell_has (n := s.heap.objs.size + 1) k
      refine .inr ⟨.inl k, c, e, ?_⟩
      have q := x.cell y c e
      rw [bindC_get ndP hp hu (by show scope.names.lookup y ≠ _; rw [k]; decide)] at q
      exact q
  · exact e0.hok.fresh (Nat.le_of_lt (x.above y c (PySem.mem_of_lookup h)))
  · unfold start
    show _ = N.length
    rw [List.length_append, List.length_map, List.length_replicate]
    omega

/-- THE RULE: a def (or a method) of the text, by its body. The body's reading t is chosen for each entry; it is run at the parameters' values -/
theorem fn_of {CX : CXT} {P : Program} {w : World} {K : PySem.W.Frag} {mg : Str → Option Value} {base : Heap} {k : Nat} {f : Addr} {name qual : Str} {params : Arguments} {body : List Stmt} {scope : Scope} {dV kV doc pm cdv ct oc : Value} {an od : Option Addr}
    {osl : Array (Option Value)} {N ps : List Str} {sp : Sp} (lk : K.lookup f = some ⟨oc, od, .func (PySem.W.fnOf name qual params body scope dV kV doc pm an cdv ct), osl⟩) (hcd : PySem.W.codeIn K cdv qual = true) (S : FnScope N ps scope)
    (len : ∀ vs H Q E, sp vs H Q E → vs.length = ps.length)
    (hbody : ∀ (A : Around) (outer : List Env) (s : Shared) (H : Hp) (vs : List V) (Q : VK) (E : XK), Room k (A.deeper (envOfC qual scope s.heap.objs.size f cdv)) → sp vs H Q E →
      ∃ t, PSs (cxOf CX P w K mg base N qual scope f cdv A outer s H E) body t ∧ t { nx := fun _ H' => Q .non H', rt := Q } (start N vs) H) :
    FnOk P w K mg base CX (k + 1) f (PySem.W.fnOf name qual params body scope dV kV doc pm an cdv ct) ps sp := by
  refine ⟨len, fun A outer s H args us vs Q E hr e0 hb r hsp => ?_⟩
  have hl := len _ _ _ _ hsp
  have KX : K.In s.heap := e0.mod.kin.keeps fun b o e => (e0.bs b o e).1
  have lim : s.heap.NoLimit := e0.mod.nolimit.keeps fun b o e => (e0.bs b o e).1
  have hkind : ∀ y ∈ ps.zip us, scope.names.lookup y.1 = some .local ∨ (scope.names.lookup y.1 = some .cell ∧ ((cellsFrom (s.heap.objs.size + 1) scope.names []).lookup y.1).isSome = true) := fun ⟨n, v⟩ hy => by
    rcases S.par n (List.of_mem_zip hy).1 with q | q
    · exact .inl q
    · exact .inr ⟨q, PySem.W.cellsFrom_some _ _ _ (.inl q)⟩
  refine codeAny_call_function hr.depth (KX _ _ lk) rfl S.co S.gen rfl (PySem.W.codeRec_of KX hcd) (hb _ _ _ _ ?_)
  refine wpAny_newFunctionEnv_cells S.kind hkind fun env he s1 x => ?_
  subst he
  refine ⟨lim.keeps x.toInCall.keep, codeAny_func ?_⟩
  obtain ⟨t, ht, hq⟩ := hbody A outer s H vs Q E (hr.deeper _) hsp
  have I : Inv (cxOf CX P w K mg base N qual scope f cdv A outer s H E) [] (start N vs) H s1 := inv_start S hr.hd e0 hl r x
  refine wpAny_mono (ht [] s1 (start N vs) H _ I hq) (fun fl s' hs => ?_) fun e s' hs => hs
  have fin : ∀ {σ' : St} {H' : Hp} {v : V} {u : Value}, Inv (cxOf CX P w K mg base N qual scope f cdv A outer s H E) [] σ' H' s' → RelV v u → Q v H' → CE outer P w H s Q u s' :=
    fun {σ' H' v u} J rv q => ⟨v, H', J.os, J.bare, J.base, J.hok, rv, q⟩
  cases fl with
  | ret u =>
    obtain ⟨v, σ', H', J, rv, q⟩ := hs
    exact fin J rv q
  | next =>
    obtain ⟨σ', H', J, q⟩ := hs
    exact fin (v := V.non) (u := Value.none) J rfl q
  | brk =>
    obtain ⟨_, _, _, q⟩ := hs
    exact False.elim q
  | cont =>
    obtain ⟨_, _, _, q⟩ := hs
    exact False.elim q
end L2

namespace L2
open PySem PySem.Spec PyProof.Rows
section
variable {X : Cx} {x : Str} {p pos : Pos} {e : Expr} {es : List Expr} {t : TA} {id T : String} {r : List V → Hp → VK → Prop}

noncomputable def tCB (r : List V → Hp → VK → Prop) (t : TA) : TE := fun σ H Q => t σ H fun vs H1 => r vs H1 Q
/-- f(e, ..), f a built-in function -/
theorem pe_callB (hc : CallR X (.builtin id) r) (hg : Gl X x) (hm : X.mg x = none) (hv : bootBuiltins x = some (.builtin id)) (ha : PA X (e :: es) t) (hn : x ≠ "__name__" := by decide) (hdb : (x == ("__debug__" : Str)) = false := by decide)
    (he : starEach (e :: es) X.env = (false, eval e X.env) :: starEach es X.env := by rfl) (hpl : (backTo pos (starEach es X.env)).any (·.1) = false := by rfl) : PE X (.Call (.Name x p) (e :: es) [] pos) (tCB r t) := by
  intro pins s σ H Q I h
  refine wpAny_Call_Name_kw (ld_blt I hg hm hv ?_ hn hdb)
  exact PyProof.Rows.callWith_builtin1 (thn (ha pos pins s σ H _ I h) fun us s1 ⟨vs, H1, I1, r1, q1⟩ => hc pins s1 σ H1 vs us Q I1 r1 q1) he hpl
/-- T(e, ..), T a built-in type -/
theorem pe_callTy (hc : CallR X (.type T) r) (hg : Gl X x) (hm : X.mg x = none) (hv : bootBuiltins x = some (.type T)) (ha : PA X (e :: es) t) (hn : x ≠ "__name__" := by decide) (hdb : (x == ("__debug__" : Str)) = false := by decide)
    (he : starEach (e :: es) X.env = (false, eval e X.env) :: starEach es X.env := by rfl) (hpl : (backTo pos (starEach es X.env)).any (·.1) = false := by rfl) : PE X (.Call (.Name x p) (e :: es) [] pos) (tCB r t) := by
  intro pins s σ H Q I h
  refine wpAny_Call_Name_kw (ld_blt I hg hm hv ?_ hn hdb)
  exact PyProof.Rows.callWith_type1 (thn (ha pos pins s σ H _ I h) fun us s1 ⟨vs, H1, I1, r1, q1⟩ => hc pins s1 σ H1 vs us Q I1 r1 q1) he hpl
end
end L2

namespace HT
open PySem PyProof.Rows

/-- t < u of tuples of ints -/
noncomputable def lexLt : List Int → List Int → Bool
  | [], [] => false
  | [], _ :: _ => true
  | _ :: _, [] => false
  | x :: xs, y :: ys => if x = y then lexLt xs ys else decide (x < y)
section
open PySem.SeqAt
open PySem.AutoSeq1 (wpAny_loadPart')
open PySem.MeetsSeq PySem.MeetsSeq2 PySem.MeetsSeq3

end

section
variable {prog : Program} {w : World} {A : Around} {E : Value → Shared → Prop} {s : Shared}

/-! ### t[a:b], not the whole -/
/-- a slice's bound as a place among n (d where it is left out) -/
noncomputable def sIx (n d : Nat) : Option Int → Nat
  | none => d
  | some v => if v < 0 then (v + (n : Int)).toNat else min v.toNat n
theorem sIx_none (n d : Nat) : sIx n d none = d := rfl
end
end HT

namespace L2
open PySem PySem.Spec PyProof.Rows

/-! ### the parts of a slice -/
noncomputable abbrev TO := St → Hp → (Option Int → Hp → Prop) → Prop
/-- a slice's part (left out, or an int) -/
noncomputable def PO (X : Cx) (e : Option Expr) (t : TO) : Prop :=
  ∀ (pins : List (Addr × Obj)) (s : Shared) (σ : St) (H : Hp) (Q : Option Int → Hp → Prop), Inv X pins σ H s → t σ H Q →
    wpAny (model X.prog X.w) X.A (evalPart e X.env) (fun u s' => ∃ o H', Inv X pins σ H' s' ∧ IsPart u o ∧ Q o H') X.xe s
noncomputable def tNoPart : TO := fun _ H Q => Q none H
noncomputable def tPart (t : TE) : TO := fun σ H Q => t σ H fun x H1 => ∃ i, x = .int i ∧ Q (some i) H1

section
variable {X : Cx} {e : Expr} {te : TE} {lo hi : Option Expr} {tl th : TO} {pos p2 : Pos}

theorem po_none : PO X none tNoPart := by
  intro pins s σ H Q I h
  rw [evalPart_none]
  exact wpAny_pure ⟨none, H, I, .none, h⟩
theorem po_some (h : PE X e te) : PO X (some e) (tPart te) := by
  intro pins s σ H Q I hw
  rw [evalPart_some]
  refine thn (h pins s σ H _ I hw) fun u s1 ⟨x, H1, I1, r1, q1⟩ => ?_
  obtain ⟨i, rfl, q⟩ := q1
  obtain ⟨t, rfl⟩ := r1
  exact ⟨some i, H1, I1, .int i t, q⟩

/-- what a slice of a value is, by values: the slice object stands at sl -/
noncomputable def SlR (X : Cx) (r : V → Option Int → Option Int → Hp → VK → Prop) : Prop :=
  ∀ (pins : List (Addr × Obj)) (s : Shared) (σ : St) (H : Hp) (x : V) (v vl vu : Value) (lo hi : Option Int) (sl : Addr) (Q : VK), Inv X pins σ H s → RelV x v → s.heap.IsSliceOf sl vl vu .none → IsPart vl lo → IsPart vu hi → r x lo hi H Q →
    ∃ T id, typeLookup (.type T) "__getitem__" = pure (some (.builtin id)) ∧ s.TypeIs v T ∧ wpAny (model X.prog X.w) X.A (getItem v (.ref sl)) (EP X pins σ Q) X.xe s
noncomputable def tSl (r : V → Option Int → Option Int → Hp → VK → Prop) (te : TE) (tl th : TO) : TE := fun σ H Q => te σ H fun x H1 => tl σ H1 fun l H2 => th σ H2 fun u H3 => r x l u H3 Q
/-- a[lo:hi], any a -/
theorem pe_slice {r : V → Option Int → Option Int → Hp → VK → Prop} (hr : SlR X r) (he : PE X e te) (hl : PO X lo tl) (hu : PO X hi th) : PE X (.Subscript e (.Slice lo hi none p2) pos) (tSl r te tl th) := by
  intro pins s σ H Q I h
  refine Subscript_ (thn (he pins s σ H _ I h) fun v s1 ⟨x, H1, I1, r1, q1⟩ => ?_)
  refine wpAny_Slice (thn (hl pins s1 σ H1 _ I1 q1) fun vl s2 ⟨l, H2, I2, pl, q2⟩ => thn (hu pins s2 σ H2 _ I2 q2) fun vu s3 ⟨u, H3, I3, pu, q3⟩ => ?_)
  rw [evalPart_none]
  refine wpAny_pure ?_
  have I4 : Inv X pins σ H3 { s3 with heap := s3.heap.push { cls := .type "slice", data := .fields #[vl, vu, .none] } } := I3.kept (t' := s3.toks) fun b ob q => Heap.get?_push_of_some _ q
  obtain ⟨T, id, hT, ht, hg⟩ := hr pins { s3 with heap := s3.heap.push { cls := .type "slice", data := .fields #[vl, vu, .none] } } σ H3 x v vl vu l u s3.heap.objs.size Q I4 r1 (Heap.IsSliceOf.new ..) pl pu q3
  show wpAny (model X.prog X.w) X.A (subscriptTail e (.Slice lo hi none p2) v (.ref s3.heap.objs.size)) (EP X pins σ Q) X.xe { s3 with heap := s3.heap.push { cls := .type "slice", data := .fields #[vl, vu, .none] } }
  exact tail_any (ops := [.ref s3.heap.objs.size, v]) ht hT hg (by with_unfolding_all rfl)

/-- the items of xs[lo:hi] -/
noncomputable def cutV (xs : List V) (lo hi : Option Int) : List V := (xs.drop (HT.sIx xs.length 0 lo)).take (HT.sIx xs.length xs.length hi - HT.sIx xs.length 0 lo)
theorem cutV_length (xs : List V) (lo hi : Option Int) : (cutV xs lo hi).length ≤ xs.length := by
  unfold cutV
  rw [List.length_take, List.length_drop]
  omega
/-- t[lo:hi], not the whole of it (the whole would be t itself) -/
noncomputable def rSlT (K : PySem.W.Frag) : V → Option Int → Option Int → Hp → VK → Prop := fun x lo hi H Q => ∃ a xs, x = .ref a ∧ SqT K H a xs ∧
  ¬ (HT.sIx xs.length 0 lo = 0 ∧ HT.sIx xs.length xs.length hi = xs.length) ∧ ∀ p, H p = none → Q (.ref p) (upd H p (.tup (cutV xs lo hi)))
/-! ### t < u, t + u -/
noncomputable def rLtT (K : PySem.W.Frag) : R2 := fun x y H Q => ∃ a b ns ms, x = .ref a ∧ y = .ref b ∧ SqT K H a (ns.map V.int) ∧ SqT K H b (ms.map V.int) ∧ Q (.bl (HT.lexLt ns ms)) H
/-- t + u, t not empty: u empty gives t itself -/
noncomputable def rCatT (K : PySem.W.Frag) : R2 := fun x y H Q => ∃ a b xs ys, x = .ref a ∧ y = .ref b ∧ SqT K H a xs ∧ SqT K H b ys ∧ xs ≠ [] ∧ xs.length + ys.length ≤ sizeLine ∧
  (ys = [] → Q (.ref a) H) ∧ (ys ≠ [] → ∀ p, H p = none → Q (.ref p) (upd H p (.tup (xs ++ ys))))
end
end L2

namespace L2
open PySem PySem.Spec PyProof.Rows

/-! ### places -/
/-- the place that an index of any sign means -/
noncomputable def ixN (n : Nat) (i : Int) : Option Nat := if 0 ≤ i then (if i < n then some i.toNat else none) else if -(n : Int) ≤ i then some (i + n).toNat else none
noncomputable def atI {α : Type} (xs : List α) (i : Int) : Option α := (ixN xs.length i).bind fun j => xs[j]?
theorem ixN_seq {n : Nat} {i : Int} {j : Nat} (h : ixN n i = some j) : seqIndex? i n = some j ∧ j < n ∧ -(n : Int) ≤ i ∧ i < n := by
  unfold ixN at h
  by_cases h0 : 0 ≤ i
  · rw [if_pos h0] at h
    by_cases h1 : i < n
    · rw [if_pos h1] at h
      have e : i.toNat = j := Option.some.inj h
      exact ⟨by rw [seqIndex_of h0 h1, e], by omega, by omega, h1⟩
    · rw [if_neg h1] at h; cases h
  · rw [if_neg h0] at h
    by_cases h1 : -(n : Int) ≤ i
    · rw [if_pos h1] at h
      have e : (i + n).toNat = j := Option.some.inj h
      exact ⟨by rw [seqIndex_neg (by omega) h1, e], by omega, h1, by omega⟩
    · rw [if_neg h1] at h; cases h
theorem atI_get {α : Type} {xs : List α} {i : Int} {v : α} (h : atI xs i = some v) : ∃ j, seqIndex? i xs.length = some j ∧ xs[j]? = some v ∧ j < xs.length ∧ -(xs.length : Int) ≤ i ∧ i < xs.length := by
  unfold atI at h
  cases e : ixN xs.length i with
  | none => rw [e] at h; cases h
  | some j =>
    rw [e] at h
    obtain ⟨h1, h2, h3, h4⟩ := ixN_seq e
    exact ⟨j, h1, h, h2, h3, h4⟩
theorem atI_nat {α : Type} {xs : List α} {j : Nat} {v : α} (h : xs[j]? = some v) : atI xs (j : Int) = some v := by
  have hj : j < xs.length := (List.getElem?_eq_some_iff.mp h).1
  have e : ixN xs.length (j : Int) = some j := by
    unfold ixN
    rw [if_pos (by omega), if_pos (by omega)]; simp
  unfold atI; rw [e]; exact h
/-! ### what may be subscripted -/
/-- what stands as an index of a plain subscript -/
noncomputable def PlainIx (b : Expr) : Prop := ∀ o i, subscripted b false o i = operate [o, i] (getItem o i)
/-- a subscript by values -/
noncomputable def IxR (X : Cx) (r : R2) : Prop :=
  ∀ (value slice : Expr) (pins : List (Addr × Obj)) (s : Shared) (σ : St) (H : Hp) (x y : V) (v u : Value) (Q : VK), Inv X pins σ H s → RelV x v → RelV y u → r x y H Q →
    subscripted slice false v u = operate [v, u] (getItem v u) → wpAny (model X.prog X.w) X.A (subscriptTail value slice v u) (EP X pins σ Q) X.xe s
/-- a call of a builtin's method by values: the receiver, the arguments -/
noncomputable def MtR (X : Cx) (id : String) (r : V → List V → Hp → VK → Prop) : Prop :=
  ∀ (pins : List (Addr × Obj)) (s : Shared) (σ : St) (H : Hp) (x : V) (xs : List V) (v : Value) (us : List Value) (Q : VK), Inv X pins σ H s → RelV x v → Vals xs us → r x xs H Q →
    wpAny (model X.prog X.w) X.A (call (.builtin id) (v :: us)) (EP X pins σ Q) X.xe s
section
variable {X : Cx} {a b : Expr} {ta tb : TE} {pos : Pos}
/-- a[b] -/
theorem pe_ix {r : R2} (hr : IxR X r) (ha : PE X a ta) (hb : PE X b tb) (hs : PlainIx b) : PE X (.Subscript a b pos) (tOp r ta tb) := by
  intro pins s σ H Q I h
  exact Subscript_ (binT ha hb I h fun v u s2 x y H2 I2 rx ry q => hr a b pins s2 σ H2 x y v u Q I2 rx ry q (hs _ _))

noncomputable def rIxL (K : PySem.W.Frag) : R2 := fun x y H Q => ∃ p xs i v, x = .ref p ∧ y = .int i ∧ SqL K H p xs ∧ atI xs i = some v ∧ Q v H
noncomputable def rIxT (K : PySem.W.Frag) : R2 := fun x y H Q => ∃ p xs i v, x = .ref p ∧ y = .int i ∧ SqT K H p xs ∧ atI xs i = some v ∧ Q v H
noncomputable def rIxS : R2 := fun x y H Q => ∃ z i c, x = .str z ∧ y = .int i ∧ z.length ≤ sizeLine ∧ atI z.cps.toList i = some c ∧ Q (.str ⟨#[c]⟩) H
theorem ix_list : IxR X (rIxL X.K) := by
  intro value slice pins s σ H x y v u Q I rx ry h hs
  obtain ⟨p, xs, i, z, rfl, rfl, hq, he, q⟩ := h
  cases rx
  obtain ⟨t, rfl⟩ := ry
  obtain ⟨its, r, pl, hz⟩ := I.list hq
  obtain ⟨j, h1, h2, h3, h4, h5⟩ := atI_get he
  obtain ⟨w, ew, rw'⟩ := r.get h2
  have hl := r.length
  have hn := line63
  have fin : EP X pins σ Q w s := ⟨z, H, I, rw', q⟩
  by_cases h0 : 0 ≤ i
  · have hj : i.toNat = j := by
      rw [seqIndex_of h0 h5] at h1
      exact Option.some.inj h1
    exact item_listR pl.isList h0 (by omega) (by rw [hj]; simpa using ew) fin hs
  · have hj : (i + (its.toArray.size : Int)).toNat = j := by
      rw [seqIndex_neg (by omega) h4] at h1
      rw [List.size_toArray, ← hl]
      exact Option.some.inj h1
    exact subscriptTail_builtinR (x := w) pl.isList.typeIs slot_list_getitem.lookup
      (wpAny_getItem_list_neg (Q := fun r s' => r = w ∧ EP X pins σ Q r s') pl.isList (by omega) (by rw [List.size_toArray] <;> omega) (by omega) (by rw [hj]; simpa using ew) ⟨rfl, fin⟩) hs
theorem ix_tup : IxR X (rIxT X.K) := by
  intro value slice pins s σ H x y v u Q I rx ry h hs
  obtain ⟨p, xs, i, z, rfl, rfl, hq, he, q⟩ := h
  cases rx
  obtain ⟨t, rfl⟩ := ry
  obtain ⟨its, r, pl, hz⟩ := I.tuple hq
  obtain ⟨j, h1, h2, h3, h4, h5⟩ := atI_get he
  obtain ⟨w, ew, rw'⟩ := r.get h2
  have hl := r.length
  have hn := line63
  have fin : EP X pins σ Q w s := ⟨z, H, I, rw', q⟩
  exact subscriptTail_builtinR (x := w) pl.typeIs slot_tuple_getitem.lookup
    (getItem_tuple (j := j) (Q := fun r s' => r = w ∧ EP X pins σ Q r s') pl (by omega) (by omega) (by rw [List.size_toArray, ← hl]; exact h1) (by simpa using ew) ⟨rfl, fin⟩) hs
/-- list, tuple or str -/
noncomputable def rIx (K : PySem.W.Frag) : R2 := fun x y H Q => rIxL K x y H Q ∨ rIxT K x y H Q ∨ rIxS x y H Q
/-! ### xs[i] = v, any sign -/
/-- the list's object behind a store -/
theorem mapSeq_set (its : List Value) (n j : Nat) (u : Value) : Obj.mapSeq (·.setIfInBounds j u) { cls := .type "list", data := .seq its.toArray n } = { cls := .type "list", data := .seq (its.set j u).toArray n } := by
  simp [Obj.mapSeq]
theorem Inv.lst {pins : List (Addr × Obj)} {σ : St} {H : Hp} {s : Shared} {p : Addr} {xs : List V} (I : Inv X pins σ H s) (h : H p = some (.lst xs)) :
    ∃ (its : List Value) (n : Nat), Vals xs its ∧ s.heap.get? p = some { cls := .type "list", data := .seq its.toArray n } ∧ xs.length ≤ sizeLine := by
  obtain ⟨z, its, n, r, e⟩ := I.hok p _ h
  exact ⟨its, n, r, e, z⟩
/-- the list at p is written by an update of its object -/
theorem Inv.lstUpd {pins : List (Addr × Obj)} {σ : St} {H : Hp} {s : Shared} {p : Addr} {xs ys : List V} {its its' : List Value} {n n' : Nat} {f : Obj → Obj} (I : Inv X pins σ H s) (h : H p = some (.lst xs))
    (ho : s.heap.get? p = some { cls := .type "list", data := .seq its.toArray n }) (hf : f { cls := .type "list", data := .seq its.toArray n } = { cls := .type "list", data := .seq its'.toArray n' }) (r : Vals ys its') (hz : ys.length ≤ sizeLine) (t : Nat) :
    Inv X pins σ (upd H p (.lst ys)) { s with heap := s.heap.update p f, toks := t } := by
  have e : (s.heap.update p f).get? p = some { cls := .type "list", data := .seq its'.toArray n' } := by
    rw [Heap.get?_update_self f ho (by rw [hf] <;> rfl), hf]
  refine I.write (x := p) (e := p) (by rw [h]; trivial) (.inl rfl) (fun b u hb q => (Heap.get?_update_other _ _ (Ne.symm hb)).trans q) ⟨_, e⟩ ?_
  exact ⟨hz, its', n', r, e⟩
noncomputable def rSetL : V → V → V → Hp → (Hp → Prop) → Prop := fun o i v H Q => ∃ p xs k j, o = .ref p ∧ i = .int k ∧ H p = some (.lst xs) ∧ ixN xs.length k = some j ∧ Q (upd H p (.lst (xs.set j v)))
theorem set_list : PSet X rSetL := by
  intro pins s σ H o i v ov iv u Q I ro ri rv h
  obtain ⟨p, xs, k, j, rfl, rfl, hp, hj, q⟩ := h
  cases ro
  obtain ⟨t, rfl⟩ := ri
  obtain ⟨its, n, r, ho, hz⟩ := I.lst hp
  obtain ⟨h1, h2, h3, h4⟩ := ixN_seq hj
  have hl := r.length
  have hn := line63
  have I' : Inv X pins σ (upd H p (.lst (xs.set j v))) { s with heap := s.heap.update p (Obj.mapSeq (·.setIfInBounds j u)) } :=
    I.lstUpd hp ho (mapSeq_set its n j u) (r.set rv j) (by rw [List.length_set]; exact hz) s.toks
  by_cases h0 : 0 ≤ k
  · have hk : k.toNat = j := by
      rw [seqIndex_of h0 h4] at h1
      exact Option.some.inj h1
    exact PySem.W.ki_setAt ho h0 (by omega) (by rw [List.size_toArray, ← hl]; exact h4) (by rw [hk]; exact ⟨_, I', q⟩)
  · have hk : (k + (its.toArray.size : Int)).toNat = j := by
      rw [seqIndex_neg (by omega) h3] at h1
      rw [List.size_toArray, ← hl]
      exact Option.some.inj h1
    exact PySem.W.ki_setBack ho (by omega) (by rw [List.size_toArray, ← hl]; exact h3) (by omega) (by rw [hk]; exact ⟨_, I', q⟩)

/-! ### slices -/
theorem slice_bounds (lo hi : Option Int) (n : Nat) : (sliceBounds lo hi none n).1 = ((HT.sIx n 0 lo : Nat) : Int) ∧ (sliceBounds lo hi none n).2.1 = ((HT.sIx n n hi : Nat) : Int) ∧ (sliceBounds lo hi none n).2.2 = 1 := by
  refine ⟨?_, ?_, rfl⟩
  · cases lo with
    | none => simp [sliceBounds, HT.sIx]
    | some i =>
      simp only [sliceBounds, HT.sIx, Option.getD_none, show (1 : Int) > 0 by decide, if_true]
      by_cases h : i < 0
      · simp only [h, if_true] <;> omega
      · simp only [h, if_false] <;> omega
  · cases hi with
    | none => simp [sliceBounds, HT.sIx]
    | some i =>
      simp only [sliceBounds, HT.sIx, Option.getD_none, show (1 : Int) > 0 by decide, if_true]
      by_cases h : i < 0
      · simp only [h, if_true] <;> omega
      · simp only [h, if_false] <;> omega
theorem slicePick_cut (its : List Value) (lo hi : Option Int) : slicePick its.toArray lo hi none = ((its.drop (HT.sIx its.length 0 lo)).take (HT.sIx its.length its.length hi - HT.sIx its.length 0 lo)).toArray := by
  obtain ⟨h1, h2, h3⟩ := slice_bounds lo hi its.toArray.size
  unfold slicePick
  rw [h1, h2, h3]
  simp only [sliceRange_one, pick_run, List.size_toArray] <;> rfl
/-- xs[lo:hi] of a list: a new list -/
noncomputable def rSlL (K : PySem.W.Frag) : V → Option Int → Option Int → Hp → VK → Prop := fun x lo hi H Q => ∃ a xs, x = .ref a ∧ SqL K H a xs ∧ ∀ p, H p = none → Q (.ref p) (upd H p (.lst (cutV xs lo hi)))
theorem sl_list : SlR X (rSlL X.K) := by
  intro pins s σ H x v vl vu lo hi sl Q I rx hs pl pu h
  obtain ⟨a, xs, rfl, hx, q⟩ := h
  cases rx
  obtain ⟨its, r, ht, hz⟩ := I.list hx
  have hlen := r.length
  refine ⟨"list", _, slot_list_getitem.lookup, ht.isList.typeIs, ?_⟩
  refine wpAny_getItem_list_slice ht.isList hs pl pu .none (by simp) ?_ (by rw [List.size_toArray] <;> omega)
  rw [slicePick_cut, ← hlen]
  refine ⟨.ref s.heap.objs.size, _, I.laid (t' := s.toks) (o := .lst (cutV xs lo hi)) (fun b ob q => Heap.get?_push_of_some _ q) (Nat.le_refl _) ?_, rfl, q _ (I.hok.fresh (Nat.le_refl _))⟩
  exact ⟨Nat.le_trans (cutV_length xs lo hi) hz, _, 0, (r.drop (HT.sIx xs.length 0 lo)).take (HT.sIx xs.length xs.length hi - HT.sIx xs.length 0 lo), Heap.get?_push_size _ rfl⟩

/-! ### in, not in: flat items -/
noncomputable def flatV : V → Bool
  | .non => true
  | .bl _ => true
  | .int _ => true
  | .str _ => true
  | _ => false
/-- == of flat values -/
noncomputable def eqV : V → V → Bool
  | .non, .non => true
  | .bl a, .bl b => a == b
  | .bl a, .int b => (if a then 1 else 0) == b
  | .int a, .bl b => a == (if b then 1 else 0)
  | .int a, .int b => a == b
  | .str a, .str b => a == b
  | _, _ => false
theorem eqAt_V {A : Around} {s : Shared} {y x : V} {u v : Value} (ry : RelV y u) (rx : RelV x v) (fy : flatV y = true) (fx : flatV x = true) : SeqAt.EqAt A s u v (eqV y x) := by
  cases y with
  | non =>
    cases ry
    cases x with
    | non => cases rx; exact SeqAt.EqAt.same _
    | bl b => cases rx; exact SeqAt.EqAt.none_bool b
    | int b => obtain ⟨t, rfl⟩ := rx; exact SeqAt.EqAt.none_int b t
    | str b => obtain ⟨t, rfl⟩ := rx; exact SeqAt.EqAt.none_str b t
    | _ => exact absurd (show false = true from fx) Bool.false_ne_true
  | bl a =>
    cases ry
    cases x with
    | non => cases rx; exact SeqAt.EqAt.bool_none a
    | bl b => cases rx; exact SeqAt.EqAt.bool_bool a b
    | int b => obtain ⟨t, rfl⟩ := rx; exact SeqAt.EqAt.bool_int a b t
    | str b => obtain ⟨t, rfl⟩ := rx; exact SeqAt.EqAt.bool_str a b t
    | _ => exact absurd (show false = true from fx) Bool.false_ne_true
  | int a =>
    obtain ⟨t', rfl⟩ := ry
    cases x with
    | non => cases rx; exact SeqAt.EqAt.int_none a t'
    | bl b => cases rx; exact SeqAt.EqAt.int_bool a t' b
    | int b => obtain ⟨t, rfl⟩ := rx; exact SeqAt.EqAt.int_int a t' b t
    | str b => obtain ⟨t, rfl⟩ := rx; exact SeqAt.EqAt.int_str a t' b t
    | _ => exact absurd (show false = true from fx) Bool.false_ne_true
  | str a =>
    obtain ⟨t', rfl⟩ := ry
    cases x with
    | non => cases rx; exact SeqAt.EqAt.str_none a t'
    | bl b => cases rx; exact SeqAt.EqAt.str_bool a t' b
    | int b => obtain ⟨t, rfl⟩ := rx; exact SeqAt.EqAt.str_int a t' b t
    | str b => obtain ⟨t, rfl⟩ := rx; exact SeqAt.EqAt.str_str a t' b t
    | _ => exact absurd (show false = true from fx) Bool.false_ne_true
  | _ => exact absurd (show false = true from fy) Bool.false_ne_true
/-- the items' answers, read off the values (a value's own answer does not lean on its token) -/
noncomputable def eqU (x : V) (u : Value) : Bool := match u with
  | .none => eqV .non x
  | .bool b => eqV (.bl b) x
  | .int i _ => eqV (.int i) x
  | .str z _ => eqV (.str z) x
  | _ => false
theorem eqU_of {x y : V} {u : Value} (r : RelV y u) (f : flatV y = true) : eqU x u = eqV y x := by
  cases y with
  | non => cases r; rfl
  | bl b => cases r; rfl
  | int i => obtain ⟨t, rfl⟩ := r; rfl
  | str z => obtain ⟨t, rfl⟩ := r; rfl
  | _ => exact absurd (show false = true from f) Bool.false_ne_true
theorem any_eqU {x : V} : ∀ {xs : List V} {us : List Value}, Vals xs us → xs.all flatV = true → us.any (eqU x) = xs.any fun y => eqV y x
  | _, _, .nil, _ => rfl
  | y :: xs, u :: us, .cons r t, f => by
    rw [List.all_cons, Bool.and_eq_true] at f
    rw [List.any_cons, List.any_cons, eqU_of r f.1, any_eqU t f.2]
theorem mem_eqAt {A : Around} {s : Shared} {x : V} {v : Value} (rx : RelV x v) (fx : flatV x = true) : ∀ {xs : List V} {us : List Value}, Vals xs us → xs.all flatV = true → ∀ u ∈ us, SeqAt.EqAt A s u v (eqU x u)
  | _, _, .nil, _ => fun u hu => by cases hu
  | y :: xs, u :: us, .cons r t, f => fun u' hu => by
    rw [List.all_cons, Bool.and_eq_true] at f
    rcases List.mem_cons.mp hu with rfl | hu
    · rw [eqU_of r f.1]; exact eqAt_V r rx f.1 fx
    · exact mem_eqAt rx fx t f.2 u' hu
noncomputable def inV (x : V) (xs : List V) : Bool := xs.any fun y => eqV y x
/-- x in a list or tuple of flat items -/
noncomputable def rIn (K : PySem.W.Frag) (neg : Bool) : R2 := fun x y H Q => ∃ p xs, y = .ref p ∧ (SqL K H p xs ∨ SqT K H p xs) ∧ flatV x = true ∧ xs.all flatV = true ∧ Q (.bl (if neg then !inV x xs else inV x xs)) H
theorem op_in_seq : OpR X (compareOp .In) (rIn X.K false) := by
  intro pins s σ H x y v u Q I rx ry h
  obtain ⟨p, xs, rfl, hq, fx, fs, q⟩ := h
  cases ry
  rcases hq with hq | hq
  · obtain ⟨its, r, pl, hz⟩ := I.list hq
    refine SeqAt.in_listAt (eqU x) pl.isList (fun w hw => mem_eqAt rx fx r fs w (by simpa using hw)) ⟨.bl _, H, I, rfl, ?_⟩
    rw [show its.toArray.any (eqU x) = its.any (eqU x) by simp, any_eqU r fs]
    exact q
  · obtain ⟨its, r, pl, hz⟩ := I.tuple hq
    refine SeqAt.in_tupleAt (eqU x) pl (fun w hw => mem_eqAt rx fx r fs w (by simpa using hw)) ⟨.bl _, H, I, rfl, ?_⟩
    rw [show its.toArray.any (eqU x) = its.any (eqU x) by simp, any_eqU r fs]
    exact q
theorem op_notIn_seq : OpR X (compareOp .NotIn) (rIn X.K true) := by
  intro pins s σ H x y v u Q I rx ry h
  obtain ⟨p, xs, rfl, hq, fx, fs, q⟩ := h
  cases ry
  rcases hq with hq | hq
  · obtain ⟨its, r, pl, hz⟩ := I.list hq
    refine SeqAt.notIn_listAt (eqU x) pl.isList (fun w hw => mem_eqAt rx fx r fs w (by simpa using hw)) ⟨.bl _, H, I, rfl, ?_⟩
    rw [show its.toArray.any (eqU x) = its.any (eqU x) by simp, any_eqU r fs]
    exact q
  · obtain ⟨its, r, pl, hz⟩ := I.tuple hq
    refine SeqAt.notIn_tupleAt (eqU x) pl (fun w hw => mem_eqAt rx fx r fs w (by simpa using hw)) ⟨.bl _, H, I, rfl, ?_⟩
    rw [show its.toArray.any (eqU x) = its.any (eqU x) by simp, any_eqU r fs]
    exact q
/-! ### len, list(x), tuple(x) of any list or tuple that is read -/
theorem call_len_seq : CallR X (.builtin "len") (fun xs H Q => ∃ p ys, xs = [.ref p] ∧ (SqL X.K H p ys ∨ SqT X.K H p ys) ∧ Q (.int ys.length) H) := by
  intro pins s σ H xs us Q I r h
  obtain ⟨p, ys, rfl, hq, q⟩ := h
  obtain ⟨u, rfl, rx⟩ := vals1 r
  cases rx
  have hn := line63
  rcases hq with hq | hq
  · obtain ⟨its, r', pl, hz⟩ := I.list hq
    have hlen := r'.length
    exact Calls.call_len_list pl.isList (by simp only [List.size_toArray] <;> omega) ⟨.int ys.length, H, I.tok _, ⟨s.toks + 1, by rw [List.size_toArray, hlen]⟩, q⟩
  · obtain ⟨its, r', pl, hz⟩ := I.tuple hq
    have hlen := r'.length
    exact len_tuple pl (by simp only [List.size_toArray] <;> omega) ⟨.int ys.length, H, I.tok _, ⟨s.toks + 1, by rw [List.size_toArray, hlen]⟩, q⟩
/-! ### the call of a builtin's method: o.m(..) -/
/-- the value is of that builtin type -/
noncomputable def tyV (K : PySem.W.Frag) (T : String) (x : V) (H : Hp) : Prop := match x with
  | .str _ => T = "str"
  | .int _ => T = "int"
  | .ref p => (T = "list" ∧ ∃ xs, SqL K H p xs) ∨ (T = "tuple" ∧ ∃ o, K.lookup p = some o ∧ o.cls = .type "tuple" ∧ o.dict = none) ∨
      (T = "dict" ∧ ((∃ kvs, H p = some (.dK kvs)) ∨ ∃ kvs, H p = some (.dT kvs))) ∨ (T = "set" ∧ ∃ S n, H p = some (.set S n))
  | _ => False
theorem tyV_is {pins : List (Addr × Obj)} {σ : St} {H : Hp} {s : Shared} {T : String} {x : V} {v : Value} (I : Inv X pins σ H s) (r : RelV x v) (ty : tyV X.K T x H) :
    s.TypeIs v T ∧ ∀ a, v = .ref a → ∃ ob, s.heap.get? a = some ob ∧ ob.dict = none := by
  cases x with
  | str z =>
    obtain ⟨t, rfl⟩ := r
    cases (show T = "str" from ty)
    exact ⟨typeIs_str s z t, fun _ e => nomatch e⟩
  | int i =>
    obtain ⟨t, rfl⟩ := r
    cases (show T = "int" from ty)
    exact ⟨typeIs_int s i t, fun _ e => nomatch e⟩
  | ref p =>
    cases r
    rcases ty with ⟨rfl, xs, hq⟩ | ⟨rfl, o, hk, hc, hd⟩ | ⟨rfl, hk⟩ | ⟨rfl, S, n, hk⟩
    · obtain ⟨its, _, pl, _⟩ := I.list hq
      refine ⟨pl.isList.typeIs, fun a e => ?_⟩
      cases e
      obtain ⟨o, n, e, c, hd, _⟩ := pl
      exact ⟨o, e, hd⟩
    · refine ⟨⟨o, I.kIn p o hk, hc⟩, fun a e => ?_⟩
      cases e
      exact ⟨o, I.kIn _ o hk, hd⟩
    · have z : ∃ o, s.heap.get? p = some o ∧ o.ExactDict := by
        rcases hk with ⟨kvs, hk⟩ | ⟨kvs, hk⟩
        · obtain ⟨_, _, _, _, o, _, _, e, ex, _⟩ := I.hok p _ hk
          exact ⟨o, e, ex⟩
        · obtain ⟨_, _, _, _, o, _, _, e, ex, _⟩ := I.hok p _ hk
          exact ⟨o, e, ex⟩
      obtain ⟨o, e, ex⟩ := z
      refine ⟨⟨o, e, ex.1⟩, fun a e2 => ?_⟩
      cases e2
      exact ⟨o, e, ex.2.1⟩
    · obtain ⟨o, _, _, _, e, ex, _⟩ := I.hok p _ hk
      refine ⟨⟨o, e, ex.1⟩, fun a e2 => ?_⟩
      cases e2
      exact ⟨o, e, ex.2.1⟩
  | _ => exact False.elim ty
noncomputable def tBM0 (K : PySem.W.Frag) (T : String) (r : V → List V → Hp → VK → Prop) (to : TE) : TE := fun σ H Q => to σ H fun x H1 => tyV K T x H1 ∧ r x [] H1 Q
noncomputable def tBM (K : PySem.W.Frag) (T : String) (r : V → List V → Hp → VK → Prop) (to : TE) (t : TA) : TE := fun σ H Q => to σ H fun x H1 => tyV K T x H1 ∧ t σ H1 fun xs H2 => r x xs H2 Q
variable {o e : Expr} {es : List Expr} {to : TE} {t : TA} {name : Str} {apos cpos : Pos} {T id : String} {r : V → List V → Hp → VK → Prop}
theorem pe_bm0 (pa : PlainAttrs T) (slot : Slot T name id) (hty : typeOf (.builtin id) = pure (.type "method_descriptor")) (hm : MtR X id r) (ho : PE X o to)
    (hbase : attributeBase o name X.env (eval o X.env) = eval o X.env := by rfl) (hline : (apos.endLine == cpos.line) = true := by rfl) : PE X (.Call (.Attribute o name apos) [] [] cpos) (tBM0 X.K T r to) := by
  intro pins s σ H Q I h
  refine wpAny_Call_method0_late hbase hline (thn (ho pins s σ H _ I h) fun v s1 ⟨x, H1, I1, r1, ty, q1⟩ => ?_)
  obtain ⟨h1, h2⟩ := tyV_is I1 r1 ty
  exact ⟨T, id, pa, slot, hty, h1, h2, Calls.callWith_builtin rfl (PySem.evalArgs_none (hm pins s1 σ H1 x [] v [] Q I1 r1 .nil q1))⟩
theorem pe_bm (pa : PlainAttrs T) (slot : Slot T name id) (hty : typeOf (.builtin id) = pure (.type "method_descriptor")) (hm : MtR X id r) (ho : PE X o to) (ha : PA X (e :: es) t)
    (hbase : attributeBase o name X.env (eval o X.env) = eval o X.env := by rfl)
    (hfew : ((backTo cpos (starEach (e :: es) X.env)).all (fun x => !x.1) && (backToKw cpos (keywordEach [] X.env)).all (fun x => x.1.isSome)
      && decide ((e :: es).length + ([] : List Keyword).length + (if ([] : List Keyword).isEmpty then 0 else 1) < 30)) = true := by rfl)
    (hline : (apos.endLine == cpos.line) = true := by rfl) (hs : starEach (e :: es) X.env = (false, eval e X.env) :: starEach es X.env := by rfl) (hplain : (backTo cpos (starEach es X.env)).any (·.1) = false := by rfl) :
    PE X (.Call (.Attribute o name apos) (e :: es) [] cpos) (tBM X.K T r to t) := by
  intro pins s σ H Q I h
  refine wpAny_Call_method_late hbase hfew hline rfl (thn (ho pins s σ H _ I h) fun v s1 ⟨x, H1, I1, r1, ty, q1⟩ => ?_)
  obtain ⟨h1, h2⟩ := tyV_is I1 r1 ty
  refine ⟨T, id, pa, slot, hty, h1, h2, ?_⟩
  have hA := ha cpos pins s1 σ H1 _ I1 q1
  rw [hs] at hA ⊢
  refine Calls.callWith_builtin (by show (false || (backTo cpos (starEach es X.env)).any (·.1)) = false; rw [hplain] <;> rfl) (Calls.evalArgs_plain ?_)
  exact thn hA fun us s2 ⟨vs, H2, I2, r2, q2⟩ => hm pins s2 σ H2 x vs v us Q I2 r1 r2 q2
/- xs.append(e), list.index on a module's tuple .. are MtR facts of 06m -/
end
end L2

namespace L2
open PySem PySem.Spec PyProof.Rows

noncomputable def MtM (X : Cx) (id : String) (r : V → List V → Hp → VK → Prop) : Prop :=
  ∀ (pins : List (Addr × Obj)) (s : Shared) (σ : St) (H : Hp) (x : V) (xs : List V) (v : Value) (us : List Value) (Q : VK), Inv X pins σ H s → RelV x v → Vals xs us → r x xs H Q →
    wpAny (model X.prog X.w) X.A (call (.builtin id) (v :: us)) (EP X pins σ Q) X.xe s

/-! ### lists of values -/
theorem Vals.one : ∀ {x : V} {us : List Value}, Vals [x] us → ∃ u, us = [u] ∧ RelV x u
  | _, _, .cons r .nil => ⟨_, rfl, r⟩
theorem Vals.eraseIdx : ∀ {xs : List V} {us : List Value} (i : Nat), Vals xs us → Vals (xs.eraseIdx i) (us.eraseIdx i)
  | _, _, _, .nil => .nil
  | _, _, 0, .cons _ t => t
  | _, _, i + 1, .cons r t => .cons r (Vals.eraseIdx i t)
theorem len_erase {α : Type} : ∀ (l : List α) (i : Nat), (l.eraseIdx i).length ≤ l.length
  | [], _ => Nat.le_refl _
  | _ :: _, 0 => Nat.le_succ _
  | _ :: r, i + 1 => Nat.succ_le_succ (len_erase r i)
section
variable {X : Cx} {pins : List (Addr × Obj)} {σ : St} {H : Hp} {s : Shared} {l b : Addr} {xs ys zs : List V}

/-! ### the two steps: a tracked list is rewritten, a new list is laid -/
theorem Inv.lset {its its' : List Value} {n : Nat} {f : Array Value → Array Value} {t' : Nat} (I : Inv X pins σ H s) (hH : H l = some (.lst xs))
    (e : s.heap.get? l = some { cls := .type "list", data := .seq its.toArray n }) (hf : f its.toArray = its'.toArray) (hv : Vals ys its') (hz : ys.length ≤ sizeLine) :
    Inv X pins σ (upd H l (.lst ys)) { s with heap := s.heap.update l (Obj.mapSeq f), toks := t' } := by
  have q := PySem.IsL.update e f
  rw [hf] at q
  refine I.write (x := l) (e := l) (by rw [hH]; exact trivial) (.inl rfl) (fun b' u hb hu => (Heap.get?_update_other s.heap (Obj.mapSeq f) (Ne.symm hb)).trans hu) ⟨_, q⟩ ?_
  exact ⟨hz, its', _, hv, q⟩
theorem Inv.lnew {its : List Value} {t' : Nat} (I : Inv X pins σ H s) (hv : Vals ys its) (hz : ys.length ≤ sizeLine) :
    Inv X pins σ (upd H s.heap.objs.size (.lst ys)) { s with heap := s.heap.push { cls := .type "list", data := .seq its.toArray }, toks := t' } :=
  I.laid (fun _ _ q => Heap.get?_push_of_some _ q) (Nat.le_refl _) ⟨hz, its, 0, hv, Heap.get?_push_size _ rfl⟩
theorem Inv.fresh (I : Inv X pins σ H s) : H s.heap.objs.size = none := I.hok.fresh (Nat.le_refl _)
theorem Inv.lstM (I : Inv X pins σ H s) (hH : H l = some (.lst xs)) : xs.length ≤ sizeLine ∧ ∃ (its : List Value) (n : Nat), Vals xs its ∧ xs.length = its.length ∧ s.heap.get? l = some { cls := .type "list", data := .seq its.toArray n } := by
  obtain ⟨z, its, n, r, e⟩ := I.hok l _ hH
  exact ⟨z, its, n, r, r.length, e⟩

theorem notLongL {n : Nat} (h : n ≤ sizeLine) : Builtin.List.listTooLong n = false := by
  unfold Builtin.List.listTooLong
  exact decide_eq_false (by omega)
end

section
variable {X : Cx}

/-! ### methods -/
noncomputable def rAppend : V → List V → Hp → VK → Prop := fun x vs H Q => ∃ l xs y, x = .ref l ∧ vs = [y] ∧ H l = some (.lst xs) ∧ xs.length < sizeLine ∧ Q .non (upd H l (.lst (xs ++ [y])))
theorem mt_append : MtM X "list.append" rAppend := by
  intro pins s σ H x vs v us Q I rx rv h
  obtain ⟨l, xs, y, rfl, rfl, hH, hz, q⟩ := h
  cases rx
  obtain ⟨u, rfl, ru⟩ := rv.one
  obtain ⟨z, its, n, r, hl, e⟩ := I.lstM hH
  refine call_meets F.slot_list_append ⟨_, e, rfl⟩ F.entry_list_append (F.args_list_append_2 _ _) (PySem.list_append l its.toArray n u (by rw [List.size_toArray]; omega)) ⟨e, ?_⟩
  refine ⟨.non, _, I.lset (its' := its ++ [u]) hH e (by simp) (r.append (.cons ru .nil)) ?_, rfl, q⟩
  rw [List.length_append, List.length_singleton]
  omega

noncomputable def rExtend : V → List V → Hp → VK → Prop := fun x vs H Q => ∃ l b xs zs, x = .ref l ∧ vs = [.ref b] ∧ H l = some (.lst xs) ∧ H b = some (.lst zs) ∧ xs.length + zs.length ≤ sizeLine ∧ Q .non (upd H l (.lst (xs ++ zs)))
theorem mt_extend : MtM X "list.extend" rExtend := by
  intro pins s σ H x vs v us Q I rx rv h
  obtain ⟨l, b, xs, zs, rfl, rfl, hH, hB, hz, q⟩ := h
  cases rx
  obtain ⟨u, rfl, ru⟩ := rv.one
  cases ru
  obtain ⟨z, its, n, r, hl, e⟩ := I.lstM hH
  obtain ⟨z2, its2, n2, r2, hl2, e2⟩ := I.lstM hB
  have hsz : its.toArray.size + its2.toArray.size ≤ sizeLine := by rw [List.size_toArray, List.size_toArray]; omega
  have hlong : ¬ (!its.toArray.isEmpty && Builtin.List.listTooLong (its.toArray.size + its2.toArray.size)) = true := by
    rw [notLongL hsz, Bool.and_false]
    exact Bool.false_ne_true
  refine call_meets F.slot_list_extend ⟨_, e, rfl⟩ F.entry_list_extend (F.args_list_extend_2 _ _)
    (AutoSeq1.list_extend_list_list_0 l its.toArray n b its2.toArray n2 hlong (by rw [List.size_toArray]; omega) (by omega)) ⟨e, e2, ?_⟩
  refine ⟨.non, _, I.lset (its' := its ++ its2) hH e (by simp) (r.append r2) ?_, rfl, q⟩
  rw [List.length_append]
  omega

noncomputable def rPop : V → List V → Hp → VK → Prop := fun x vs H Q => ∃ l xs y, x = .ref l ∧ vs = [] ∧ H l = some (.lst xs) ∧ xs[xs.length - 1]? = some y ∧ Q y (upd H l (.lst xs.dropLast))
noncomputable def rPopAt : V → List V → Hp → VK → Prop := fun x vs H Q => ∃ l xs i k y, x = .ref l ∧ vs = [.int i] ∧ H l = some (.lst xs) ∧ -(2 ^ 63) ≤ i ∧ i < 2 ^ 63 ∧ seqIndex? i xs.length = some k ∧ xs[k]? = some y ∧ Q y (upd H l (.lst (xs.eraseIdx k)))
theorem mt_popAt : MtM X "list.pop" rPopAt := by
  intro pins s σ H x vs v us Q I rx rv h
  obtain ⟨l, xs, i, k, y, rfl, rfl, hH, h1, h2, hk, hy, q⟩ := h
  cases rx
  obtain ⟨u, rfl, ru⟩ := rv.one
  obtain ⟨t, rfl⟩ := ru
  obtain ⟨z, its, n, r, hl, e⟩ := I.lstM hH
  obtain ⟨w, hw, rw'⟩ := r.get hy
  refine call_meets F.slot_list_pop ⟨_, e, rfl⟩ F.entry_list_pop (F.args_list_pop_2 _ _)
    (MeetsSeq.list_pop_at l its.toArray n i t k w (fitsIndex_both h1 h2) (by rw [List.size_toArray, ← hl]; exact hk) (by rw [← Array.getElem?_toList]; exact hw) (by rw [List.size_toArray]; omega)) ⟨e, ?_⟩
  refine ⟨y, _, I.lset (its' := its.eraseIdx k) hH e ?_ (r.eraseIdx k) ?_, rw', q⟩
  · show its.toArray.eraseIdxIfInBounds k = (its.eraseIdx k).toArray
    rw [List.eraseIdxIfInBounds_toArray]
  · have := len_erase xs k
    omega

noncomputable def rReverse : V → List V → Hp → VK → Prop := fun x vs H Q => ∃ l xs, x = .ref l ∧ vs = [] ∧ H l = some (.lst xs) ∧ Q .non (upd H l (.lst xs.reverse))
noncomputable def rClear : V → List V → Hp → VK → Prop := fun x vs H Q => ∃ l xs, x = .ref l ∧ vs = [] ∧ H l = some (.lst xs) ∧ Q .non (upd H l (.lst []))
/-! ### list + list, list += list, list * int -/
noncomputable def rCat : R2 := fun x y H Q => ∃ l b xs zs, x = .ref l ∧ y = .ref b ∧ H l = some (.lst xs) ∧ H b = some (.lst zs) ∧ xs.length + zs.length ≤ sizeLine ∧ ∀ p, H p = none → Q (.ref p) (upd H p (.lst (xs ++ zs)))
theorem op_cat : OpR X (binaryOp .Add) rCat := by
  intro pins s σ H x y v u Q I rx ry h
  obtain ⟨l, b, xs, zs, rfl, rfl, hH, hB, hz, q⟩ := h
  cases rx
  cases ry
  obtain ⟨z, its, n, r, hl, e⟩ := I.lstM hH
  obtain ⟨z2, its2, n2, r2, hl2, e2⟩ := I.lstM hB
  refine PySem.P.add_list e e2 ?_ (by rw [List.size_toArray, List.size_toArray]; omega)
  have ea : its.toArray ++ its2.toArray = (its ++ its2).toArray := by simp
  rw [ea]
  exact ⟨.ref _, _, I.lnew (t' := s.toks) (r.append r2) (by rw [List.length_append]; omega), rfl, q _ I.fresh⟩
/-- a list times an int (a negative one is nothing) -/
noncomputable def rRep : R2 := fun x y H Q => ∃ l k xs, x = .ref l ∧ y = .int k ∧ H l = some (.lst xs) ∧ -(2 ^ 63) ≤ k ∧ k < 2 ^ 63 ∧ xs.length * k.toNat ≤ sizeLine ∧
  ∀ p, H p = none → Q (.ref p) (upd H p (.lst (List.replicate k.toNat xs).flatten))
/-! ### del xs[i] -/
end

/-! ### xs[a:b] = ys -/
section
variable {prog : Program} {w : World} {A : Around} {E : Value → Shared → Prop} {s : Shared}
end

section
variable {X : Cx}
end
end L2

namespace Att
open PySem PySem.W PySem.Calls PyProof.Rows

/-! ### the script -/
theorem ints_of_wellAll {P : Params} {h : Heap} : ∀ (ns : List Int) (vs : List Value), WellAll P h vs (ns.map WData.int) → IntsAre vs ns := by
  intro ns
  induction ns with
  | nil =>
    intro vs w
    rw [List.map_nil] at w
    cases w
    exact .nil
  | cons n ns ih =>
    intro vs w
    rw [List.map_cons] at w
    cases w with
    | cons a b =>
      cases a
      exact .cons _ _ (ih _ b)

theorem script_of {l : OpenLaw} {n : Nat} (hn : l.most = some n) {P : Params} {h : Heap} {args : List WData} {vals : List Value}
    (hpre : l.row.toRowW.claim.pre args = true) (hwl : WellAll P h vals args) :
    ∃ a vs ns, vals = [Value.ref a] ∧ args = [WData.list (ns.map WData.int)] ∧ h.get? a = some { cls := .type "list", data := .seq vs.toArray } ∧ IntsAre vs ns ∧ ns.length ≤ n := by
  have hsh : WShape.hasAll [] args [.list .int] = true := (pre_splitW hpre).1
  have hc : l.pre.holds [] { args := args } = true := (pre_splitW hpre).2
  obtain ⟨d, r, rfl, h1, h2⟩ := hasAllW_cons hsh
  obtain rfl := hasAllW_nil h2
  obtain ⟨xs, rfl, h3⟩ := hasW_list h1
  obtain ⟨ns, rfl⟩ := items_int h3
  have hlen : ns.length ≤ n := by
    unfold OpenLaw.pre at hc
    have h4 : (WTm.not (.lt (.lit (.int (n : Int))) (.len (.arg 0)))).holds [] { args := [.list (ns.map .int)] } = true := by
      have h4 := (holds_andW hc).1
      rw [hn] at h4
      exact h4
    have h5 := condW_of h4 (w_not (w_lt w_lit (w_len_list (w_arg rfl))))
    rw [List.length_map] at h5
    refine Nat.le_of_not_lt fun q => ?_
    have q' : (n : Int) < ((ns.length : Nat) : Int) := by omega
    first
      | (rw [decide_eq_true q'] at h5; exact absurd h5 (by decide))
      | (simp at h5; omega)
  cases hwl with
  | cons w1 w2 =>
    cases w2
    cases w1 with
    | list ho hall => exact ⟨_, _, ns, rfl, rfl, ho, ints_of_wellAll ns _ hall, hlen⟩

theorem post_true (l : OpenLaw) (args : List WData) : l.row.toRowW.claim.post args (.bool true) args = true :=
  postW_of (r := l.row.toRowW) (X := (true == true))
    (show WShape.has [] (.bool true) .bool = true by first | rfl | decide | simp [WShape.has, WShape.arms, WShape.armsAll])
    (show (WTm.eq .res (.lit (.bool true))).value [] { args := args, res := some (.bool true), after := args } = some (.bool (true == true)) from w_eq_bool (w_res rfl) w_lit) rfl

/-! ### the attachment: holds_open's last premise (the goal 'hc' behind k_head) from a wpAny of the law's body -/
/-- the same from a codeAny of the CALL (for a layer whose function contracts speak of calls) -/
theorem attach_call {l : OpenLaw} {n : Nat} {q : Program} {loose : List Str} {XP : (Str → Option Value) → Heap → Prop} {YP : World → Heap → Prop} {d : DefRec}
    (hn : l.most = some n) (hdf : d.params.defaults = [])
    (call : ∀ (w : World) (s₀ s₁ : Shared) (mg mb : Str → Option Value) (fa : Addr) (o : Obj) (pm cd doc : Value) (a : Addr) (vs : List Value) (ns : List Int),
      Ground q loose [] XP w s₀ mg mb s₁.heap → YP w s₁.heap →
      s₁.heap.get? fa = some o → o.data = .func (docDef d.name d.params d.body d.scope pm cd doc) → s₁.heap.CodeRec cd d.name → mg d.name = some (.ref fa) →
      s₁.heap.get? a = some { cls := .type "list", data := .seq vs.toArray } → IntsAre vs ns → ns.length ≤ n → s₁.gens = #[] →
      codeAny (model l.prog w) callerA (.call (.ref fa) ⟨[.ref a], []⟩) (fun r s' => r = .ok (.ret (.bool true)) ∧ OldK s₁.heap s'.heap ∧ s'.os = s₁.os ∧ AllBare s'.gens) s₁) :
    WalkO q loose XP YP l.row.toRowW d [] (fun f vs => PySem.call f vs) := by
  intro w s₀ s₁ mg mb G Y fa o pm cd doc dV kV ho hd hcd hD hmg hg args vals as hpre hlay hrd hwl hlo
  obtain rfl : dV = .none := Dflts.none hD hdf
  obtain rfl : kV = .none := Dflts.noKw hD
  obtain ⟨a, vs, ns, rfl, rfl, hobj, hints, hlen⟩ := script_of hn hpre hwl
  refine enter_call (codeAny_mono (call w s₀ s₁ mg mb fa o pm cd doc a vs ns G Y ho (fd_plain hd) hcd hmg hobj hints hlen hg) fun r s' hq => ?_)
  obtain ⟨rfl, h2, h3, h4⟩ := hq
  exact ⟨.inl ⟨.bool true, .bool true, [], rfl, fun _ => rfl, .bool true, post_true l _, fun _ => ⟨List.Pairwise.nil, fun _ hm => (nomatch hm)⟩⟩, h2, h3, h4⟩

/-! ### rules over ANY heap (no ledger) from facts about the written part K: the library's own take a ledger (News) for what they write -/
section
variable {prog : Program} {w : World} {A : Around} {E : Value → Shared → Prop} {s : Shared} {K : Frag}

/-! the whole heap as the ledger: makes every rule that writes through a ledger a rule over any heap -/
noncomputable def noObjs (h : Heap) : Heap := { h with objs := #[] }
noncomputable def ledger (h : Heap) (L d : Addr) : List (Addr × Obj) := (List.range h.objs.size).filterMap fun a => if a = L ∨ a = d then none else (h.get? a).map fun o => (a, o)
end
end Att

namespace L2
open PySem PySem.Spec PyProof.Rows

theorem vals_ints : ∀ {vs : List Value} {ns : List Int}, IntsAre vs ns → Vals (ns.map V.int) vs
  | _, _, .nil => .nil
  | _, _, .cons n t h => .cons ⟨t, rfl⟩ (vals_ints h)

/-- nothing is tracked but the script, known to the object (or it is an object of the module) -/
noncomputable def Only (H : Hp) : Prop := ∀ b, H b = none ∨ ∃ o xs, H b = some (.frz o (.lst xs))

/-- THE HEAD: the law's promise, at the heap behind the top. F, the promise of the law's def, may use that base is part of the heap (so K.In base, base.Ns mainGlobals mg stand in Mod) -/
theorem law_call {P : Program} {w : World} {K : PySem.W.Frag} {mg mb : Str → Option Value} {CX : CXT} {k : Nat} {fa a : Addr} {fd : FuncData} {x : Str} {sp : Sp} {s₁ : Shared} {vs : List Value} {ns : List Int}
    (KX : K.In s₁.heap) (hns : s₁.heap.Ns mainGlobals mg) (hb : s₁.heap.Ns builtinsNs mb) (hbb : ∀ x : Str, x ≠ "__name__" → mb x = bootBuiltins x) (hlim : s₁.heap.NoLimit) (hg : s₁.gens = #[])
    (ha : s₁.heap.get? a = some { cls := .type "list", data := .seq vs.toArray }) (hi : IntsAre vs ns) (hl : ns.length ≤ sizeLine) (hr : Room k callerA)
    (F : ∀ base : Heap, K.In base → base.Ns mainGlobals mg → FnOk P w K mg base CX k fa fd [x] sp) (hbind : ∀ (s : Shared) (u : Value), BindsTo s fd ⟨[u], []⟩ [(x, u)])
    (hsp : ∀ H : Hp, Only H → SqL K H a (ns.map V.int) → sp [.ref a] H (fun v _ => v = .bl true) fun _ _ _ => False)
    (hCX : ∀ H e s', CX [] H s₁ (fun _ _ _ => False) e s' → False) :
    codeAny (model P w) callerA (.call (.ref fa) ⟨[.ref a], []⟩) (fun r s' => r = .ok (.ret (.bool true)) ∧ OldK s₁.heap s'.heap ∧ s'.os = s₁.os ∧ AllBare s'.gens) s₁ := by
  have rv := vals_ints hi
  have lenV := hi.length
  -- from an abstract heap in which nothing but the script may be tracked
  have core : ∀ H : Hp, Only H → SqL K H a (ns.map V.int) → HOk P w H s₁.heap → (∀ b, H b ≠ none → b = a) → (H a ≠ none → K.lookup a = none) →
      codeAny (model P w) callerA (.call (.ref fa) ⟨[.ref a], []⟩) (fun r s' => r = .ok (.ret (.bool true)) ∧ OldK s₁.heap s'.heap ∧ s'.os = s₁.os ∧ AllBare s'.gens) s₁ := by
    intro H hO hS hok hA hK
    have base_of : ∀ {b : Addr} {o : Obj}, s₁.heap.get? b = some o → H b = none → (hidT s₁.heap H).get? b = some o := fun e n => hidT_get e n
    have noA : ∀ {b : Addr} {o : Obj} {es : Array DictEntry} {ep : Nat}, s₁.heap.get? b = some o → o.data = .dict es ep → H b = none := fun {b o es ep} e d => by
      cases q : H b with
      | none => rfl
      | some u =>
        have e' : b = a := hA b (by rw [q]; simp)
        subst e'
        rw [ha] at e; cases e
        have d' : Data.seq vs.toArray _ = Data.dict es ep := d
        cases d'
    have nsK : ∀ {b : Addr} {m : Str → Option Value}, s₁.heap.Ns b m → (hidT s₁.heap H).Ns b m := fun {b m} ⟨o, es, ep, e, d, r⟩ => ⟨o, es, ep, base_of e (noA e d), d, r⟩
    have hKb : K.In (hidT s₁.heap H) := fun b o e => base_of (KX b o e) (by
      cases q : H b with
      | none => rfl
      | some u =>
        have e' : b = a := hA b (by rw [q]; simp)
        subst e'
        rw [hK (by rw [q]; simp)] at e; cases e)
    have hM : Mod K mg (hidT s₁.heap H) := ⟨hKb, nsK hns, ⟨mb, nsK hb, hbb⟩, let ⟨mc, h1, h2⟩ := hlim; ⟨mc, nsK h1, h2⟩⟩
    have e0 : Env0 P w K mg (hidT s₁.heap H) callerA [] s₁ H := ⟨rfl, hM, fun b o e => of_hidT e, Nat.le_of_eq (hidT_size _ _), trivial, fun b hb => absurd (show b ∈ ([] : List Addr) from hb) (by simp), hok, .of_eq hg⟩
    refine codeAny_mono ((F _ hKb (nsK hns)).run callerA [] s₁ H ⟨[.ref a], []⟩ [.ref a] [.ref a] _ _ hr e0 (hbind s₁ (.ref a)) (.cons rfl .nil) (hsp H hO hS)) fun r s' h => ?_
    cases r with
    | error e => exact (hCX H e s' h).elim
    | ok fl =>
      cases fl with
      | next => exact False.elim h
      | brk => exact False.elim h
      | cont => exact False.elim h
      | ret u =>
        obtain ⟨v, H', os, bare, un, hok', r', q⟩ := h
        have q' : v = .bl true := q
        subst q'
        obtain rfl : u = Value.bool true := r'
        refine ⟨rfl, OldK.of_keep fun b o e => ?_, os, bare⟩
        cases q : H b with
        | none => exact un.keep b o e q (by intro z; exact absurd (show b ∈ ([] : List Addr) from z) (by simp)) (by simp)
        | some u =>
          rcases hO b with z | ⟨ob, xs, z⟩
          · rw [q] at z; cases z
          · have z2 := un.frzs b ob _ z
            obtain ⟨e1, _⟩ := hok b _ z
            obtain ⟨e2, _⟩ := hok' b _ z2
            rw [e] at e1; cases e1
            exact e2
  cases hk : K.lookup a with
  | some o =>
    -- the script is one of the module's own objects
    have e := KX a o hk
    rw [ha] at e
    cases e
    refine core (fun _ => none) (fun _ => .inl rfl) (.inr ⟨_, vs.toArray, _, hk, rfl, rfl, rfl, by rw [List.size_toArray, lenV]; exact hl, by simpa using rv⟩) (fun b u z => by have z' : (none : Option HO) = some u := z; cases z') (fun b z => absurd rfl z) fun z => absurd rfl z
  | none =>
    refine core (fun b => if b = a then some (.frz { cls := .type "list", data := .seq vs.toArray } (.lst (ns.map V.int))) else none) (fun b => ?_) (.inl (.inr ⟨{ cls := .type "list", data := .seq vs.toArray }, if_pos rfl⟩)) (fun b u z => ?_) (fun b z => ?_) fun _ => hk
    · by_cases hb : b = a
      · exact .inr ⟨_, _, if_pos hb⟩
      · exact .inl (if_neg hb)
    · by_cases hb : b = a
      · have z' := (if_pos hb).symm.trans z
        cases z'
        subst hb
        exact ⟨ha, by rw [List.length_map]; exact hl, vs, _, rv, ha⟩
      · have z' := (if_neg hb).symm.trans z
        cases z'
    · by_cases hb : b = a
      · exact hb
      · exact absurd (if_neg hb) z
end L2

namespace L2
open PySem PySem.Spec PyProof.Rows

noncomputable abbrev KOf {K : PySem.W.Frag} {h : Heap} (_ : K.In h) : PySem.W.Frag := K

/-- the goal that k_head leaves (case hc), from the law's promise. F gives the function object fd (K's own) once, then the promise over every base -/
theorem walk_of {l : PySem.W.OpenLaw} {n k : Nat} {q : Program} {loose : List Str} {XP : (Str → Option Value) → Heap → Prop} {YP : World → Heap → Prop} {d : DefRec} {K : Params → PySem.W.Frag} {CX : World → CXT} {sp : World → Sp} {x : Str}
    (hn : l.most = some n) (hn2 : n ≤ sizeLine) (hdf : d.params.defaults = []) (hr : Room k callerA)
    (hY : ∀ (w : World) (h : Heap), YP w h → (K w.params).In h)
    (F : ∀ (w : World) (mg : Str → Option Value) (fa : Addr) (h : Heap), (K w.params).In h → h.Ns mainGlobals mg → mg d.name = some (.ref fa) →
      ∃ fd : FuncData, (∀ (s : Shared) (u : Value), BindsTo s fd ⟨[u], []⟩ [(x, u)]) ∧
        ∀ base : Heap, (K w.params).In base → base.Ns mainGlobals mg → FnOk l.prog w (K w.params) mg base (CX w) k fa fd [x] (sp w))
    (hsp : ∀ (w : World) (H : Hp) (a : Addr) (ns : List Int), ns.length ≤ n → Only H → SqL (K w.params) H a (ns.map V.int) → sp w [.ref a] H (fun v _ => v = .bl true) fun _ _ _ => False)
    (hCX : ∀ (w : World) (H : Hp) (s : Shared) (e : Value) (s' : Shared), CX w [] H s (fun _ _ _ => False) e s' → False) :
    PySem.W.WalkO q loose XP YP l.row.toRowW d [] (fun f vs => PySem.call f vs) := by
  refine Att.attach_call hn hdf fun w s₀ s₁ mg mb fa o pm cd doc a vs ns G Y ho hd hcd hmg hobj hints hlen hg => ?_
  have KX := hY w _ Y
  obtain ⟨fd, hb, hF⟩ := F w mg fa _ KX G.T.g hmg
  exact law_call KX G.T.g G.T.b G.T.builtins G.T.nolimit hg hobj hints (Nat.le_trans hlen hn2) hr hF hb (fun H hO hS => hsp w H a ns hlen hO hS) fun H e s' => hCX w H s₁ e s'
end L2



/-! SHORT WORDS over the layer: a def of the text, its body, what a loop and a test want. -/
namespace L2
open PySem PySem.Spec PyProof.Rows

/-! ### the text by places -/
/-- the j-th statement of a class's body -/
noncomputable def inClass (s : Stmt) (j : Nat) : Stmt := match s with
  | .ClassDef _ _ _ body _ _ _ _ _ _ _ => body.getD j (.Pass ⟨0, 0, 0, 0⟩)
  | _ => .Pass ⟨0, 0, 0, 0⟩
noncomputable def defArgs (s : Stmt) : Arguments := match s with
  | .FunctionDef _ a _ _ _ _ _ _ _ _ => a
  | _ => { posonlyargs := [], args := [], vararg := none, kwonlyargs := [], kw_defaults := [], kwarg := none, defaults := [] }
noncomputable def defBody (s : Stmt) : List Stmt := match s with
  | .FunctionDef _ _ b _ _ _ _ _ _ _ => b
  | _ => []
noncomputable def defScope (s : Stmt) : Scope := match s with
  | .FunctionDef _ _ _ _ _ _ sc _ _ _ => sc
  | _ => { kind := .function, names := [], isGenerator := false, isCoroutine := false }

/-! ### no exception leaves a def -/
noncomputable abbrev CX0 : CXT := fun _ _ _ _ _ _ => False
noncomputable abbrev E0 : XK := fun _ _ _ => False
theorem pass0 {X : Cx} : Passes CX0 X E0 := fun _ _ _ _ _ _ _ h => h.elim

/-! ### a def (or method) of the text as it stands behind the top -/
structure Fun (K : PySem.W.Frag) (x qual : Str) (st : Stmt) (f : Addr) (fd : FuncData) : Prop where
  ex : ∃ (oc : Value) (od : Option Addr) (kV doc pm : Value) (an : Option Addr) (cdv ct : Value) (osl : Array (Option Value)),
    fd = PySem.W.fnOf x qual (defArgs st) (defBody st) (defScope st) .none kV doc pm an cdv ct ∧ K.lookup f = some ⟨oc, od, .func fd, osl⟩ ∧ PySem.W.codeIn K cdv qual = true
  kp : PySem.W.keepIn K (.ref f) = true
section
variable {P : Program} {w : World} {K : PySem.W.Frag} {mg : Str → Option Value} {base : Heap}
/-- THE RULE for a def: its body as a term of rules, and the reading of that term -/
theorem Fun.ok {x qual : Str} {st : Stmt} {f : Addr} {fd : FuncData} {N ps : List Str} {k : Nat} {sp : Sp} (F : Fun K x qual st f fd) (S : FnScope N ps (defScope st)) (len : ∀ vs H Q E, sp vs H Q E → vs.length = ps.length)
    (hbody : ∀ (cdv : Value) (A : Around) (outer : List Env) (s : Shared) (H : Hp) (vs : List V) (Q : VK) (E : XK), Room k (A.deeper (envOfC qual (defScope st) s.heap.objs.size f cdv)) → sp vs H Q E →
      ∃ t, PSs (cxOf CX0 P w K mg base N qual (defScope st) f cdv A outer s H E).nox (defBody st) t ∧ t { nx := fun _ H' => Q .non H', rt := Q } (start N vs) H) : FnOk P w K mg base CX0 (k + 1) f fd ps sp := by
  obtain ⟨oc, od, kV, doc, pm, an, cdv, ct, osl, rfl, lk, hcd⟩ := F.ex
  refine fn_of lk hcd S len fun A outer s H vs Q E hr hsp => ?_
  obtain ⟨t, h, q⟩ := hbody cdv A outer s H vs Q E hr hsp
  exact ⟨t, h.nox, q⟩
/-- how its arguments bind (no defaults): h is «fun _ _ _ _ _ _ us hl => match us, hl with | [_, _], _ => rfl», one _ a parameter -/
theorem Fun.binds {x qual : Str} {st : Stmt} {f : Addr} {fd : FuncData} {ps : List Str} (F : Fun K x qual st f fd)
    (h : ∀ (kV doc pm : Value) (an : Option Addr) (cdv ct : Value) (us : List Value), us.length = ps.length → bindArgs (PySem.W.fnOf x qual (defArgs st) (defBody st) (defScope st) .none kV doc pm an cdv ct) ⟨us, []⟩ = pure (ps.zip us)) : Binds K fd ps [] := by
  obtain ⟨oc, od, kV, doc, pm, an, cdv, ct, osl, rfl, lk, hcd⟩ := F.ex
  exact .all (h kV doc pm an cdv ct)
theorem fun_mk {x qual : Str} {st : Stmt} {f : Addr} {oc : Value} {od an : Option Addr} {osl : Array (Option Value)} {kV doc pm cdv ct : Value} (l : K.lookup f = some ⟨oc, od, .func (PySem.W.fnOf x qual (defArgs st) (defBody st) (defScope st) .none kV doc pm an cdv ct), osl⟩)
    (c : PySem.W.codeIn K cdv qual = true) (k : PySem.W.keepIn K (.ref f) = true) : Fun K x qual st f (PySem.W.fnOf x qual (defArgs st) (defBody st) (defScope st) .none kV doc pm an cdv ct) := ⟨⟨oc, od, kV, doc, pm, an, cdv, ct, osl, rfl, l, c⟩, k⟩
end
theorem small1000 {n : Nat} (h : n ≤ 1000) : n < sizeLine := Nat.lt_of_le_of_lt h (by decide)

/-! ### expressions in short: the name that stands in the i-th slot -/
section
variable {X : Cx}
theorem pv (i : Nat) {x : Str} {pos : Pos} (hN : X.N[i]? = some x := by rfl) (hv : Vis X.env.scope x := by first | exact Or.inl rfl | exact Or.inr (Or.inl rfl) | exact Or.inr (Or.inr rfl)) (hd : (x == ("__debug__" : Str)) = false := by decide)
    (hcd : (x == ("__classdict__" : Str)) = false := by decide) : PE X (.Name x pos) (tVar i) := pe_var hN hv hd hcd
end

/-! ### tests -/
theorem iteF {A B : Prop} (h : B) : if false = true then A else B := by
  rw [if_neg Bool.false_ne_true]
  exact h
theorem iteT {A B : Prop} (h : A) : if true = true then A else B := by
  rw [if_pos rfl]
  exact h
theorem ite2 {c A B : Prop} [Decidable c] (h1 : c → A) (h2 : ¬ c → B) : if c then A else B := by
  by_cases h : c
  · rw [if_pos h]
    exact h1 h
  · rw [if_neg h]
    exact h2 h
/-! ### heaps -/
/-- all that was tracked is as it was -/
noncomputable def Same (H H' : Hp) : Prop := ∀ b o, H b = some o → H' b = some o
theorem Same.refl (H : Hp) : Same H H := fun _ _ h => h
theorem Same.trans {H H1 H2 : Hp} (a : Same H H1) (b : Same H1 H2) : Same H H2 := fun c o h => b c o (a c o h)
theorem Same.free {H H' : Hp} (e : Same H H') {l : Addr} (h : H' l = Option.none) : H l = Option.none := by
  cases q : H l with
  | none => rfl
  | some o =>
    rw [e l o q] at h
    cases h
theorem Same.seq {K : PySem.W.Frag} {H H' : Hp} {a : Addr} {xs : List V} (e : Same H H') (h : SqL K H a xs) : SqL K H' a xs := by
  rcases h with (h | ⟨o, h⟩) | h
  · exact .inl (.inl (e _ _ h))
  · exact .inl (.inr ⟨o, e _ _ h⟩)
  · exact .inr h

end L2

namespace L2
open PySem PySem.Spec PyProof.Rows

/-! ### a list comprehension of one clause: its block is a context of its own -/
theorem compLoop_any {prog : Program} {w : World} {A : Around} {R : Result → Shared → Prop} {s : Shared} {elt target iter : Expr} {ifs : List Expr} {scope : Scope} {pos : Pos} {it acc : Value} {env : Env} (I : Nat → Shared → Prop)
    (turn : ∀ n s, I n s → wpAny (model prog w) A (pyNext it) (fun r s1 => match r with
      | none => R (.ok .next) s1
      | some v => wpAny (model prog w) A (letOwnedTupleGo target it v) (fun _ s1' => wpAny (model prog w) A (assign target env v) (fun _ s2 =>
          wpAny (model prog w) A (forIn ifs true fun c r => if r = true then do let ok ← isTrue c env (eval c env); pure (ForInStep.yield ok) else pure (ForInStep.yield r)) (fun ok s3 =>
            if ok = true then wpAny (model prog w) A (eval elt env) (fun x s4 =>
              wpAny (model prog w) A (call (.builtin "list.append") [acc, x]) (fun _ s5 => ∃ m, m < n ∧ I m s5) (fun _ _ => False) s4) (fun _ _ => False) s3
            else ∃ m, m < n ∧ I m s3) (fun _ _ => False) s2) (fun _ _ => False) s1') (fun _ _ => False) s1) (fun _ _ => False) s)
    (n : Nat) (h : I n s) : codeAny (model prog w) A (.compLoop (.ListComp elt [⟨target, iter, ifs, 0⟩] scope pos) 0 it acc env) R s := by
  refine codeAny_loop rfl I (fun n s hI => ?_) n h
  show wpAny _ A ((compTurn (.ListComp elt [⟨target, iter, ifs, 0⟩] scope pos) 0 it acc env).onRaise (fun x => do noteFrame x env; theTreesLotGoes x)) _ _ s
  refine wpAny_noted (wpAny_mono (Q := _) (E := fun _ _ => False) ?_ (fun _ _ x => x) fun _ _ x => x.elim)
  rw [compTurn_list]
  refine wpAny_bind (wpAny_standAt (wpAny_bind (thn (turn n s hI) (fun r s1 h1 => ?_))))
  cases r with
  | none => exact wpAny_pure h1
  | some v =>
    refine wpAny_bind (thn h1 fun _ s1' h1' => wpAny_bind (thn h1' fun _ s2 h2 => wpAny_bind (thn h2 fun ok s3 h3 => ?_)))
    cases ok with
    | false => exact wpAny_pure ⟨rfl, h3⟩
    | true => exact wpAny_bind (wpAny_bind (thn h3 fun x s4 h4 => wpAny_bind (thn h4 fun _ s5 h5 => wpAny_pure (wpAny_pure ⟨rfl, h5⟩))))

theorem forIn_free {env : Env} : ∀ (names : List (Str × NameKind)) (cs : List (Str × Addr)), (∀ n, (n, NameKind.free) ∈ names → ∃ c, env.cells.lookup n = some c) →
    ∃ cl : List (Str × Addr), (forIn names cs (fun (x : Str × NameKind) (cs : List (Str × Addr)) => (do
      if (x.2 == NameKind.free) = true then do let a ← cellOf env x.1; pure (ForInStep.yield ((x.1, a) :: cs))
      else pure (ForInStep.yield cs) : Sem (ForInStep (List (Str × Addr)))))) = (pure cl : Sem (List (Str × Addr))) ∧
      (∀ p ∈ cl, p ∈ cs ∨ env.cells.lookup p.1 = some p.2) ∧ (∀ p ∈ cs, p ∈ cl) ∧ (∀ n, (n, NameKind.free) ∈ names → ∃ c, (n, c) ∈ cl)
  | [], cs, _ => ⟨cs, rfl, fun p hp => .inl hp, fun p hp => hp, fun n hn => nomatch hn⟩
  | (n, k) :: r, cs, h => by
    by_cases hk : k = .free
    · subst hk
      obtain ⟨c, hc⟩ := h n List.mem_cons_self
      obtain ⟨cl, e, h1, h2, h3⟩ := forIn_free (env := env) r ((n, c) :: cs) fun m hm => h m (List.mem_cons_of_mem _ hm)
      refine ⟨cl, ?_, fun p hp => ?_, fun p hp => h2 p (List.mem_cons_of_mem _ hp), fun m hm => ?_⟩
      · rw [List.forIn_cons]
        have z : cellOf env n = pure c := by unfold cellOf; rw [hc]
        simp only [beq_self_eq_true, if_true, z]
        exact e
      · rcases h1 p hp with q | q
        · rcases List.mem_cons.mp q with q | q
          · subst q; exact .inr hc
          · exact .inl q
        · exact .inr q
      · rcases List.mem_cons.mp hm with q | q
        · have q1 : m = n := by cases q; rfl
          subst q1
          exact ⟨c, h2 _ List.mem_cons_self⟩
        · exact h3 m q
    · obtain ⟨cl, e, h1, h2, h3⟩ := forIn_free (env := env) r cs fun m hm => h m (List.mem_cons_of_mem _ hm)
      refine ⟨cl, ?_, h1, h2, fun m hm => ?_⟩
      · rw [List.forIn_cons]
        have z : (k == NameKind.free) = false := by simpa using hk
        simp only [z, Bool.false_eq_true, if_false]
        exact e
      · rcases List.mem_cons.mp hm with q | q
        · cases q; exact absurd rfl hk
        · exact h3 m q

theorem mem_lookup {cl : List (Str × Addr)} {x : Str} {c : Addr} (h : (x, c) ∈ cl) : ∃ c', cl.lookup x = some c' := by
  induction cl with
  | nil => cases h
  | cons p r ih =>
    obtain ⟨y, d⟩ := p
    by_cases e : x = y
    · subst e; exact ⟨d, by simp⟩
    · have e' : (x == y) = false := by simpa using e
      rcases List.mem_cons.mp h with q | q
      · cases q; exact absurd rfl e
      · obtain ⟨c', q'⟩ := ih q
        exact ⟨c', by rw [List.lookup_cons, e']; exact q'⟩

theorem closure_ok {env : Env} {scope : Scope} (h : ∀ n, (n, NameKind.free) ∈ scope.names → ∃ c, env.cells.lookup n = some c) :
    ∃ cl, closureFor scope env = pure cl ∧ (∀ x c, cl.lookup x = some c → env.cells.lookup x = some c) ∧ (∀ n, (n, NameKind.free) ∈ scope.names → ∃ c, cl.lookup n = some c) := by
  obtain ⟨cl, e, h1, _, h3⟩ := forIn_free (env := env) scope.names [] h
  refine ⟨cl, ?_, fun x c q => ?_, fun n hn => ?_⟩
  · unfold closureFor
    refine Eq.trans ?_ e
    first
      | rfl
      | (simp only [bind_pure]; rfl)
      | simp only [bind_pure]
  · rcases h1 _ (PySem.mem_of_lookup q) with z | z
    · cases z
    · exact z
  · obtain ⟨c, q⟩ := h3 n hn
    exact mem_lookup q

theorem relabel_lookup {scope : Scope} {env : Env} {x : Str} {k' : NameKind} (h : (relabel scope env).names.lookup x = some k') : ∃ k, scope.names.lookup x = some k ∧ (k' = k ∨ (k = .free ∧ k' = .cell)) := by
  have go : ∀ names : List (Str × NameKind), (names.map fun (n, k) => if (k == NameKind.free && env.scope.kind == .function && env.kindOf n == some .cell) then (n, NameKind.cell) else (n, k)).lookup x = some k' →
      ∃ k, names.lookup x = some k ∧ (k' = k ∨ (k = .free ∧ k' = .cell)) := by
    intro names
    induction names with
    | nil => intro h; cases h
    | cons p r ih =>
      obtain ⟨n, k⟩ := p
      intro h
      rw [List.map_cons] at h
      by_cases hc : (k == NameKind.free && env.scope.kind == .function && env.kindOf n == some .cell) = true
      · simp only [hc, if_true] at h
        cases hx : x == n with
        | true =>
          rw [List.lookup_cons, hx] at h
          have hk : k = .free := by
            cases k <;> first | rfl | (simp at hc)
          exact ⟨k, by rw [List.lookup_cons, hx], .inr ⟨hk, by cases h; rfl⟩⟩
        | false =>
          rw [List.lookup_cons, hx] at h
          obtain ⟨k2, q1, q2⟩ := ih h
          exact ⟨k2, by rw [List.lookup_cons, hx]; exact q1, q2⟩
      · have hc' : (k == NameKind.free && env.scope.kind == .function && env.kindOf n == some .cell) = false := by simpa using hc
        simp only [hc', Bool.false_eq_true, if_false] at h
        cases hx : x == n with
        | true =>
          rw [List.lookup_cons, hx] at h
          exact ⟨k, by rw [List.lookup_cons, hx], .inl (by cases h; rfl)⟩
        | false =>
          rw [List.lookup_cons, hx] at h
          obtain ⟨k2, q1, q2⟩ := ih h
          exact ⟨k2, by rw [List.lookup_cons, hx]; exact q1, q2⟩
  exact go _ h

/-- the context of a comprehension's block: its own names first, then the names at the places js of the frame around -/
noncomputable def Cx.comp (X : Cx) (scope : Scope) (own : List Str) (js : List Nat) (cl : List (Str × Addr)) (s : Shared) (H : Hp) (C : Addr) (fp : List Addr) : Cx :=
  { prog := X.prog, w := X.w, K := X.K, mg := X.mg, base := X.base, A := X.A, N := own ++ js.map (fun j => X.N.getD j ""), s₀ := s, H₀ := H, env := compEnvC scope cl C X.env, outer := X.stack, stack := X.stack, ex := fp,
    fn := fun _ => false, calm := X.calm, pn := [], xe := fun _ _ => False }
noncomputable def pick (n : Nat) (js : List Nat) (σ : St) : St := List.replicate n none ++ js.map fun j => (σ[j]?).join
noncomputable def Wk (σ σ' : St) : Prop := σ.length = σ'.length ∧ ∀ (i : Nat) v, σ[i]? = some (some v) → σ'[i]? = some (some v)
theorem Wk.refl (σ : St) : Wk σ σ := ⟨rfl, fun _ _ h => h⟩
theorem Wk.set {n : Nat} {js : List Nat} {σ σ' : St} {i : Nat} {v : Option V} (h : Wk (pick n js σ) σ') (hi : i < n) : Wk (pick n js σ) (σ'.set i v) := by
  refine ⟨by rw [List.length_set]; exact h.1, fun j u q => ?_⟩
  by_cases e : i = j
  · subst e
    unfold pick at q
    rw [List.getElem?_append_left (by simpa using hi), List.getElem?_replicate] at q
    split at q <;> cases q
  · rw [List.getElem?_set_ne e]; exact h.2 j u q

/-- what the scope table of the comprehension must say (all by decide) -/
structure CompScopeN (sc : Scope) (N : List Str) (scope : Scope) (js : List Nat) : Prop where
  kind : scope.kind = .function
  cell : ∀ x ∈ scope.names, x.2 ≠ .cell
  names : ∀ x ∈ scope.names, x.2 = .local → scope.names.lookup x.1 = some .local
  free : ∀ x ∈ scope.names, x.2 = .free → sc.names.lookup x.1 = some .cell ∨ sc.names.lookup x.1 = some .free
  js : ∀ j ∈ js, scope.names.lookup (N.getD j "") ≠ some .local
structure CompScope (X : Cx) (scope : Scope) (own : List Str) (js : List Nat) : Prop where
  kind : scope.kind = .function
  cell : ∀ x ∈ scope.names, x.2 ≠ .cell
  names : ∀ x ∈ scope.names, x.2 = .local → scope.names.lookup x.1 = some .local
  free : ∀ x ∈ scope.names, x.2 = .free → X.env.kindOf x.1 = some .cell ∨ X.env.kindOf x.1 = some .free
  js : ∀ j ∈ js, scope.names.lookup (X.N.getD j "") ≠ some .local

section
variable {X : Cx} {scope : Scope} {own : List Str} {js : List Nat}
theorem CompScopeN.cs {sc : Scope} {N : List Str} (S : CompScopeN sc N scope js) (h1 : X.env.scope = sc) (h2 : X.N = N) : CompScope X scope own js := by
  subst h1 h2
  exact ⟨S.kind, S.cell, S.names, S.free, S.js⟩

theorem comp_start {pins : List (Addr × Obj)} {σ : St} {H : Hp} {s : Shared} {cl : List (Str × Addr)} {fp : List Addr} {h1 : Heap} {C : Addr} {m : Str → Option Value} {o : Obj} {t1 : Nat} (S : CompScope X scope own js) (I : Inv X pins σ H s)
    (hf : ∀ b ∈ fp, FpOk X pins H b ∧ b < s.heap.objs.size)
    (hcl : ∀ x c, cl.lookup x = some c → X.env.cells.lookup x = some c) (hcl2 : ∀ n, (n, NameKind.free) ∈ scope.names → ∃ c, cl.lookup n = some c)
    (hC : @Eq Nat C (s.heap.objs.size + 1)) (hns : h1.Ns C m) (hk : ∀ b o, s.heap.get? b = some o → h1.get? b = some o) (hn : h1.get? s.heap.objs.size = some { cls := .type "list", dict := none, data := .seq ([] : List Value).toArray }) :
    Inv (X.comp scope own js cl s H C fp) [] (pick own.length js σ) (upd H s.heap.objs.size (.lst [])) { s with heap := h1, toks := t1 } := by
  have below : ∀ b, b < s.heap.objs.size → b ≠ C ∧ b ≠ s.heap.objs.size := fun b hb => ⟨Nat.ne_of_lt (Nat.lt_of_lt_of_eq (Nat.lt_succ_of_lt hb) hC.symm), Nat.ne_of_lt hb⟩
  have kinds : ∀ x, ((X.comp scope own js cl s H C fp).env.kindOf x = some .cell ∨ (X.comp scope own js cl s H C fp).env.kindOf x = some .free) → (x, NameKind.free) ∈ scope.names := fun x hx => by
    have hx : (relabel scope X.env).names.lookup x = some .cell ∨ (relabel scope X.env).names.lookup x = some .free := hx
    rcases hx with hx | hx
    · obtain ⟨k, q1, q2⟩ := relabel_lookup hx
      rcases q2 with q2 | ⟨q2, _⟩
      · exact absurd q2.symm (S.cell _ (PySem.mem_of_lookup q1))
      · exact q2 ▸ PySem.mem_of_lookup q1
    · obtain ⟨k, q1, q2⟩ := relabel_lookup hx
      rcases q2 with q2 | ⟨_, q2⟩
      · exact q2 ▸ PySem.mem_of_lookup q1
      · cases q2
  have hCle : s.heap.objs.size ≤ C := Nat.le_of_lt (Nat.lt_of_lt_of_eq (Nat.lt_succ_self _) hC.symm)
  have hCne : C ≠ s.heap.objs.size := Nat.ne_of_gt (Nat.lt_of_lt_of_eq (Nat.lt_succ_self _) hC.symm)
  have accn : H s.heap.objs.size = none := I.hok.fresh (Nat.le_refl _)
  refine ⟨⟨I.ok.mod, S.kind, I.ok.glob, I.ok.blt, ?_, fun x y c e1 e2 => I.ok.inj x y c (hcl x c e1) (hcl y c e2), fun x hx => hcl2 x (kinds x hx), fun x c e => ?_, I.ok.hd, I.ok.frames, .inl rfl, fun b hb => ?_, I.bs, Nat.le_trans I.ok.bsz I.sz, fun b o e hb => ?_, fun b hb => ?_, I.stack, I.stkFree⟩,
    rfl, I.bare, ?_, ⟨m, hns, fun i x v e1 e2 e3 => ?_⟩, fun x c e => ?_, ?_, fun x c e => ?_, fun p hp => absurd (show p ∈ ([] : List (Addr × Obj)) from hp) (by simp), ?_, ?_⟩
  · exact hCle
  · cases e
  · obtain ⟨⟨f0, f1, f2, f3, f4, f5⟩, lt⟩ := hf b hb
    exact ⟨(below b lt).1, fun x c e => f4 x c (hcl x c e)⟩
  · obtain ⟨⟨f0, f1, f2, f3, f4, f5⟩, lt⟩ := hf b hb
    rcases f3 with z | z
    · exact I.ok.noex b o e z
    · exact Nat.lt_irrefl _ (Nat.lt_of_lt_of_le (Heap.lt_size e) (Nat.le_trans I.ok.bsz z))
  · obtain ⟨⟨f0, f1, f2, f3, f4, f5⟩, lt⟩ := hf b hb
    exact fun z => (List.mem_cons.mp (I.stkSub b z)).elim f1 f2
  · exact Un.laid hk (Nat.le_refl _) accn
  · -- a visible name of the frame around
    have hi : ¬ i < own.length := fun hi => by
      unfold pick at e2
      rw [List.getElem?_append_left (by simpa using hi), List.getElem?_replicate] at e2
      split at e2 <;> cases e2
    unfold pick at e2
    rw [List.getElem?_append_right (by simpa using hi), List.length_replicate] at e2
    have e1 : (own ++ js.map (fun j => X.N.getD j ""))[i]? = some x := e1
    rw [List.getElem?_append_right (by omega)] at e1
    rw [List.getElem?_map] at e1 e2
    cases ej : js[i - own.length]? with
    | none => rw [ej] at e1; cases e1
    | some j =>
      rw [ej] at e1 e2
      have e1 : X.N.getD j "" = x := Option.some.inj e1
      have e2 : (σ[j]?).join = some v := Option.some.inj e2
      have e2' : σ[j]? = some (some v) := by
        cases q : σ[j]? with
        | none => rw [q] at e2; cases e2
        | some o => rw [q] at e2; have : o = some v := e2; rw [this]
      have hj : j < X.N.length := by
        have := (List.getElem?_eq_some_iff.mp e2').1
        rw [I.len] at this; exact this
      have e1' : X.N[j]? = some x := by
        rw [← e1, List.getD_eq_getElem?_getD, List.getElem?_eq_getElem hj]; rfl
      have e3 : Vis (relabel scope X.env) x := e3
      have hfr : (x, NameKind.free) ∈ scope.names := by
        rcases e3 with e3 | e3 | e3
        · obtain ⟨k, q1, q2⟩ := relabel_lookup e3
          rcases q2 with q2 | ⟨_, q2⟩
          · subst q2
            exact absurd (e1 ▸ q1) (S.js j (List.mem_of_getElem? ej))
          · cases q2
        · exact kinds x (.inl e3)
        · exact kinds x (.inr e3)
      have hkind := S.free _ hfr rfl
      obtain ⟨m0, hn0, hl0⟩ := I.loc
      have hv : Vis X.env.scope x := by
        rcases hkind with z | z
        · exact .inr (.inl z)
        · exact .inr (.inr z)
      obtain ⟨u, r, lk⟩ := hl0 j x v e1' e2' hv
      refine ⟨u, r, ?_⟩
      rcases lk with ⟨z, _⟩ | ⟨_, c, ec, hc⟩
      · rcases hkind with q | q <;> (rw [z] at q; cases q)
      · obtain ⟨c', ec'⟩ := hcl2 x hfr
        have : c' = c := by have := hcl x c' ec'; rw [ec] at this; cases this; rfl
        subst this
        refine .inr ⟨?_, c', ec', ?_⟩
        · rcases e3 with e3 | e3 | e3
          · obtain ⟨k, q1, q2⟩ := relabel_lookup e3
            rcases q2 with q2 | ⟨_, q2⟩
            · subst q2
              exact absurd (e1 ▸ q1) (S.js j (List.mem_of_getElem? ej))
            · cases q2
          · exact .inl e3
          · exact .inr e3
        · obtain ⟨oc, hoc, hd⟩ := hc
          exact ⟨oc, hk _ _ hoc, hd⟩
  · obtain ⟨v, oc, hoc, hd⟩ := I.cell x c (hcl x c e)
    exact ⟨v, oc, hk _ _ hoc, hd⟩
  · show upd H s.heap.objs.size (.lst []) C = none
    rw [upd_ne hCne]
    exact I.hok.fresh hCle
  · obtain ⟨v, oc, hoc, hd⟩ := I.cell x c (hcl x c e)
    rw [upd_ne (below c (Heap.lt_size hoc)).2]
    exact I.freeC x c (hcl x c e)
  · refine I.hok.laid hk (Nat.le_refl _) ⟨by show 0 ≤ sizeLine; exact Nat.zero_le _, [], 0, .nil, ?_⟩
    exact hn
  · unfold pick
    show _ = (own ++ js.map (fun j => X.N.getD j "")).length
    rw [List.length_append, List.length_append, List.length_replicate, List.length_map, List.length_map]
end
end L2

namespace L2
open PySem PySem.Spec PyProof.Rows

/-- the tests of a clause -/
noncomputable def PIfs (X : Cx) (ifs : List Expr) (t : TT) : Prop :=
  ∀ (pins : List (Addr × Obj)) (s : Shared) (σ : St) (H : Hp) (Q : Bool → Hp → Prop), Inv X pins σ H s → t σ H Q →
    wpAny (model X.prog X.w) X.A (forIn ifs true fun c r => if r = true then do let ok ← isTrue c X.env (eval c X.env); pure (ForInStep.yield ok) else pure (ForInStep.yield r)) (TP X pins σ Q) X.xe s
noncomputable def tYes : TT := fun _ H Q => Q true H
theorem pifs_nil {X : Cx} : PIfs X [] tYes := fun _ _ _ H _ I h => wpAny_tests_nil ⟨H, I, h⟩
theorem pifs_one {X : Cx} {c : Expr} {t : TT} (h : PT X c t) : PIfs X [c] t := fun pins s σ H Q I hw => wpAny_tests_one (h pins s σ H Q I hw)

/-- the reading of a comprehension; acc: the new list; W: by the turn and a measure -/
noncomputable def tCompR (n : Nat) (js : List Nat) (g : TG) (c : TT) (te : TE) (J : It) (σ : St) (H1 : Hp) (Q : VK) : Prop :=
  ∀ acc, H1 acc = none → ∃ W : Nat → Nat → Hp → Prop, (∃ m, W 0 m (upd H1 acc (.lst []))) ∧ ∀ i m H, W i m H →
    (J.stop i H ∧ Q (.ref acc) H) ∨
    (J.go i H ∧ ∀ x H', J.yld i H x H' → g x (pick n js σ) H' fun σ2 H2 => Wk (pick n js σ) σ2 ∧ c σ2 H2 fun b H3 =>
      if b = true then te σ2 H3 fun y H4 => ∃ ys, H4 acc = some (.lst ys) ∧ ys.length < sizeLine ∧ ∃ m', m' < m ∧ W (i + 1) m' (upd H4 acc (.lst (ys ++ [y])))
      else ∃ m', m' < m ∧ W (i + 1) m' H3)
noncomputable def tComp (n : Nat) (js : List Nat) (wi : TI) (g : TG) (c : TT) (te : TE) : TE := fun σ H Q => wi σ H fun J H1 => tCompR n js g c te J σ H1 Q

section
variable {X : Cx} {scope : Scope} {own : List Str} {js : List Nat} {tg iter elt : Expr} {ifs : List Expr} {pos : Pos} {wi : TI} {g : TG} {c : TT} {te : TE}

/-- behind the block: the frame around again -/
theorem comp_leave {pins : List (Addr × Obj)} {σ σ' : St} {H H' : Hp} {s s' : Shared} {cl : List (Str × Addr)} {fp : List Addr} {C : Addr} (I : Inv X pins σ H s) (hf : ∀ b ∈ fp, FpOk X pins H b)
    (J : Inv (X.comp scope own js cl s H C fp) [] σ' H' s') : Inv X pins σ H' s' :=
  I.call' (ch := fp) J.os J.base J.hok J.bare fun b hb => by
    obtain ⟨f0, f1, f2, f3, f4, f5⟩ := hf b hb
    exact ⟨f3, f1, f4, f5⟩
theorem comp_gone {pins : List (Addr × Obj)} {σ σ1 : St} {H H' : Hp} {s s' : Shared} {C : Addr} {h' : Heap} (I : Inv X pins σ H s) (hC : s.heap.objs.size ≤ C) (J : Inv X pins σ1 H' s') (hn : H' C = none) (hs : Heap.SameBut C s'.heap h') : Inv X pins σ1 H' { s' with heap := h' } := by
  obtain ⟨f0, f1, f2, f3, f4, f5⟩ := I.fpOk hC hn
  exact J.turned (t' := s'.toks) (fun b o hb e => (hs.2 b hb).trans e) f0 f1 f3 f4 f5

theorem comp_core {pins : List (Addr × Obj)} {σ : St} {H : Hp} {s : Shared} {cl : List (Str × Addr)} {fp : List Addr} {it : Addr} {tn : Nat → Heap → Prop} {J : It} {Q : VK} {E : Value → Shared → Prop} {RR : Value → Addr → Result → Shared → Prop}
    (hc : X.calm = true) (S : CompScope X scope own js) (I : Inv X pins σ H s) (T : Turn X.prog X.w X.K tg J fp it tn) (t0 : tn 0 s.heap) (hf : ∀ b ∈ fp, FpOk X pins H b)
    (hcl : ∀ x c, cl.lookup x = some c → X.env.cells.lookup x = some c) (hcl2 : ∀ n, (n, NameKind.free) ∈ scope.names → ∃ c, cl.lookup n = some c)
    (hg : ∀ cl s H C fp, PG (X.comp scope own js cl s H C fp) tg g) (hi : ∀ cl s H C fp, PIfs (X.comp scope own js cl s H C fp) ifs c) (he : ∀ cl s H C fp, PE (X.comp scope own js cl s H C fp) elt te)
    (q : tCompR own.length js g c te J σ H Q)
    (hRR : ∀ acc C H' s', s.heap.objs.size ≤ C → Inv (X.comp scope own js cl s H C fp) [] (pick own.length js σ) H' s' → Q (.ref acc) H' → RR (.ref acc) C (.ok .next) s') :
    wpAny (model X.prog X.w) X.A (newList []) (fun acc s3 => wpAny (model X.prog X.w) X.A (newFunctionEnv scope X.env.globals cl [] X.env.qual none .none (some X.env)) (fun cenv s4 =>
      codeAny (model X.prog X.w) X.A (.compStart (.ListComp elt [⟨tg, iter, ifs, 0⟩] scope pos) 0 (.ref it) acc { cenv with scope := relabel scope X.env }) (RR acc cenv.locals) s4) E s3) E s := by
  refine wpAny_newObj_type (wpAny_newFunctionEnv S.cell (by intro y hy; simp at hy) (fun h1 hns1 hsb1 => ?_) S.kind)
  dsimp only at hns1 hsb1 ⊢
  generalize hH2 : s.heap.push { cls := .type "list", dict := none, data := .seq ([] : List Value).toArray } = H2 at hns1 hsb1 ⊢
  have hC : @Eq Nat H2.objs.size (s.heap.objs.size + 1) := by rw [← hH2, Heap.size_push]
  have hDC : s.heap.objs.size ≠ H2.objs.size := by rw [hC]; exact Nat.ne_of_lt (Nat.lt_succ_self _)
  have hCle : s.heap.objs.size ≤ H2.objs.size := by rw [hC]; exact Nat.le_succ _
  have old : ∀ b o, s.heap.get? b = some o → h1.get? b = some o := fun b o e => hsb1.extBut b o (by
    have := Heap.lt_size e
    exact Nat.ne_of_lt (Nat.lt_of_lt_of_le this hCle)) (Heap.get?_push_of_some _ (hH2 ▸ Heap.get?_push_of_some _ e))
  have hacc : h1.get? s.heap.objs.size = some { cls := .type "list", dict := none, data := .seq ([] : List Value).toArray } := hsb1.extBut _ _ hDC (Heap.get?_push_of_some _ (hH2 ▸ Heap.get?_push_size _ rfl))
  have hfl : ∀ b ∈ fp, FpOk X pins H b ∧ b < s.heap.objs.size := fun b hb => ⟨hf b hb, by
    obtain ⟨o, e, _⟩ := T.obj 0 s.heap t0 b hb
    exact Heap.lt_size e⟩
  obtain ⟨W, ⟨m0, w0⟩, turn⟩ := q s.heap.objs.size (I.hok.fresh (Nat.le_refl _))
  have I1 := comp_start (t1 := s.toks + ([] : List (Str × Value)).length) (o := { cls := .type "list" , data := .seq #[] }) S I hfl hcl hcl2 hC hns1 old hacc
  have t1 : tn 0 h1 := T.keep 0 s.heap h1 t0 fun b _ o e => old b o e
  have stat : ∀ {pins' : List (Addr × Obj)} {H' : Hp}, (∀ b ∈ fp, H' b = none) → (∀ p ∈ pins', p.1 ∉ fp) → ∀ b ∈ fp, FpOk (X.comp scope own js cl s H H2.objs.size fp) pins' H' b := fun hn hp b hb => by
    obtain ⟨⟨f0, f1, f2, f3, f4, f5⟩, lt⟩ := hfl b hb
    exact ⟨hn b hb, Nat.ne_of_lt (Nat.lt_of_lt_of_le lt hCle), fun z => (List.mem_cons.mp (I.stkSub b z)).elim f1 f2, .inl hb, fun x c e => f4 x c (hcl x c e), fun p hp' z => hp p hp' (z ▸ hb)⟩
  have fr0 : ∀ b ∈ fp, (upd H s.heap.objs.size (.lst [])) b = none := fun b hb => by
    obtain ⟨⟨f0, _⟩, lt⟩ := hfl b hb
    rw [upd_ne (Nat.ne_of_lt lt)]; exact f0
  have loop : ∀ s3 : Shared, s3 = { s with heap := h1, toks := s.toks + ([] : List (Str × Value)).length } →
      codeAny (model X.prog X.w) X.A (.compLoop (.ListComp elt [⟨tg, iter, ifs, 0⟩] scope pos) 0 (.ref it) (.ref s.heap.objs.size) (compEnvC scope cl H2.objs.size X.env)) (RR (.ref s.heap.objs.size) H2.objs.size) s3 := by
    rintro s3 rfl
    refine compLoop_any (fun n s' => ∃ i H', Inv (X.comp scope own js cl s H H2.objs.size fp) [] (pick own.length js σ) H' s' ∧ tn i s'.heap ∧ (∀ b ∈ fp, H' b = none) ∧ W i n H') ?_ m0 ⟨0, _, I1, t1, fr0, w0⟩
    rintro n s4 ⟨i, H4, I4, st4, fr4, w4⟩
    have noP : ∀ p ∈ ([] : List (Addr × Obj)), p.1 ∉ fp := fun p hp => nomatch hp
    rcases turn i n H4 w4 with ⟨stop, qn⟩ | ⟨go, step⟩
    · refine thn (T.done (X.comp scope own js cl s H H2.objs.size fp) rfl rfl rfl hc i [] s4 _ H4 (fun _ _ => False) I4 (stat fr4 noP) st4 stop) fun r s5 ⟨hr, I5⟩ => ?_
      subst hr
      exact hRR _ _ H4 s5 hCle I5 qn
    · refine thn (T.item (X.comp scope own js cl s H H2.objs.size fp) rfl rfl rfl hc i [] s4 _ H4 (fun _ _ => False) I4 (stat fr4 noP) st4 go) fun r s5 ⟨u, hr, h5⟩ => ?_
      subst hr
      refine thn h5 fun _ s6 ⟨x, H6, I6, r6, y6, st6, fr6⟩ => ?_
      have I6' := I6.pinned (stat fr6 noP) (T.obj _ _ st6)
      have again : ∀ {σ7 : St} {H7 : Hp} {s7 : Shared} {m' : Nat}, Wk (pick own.length js σ) σ7 → Inv (X.comp scope own js cl s H H2.objs.size fp) ([] ++ pinsAt fp s6.heap) σ7 H7 s7 → m' < n → W (i + 1) m' H7 →
          ∃ m, m < n ∧ ∃ i H', Inv (X.comp scope own js cl s H H2.objs.size fp) [] (pick own.length js σ) H' s7 ∧ tn i s7.heap ∧ (∀ b ∈ fp, H' b = none) ∧ W i m H' := fun {σ7 H7 s7 m'} wk I7 hm w7 => by
        refine ⟨m', hm, i + 1, H7, (I7.unpinned).weak wk.1 wk.2, T.keep _ _ _ st6 fun b hb o e => (I7.pin (b, o) (List.mem_append_right _ (List.mem_append_right _ (mem_pinsAt hb e)))).1, fun b hb => ?_, w7⟩
        obtain ⟨o, e, d⟩ := T.obj _ _ st6 b hb
        exact (I7.pin (b, o) (List.mem_append_right _ (List.mem_append_right _ (mem_pinsAt hb e)))).2.1
      refine thn (hg cl s H H2.objs.size fp _ s6 _ H6 x u _ I6' r6 (step x H6 y6)) fun _ s7 ⟨σ7, H7, I7, wk7, q7⟩ => ?_
      refine thn (hi cl s H H2.objs.size fp _ s7 σ7 H7 _ I7 q7) fun ok s8 ⟨H8, I8, q8⟩ => ?_
      cases ok with
      | false =>
        obtain ⟨m', hm, w8⟩ := (show ∃ m', m' < n ∧ W (i + 1) m' H8 from by simpa using q8)
        exact again wk7 I8 hm w8
      | true =>
        have q8 : te σ7 H8 fun y H4 => ∃ ys, H4 s.heap.objs.size = some (.lst ys) ∧ ys.length < sizeLine ∧ ∃ m', m' < n ∧ W (i + 1) m' (upd H4 s.heap.objs.size (.lst (ys ++ [y]))) := by simpa using q8
        refine thn (he cl s H H2.objs.size fp _ s8 σ7 H8 _ I8 q8) fun yv s9 ⟨y, H9, I9, r9, ys, hy, hz, m', hm, w9⟩ => ?_
        refine thn (mt_append (X := X.comp scope own js cl s H H2.objs.size fp) _ s9 σ7 H9 (.ref s.heap.objs.size) [y] (.ref s.heap.objs.size) [yv] (fun _ H' => W (i + 1) m' H') I9 rfl (.cons r9 .nil) ⟨_, ys, y, rfl, rfl, hy, hz, w9⟩) fun _ s10 ⟨_, H10, I10, _, w10⟩ => ?_
        exact again wk7 I10 hm w10
  exact codeAny_compStart_list (loop _ rfl) (T.self X.A 0 _ _ _ t1 (loop _ rfl))

theorem pe_comp {sc : Scope} {N : List Str} (own : List Str) (js : List Nat) (hsc : X.env.scope = sc) (hNN : X.N = N) (S0 : CompScopeN sc N scope js) (hc : X.calm = true) (hit : PI X tg iter wi)
    (hg : ∀ cl s H C fp, PG (X.comp scope own js cl s H C fp) tg g) (hi : ∀ cl s H C fp, PIfs (X.comp scope own js cl s H C fp) ifs c) (he : ∀ cl s H C fp, PE (X.comp scope own js cl s H C fp) elt te)
    (hs : ∀ x, foldedSetIterable iter X.env x = pure x := by intro _; rfl) : PE X (.ListComp elt [⟨tg, iter, ifs, 0⟩] scope pos) (tComp own.length js wi g c te) := by
  intro pins s σ H Q I h
  have S : CompScope X scope own js := S0.cs hsc hNN
  obtain ⟨cl, hcl0, hcl, hcl2⟩ := closure_ok (env := X.env) (scope := scope) fun n hn => I.ok.has n (S.free _ hn rfl)
  rw [eval_ListComp]
  refine wpAny_comprehension_free (use := none) rfl hs hcl0 S.kind S.names (thn (hit pins s σ H _ I h) fun xv s1 h1 => thn h1 fun itv s2 h2 => ?_)
  obtain ⟨it, fp, tn, J, H2, e, I2, T, st2, f2, q2⟩ := h2
  subst e
  refine comp_core (RR := fun acc C => compPost (model X.prog X.w) X.A X.xe none (EP X pins σ Q) acc C) hc S I2 T st2 f2 hcl hcl2 hg hi he q2 fun acc C H' s' hC J' q' => ?_
  obtain ⟨m, hn, _⟩ := J'.loc
  exact ⟨m, hn, fun h' hs' => ⟨.ref acc, H', comp_gone I2 hC (comp_leave I2 f2 J') J'.free hs', rfl, q'⟩⟩

end
end L2

namespace L2
open PySem PySem.Spec PyProof.Rows

/-! ### enumerate over a list, its pairs taken apart by the target -/
noncomputable def Ite (K : PySem.W.Frag) (a : Addr) : It :=
  ⟨fun i H => ∃ xs x, SqL K H a xs ∧ xs[i]? = some x, fun i H x H' => ∃ p v, x = .ref p ∧ H p = none ∧ H' = upd H p (.tup [.int (i : Nat), v]) ∧ ∀ xs, SqL K H a xs → xs[i]? = some v, fun i H => ∃ xs, SqL K H a xs ∧ xs.length ≤ i⟩
theorem turn_enum {P : Program} {w : World} {K : PySem.W.Frag} {es : List Expr} {k : _} {pos : Pos} (a e it : Addr) (hne : e ≠ it) : Turn P w K (.Tuple es k pos) (Ite K a) [e, it] e (fun i h => (∃ old, IsEnum h e it (i : Nat) old) ∧ h.IsListIter it a i) where
  mem := by simp
  obj := fun i h st b hb => by
    obtain ⟨⟨old, he⟩, o, e1, c, d⟩ := st
    rcases List.mem_cons.mp hb with q | q
    · subst q
      exact ⟨_, he, fun v z => by
        have z' : Data.fields _ = Data.cell v := z
        cases z'⟩
    · have q : b = it := by simpa using q
      subst q
      exact ⟨o, e1, fun v z => by rw [d] at z; cases z⟩
  keep := fun i h h' st k => ⟨by obtain ⟨⟨old, he⟩, _⟩ := st; exact ⟨old, k e (by simp) _ he⟩, st.2.at fun o q => k it (by simp) o q⟩
  item := by
    intro X hP hw hK hc i pins s σ H E I hf st hg
    subst hP hw hK
    obtain ⟨xs, x, hq, hx⟩ := hg
    obtain ⟨its, rv, p, hz⟩ := I.list hq
    obtain ⟨u, hu, ru⟩ := rv.get hx
    obtain ⟨⟨old, he⟩, hit⟩ := st
    refine wpAny_pyNext_enum_item he hit p.isList (x := u) (by simpa using hu) hne fun h' ho hit' ht hsz hk => ?_
    refine ⟨_, rfl, wpAny_letOwnedTupleGo_enum ho fun h2 he2 hs2 => ?_⟩
    have hTe : s.heap.objs.size ≠ e := Nat.ne_of_gt (Heap.lt_size he)
    have hk2 : ∀ b o, b ∉ [e, it] → s.heap.get? b = some o → h2.get? b = some o := fun b o hb q => (hs2.2 b (fun z => hb (by simp [z]))).trans (hk b o (fun z => hb (by simp [z])) (fun z => hb (by simp [z])) q)
    have hT : h2.get? s.heap.objs.size = some { cls := .type "tuple", data := .seq #[.int i s.toks, u] } := (hs2.2 _ hTe).trans ht
    have hTn : H s.heap.objs.size = none := I.hok.fresh (Nat.le_refl _)
    have ne : ∀ b o, H b = some o → b ≠ s.heap.objs.size := fun b o q z => by rw [z, hTn] at q; cases q
    have nch : ∀ b o, H b = some o → b ∉ [e, it] := fun b o q z => by rw [(hf b z).1] at q; cases q
    have up : ∀ b o, H b = some o → upd H s.heap.objs.size (.tup [.int (i : Nat), x]) b = some o := fun b o q => by rw [upd_ne (ne b o q)]; exact q
    have I1 : Inv X pins σ (upd H s.heap.objs.size (.tup [.int (i : Nat), x])) { s with heap := h2, toks := s.toks + 1 } := by
      refine I.step (g' := s.gens) (d' := s.drawn) (ch := [e, it]) (fun b hb => ?_) (fun b o _ _ hb q _ => hk2 b o hb q) (fun b o _ _ hb q _ => ⟨o.slots, hk2 b o hb q⟩) (fun b o hb q n => ?_) (fun b o hb q => ⟨o, hk2 b o hb q⟩)
        (fun b xs q => up b _ q) (fun b o u q => up b _ q) (fun b ps q => ⟨#[], by rw [up b _ q]; simp⟩) (fun m hm => ?_) (fun b u q => ?_) I.bare
      · obtain ⟨f0, f1, f2, f3, f4, f5⟩ := hf b hb
        exact ⟨f3, f1, f4, f5⟩
      · rw [upd_ne (Nat.ne_of_lt (Heap.lt_size q))]; exact n
      · obtain ⟨o, es, ep, ho, r⟩ := hm
        exact ⟨o, es, ep, hk2 _ o (fun z => (hf _ z).2.1 rfl) ho, r⟩
      · by_cases hb : b = s.heap.objs.size
        · subst hb
          rw [upd_same] at q
          cases q
          exact ⟨by show 2 ≤ sizeLine; decide, [.int i s.toks, u], .cons ⟨_, rfl⟩ (.cons ru .nil), _, hT, rfl, 0, rfl⟩
        · rw [upd_ne hb] at q
          refine (I.hok b u q).stay (fun c v hc q' => hk2 c v ?_ q') (fun c q' => up c _ q') fun c xs q' => up c _ q'
          rcases hc with z | z
          · subst z; exact nch _ _ q
          · exact nch _ _ z
    refine ⟨.ref s.heap.objs.size, _, I1, rfl, ⟨_, x, rfl, hTn, rfl, fun ys hy => by rw [I.list_inj hy hq]; exact hx⟩, ⟨⟨u, by simpa using he2⟩, ?_⟩, fun b hb => ?_⟩
    · exact hit'.extBut hs2.extBut (Ne.symm hne)
    · have hb' : b ≠ s.heap.objs.size := by
        rcases List.mem_cons.mp hb with q | q
        · rw [q]; exact hTe.symm
        · have q : b = it := by simpa using q
          obtain ⟨o, q1, _⟩ := hit
          rw [q]; exact Nat.ne_of_lt (Heap.lt_size q1)
      rw [upd_ne hb']; exact (hf b hb).1
  done := by
    intro X hP hw hK hc i pins s σ H E I hf st hg
    subst hP hw hK
    obtain ⟨xs, hq, hx⟩ := hg
    obtain ⟨its, rv, p, hz⟩ := I.list hq
    obtain ⟨⟨old, he⟩, hit⟩ := st
    obtain ⟨f0, f1, f2, f3, f4, f5⟩ := hf it (by simp)
    have hl := rv.length
    exact wpAny_pyNext_enum_end (I.ok.hd hc) he hit p.isList (by simp; omega) fun h' eb => ⟨rfl, I.turned (t' := s.toks) (fun b o hb e => eb b o hb e) f0 f1 f3 f4 f5⟩
  self := fun _ _ _ _ _ st h => by
    obtain ⟨⟨old, he⟩, _⟩ := st
    exact wpAny_pyIter_enum he h

section
variable {X : Cx}
noncomputable def iEnum (K : PySem.W.Frag) (ta : TA) : TI := fun σ H R => ta σ H fun vs H1 => ∃ a, vs = [.ref a] ∧ (∃ xs, SqL K H1 a xs) ∧ R (Ite K a) H1
theorem pi_enum {es : List Expr} {k : _} {tpos : Pos} {a : Expr} {ta : TA} {p pos : Pos} (hg : Gl X "enumerate") (hm : X.mg "enumerate" = none) (ha : PA X [a] ta) (hs : starEach [a] X.env = [(false, eval a X.env)] := by rfl) : PI X (.Tuple es k tpos) (.Call (.Name "enumerate" p) [a] [] pos) (iEnum X.K ta) := by
  intro pins s σ H R I h
  refine Call_ (ld_blt I hg hm boot_enumerate (PyProof.Rows.callWith_type1 (thn (ha pos pins s σ H _ I h) fun us s1 ⟨vs, H1, I1, r1, q1⟩ => ?_) hs rfl))
  obtain ⟨l, e, ⟨xs, hq⟩, q⟩ := q1
  subst e
  obtain ⟨u, rfl, ru⟩ := r1.one
  cases ru
  obtain ⟨its, rv, pl, hz⟩ := I1.list hq
  refine call_enumerate_list pl.isList fun h' he hit hsz hk => wpAny_pyIter_enum (i := 0) (old := .none) (by simpa using he) ?_
  have I2 : Inv X pins σ H1 { s1 with heap := h' } := I1.kept (t' := s1.toks) hk
  refine ⟨s1.heap.objs.size + 1, [s1.heap.objs.size + 1, s1.heap.objs.size], _, _, H1, rfl, I2, turn_enum l _ _ (Nat.succ_ne_self _), ⟨⟨.none, by simpa using he⟩, hit⟩, fun b hb => ?_, q⟩
  have hb' : s1.heap.objs.size ≤ b := by
    rcases List.mem_cons.mp hb with q | q
    · rw [q]; exact Nat.le_succ _
    · have q : b = s1.heap.objs.size := by simpa using q
      rw [q]; exact Nat.le_refl _
  exact I1.fpOk hb' (I1.hok.fresh hb')

/-! ### range(lo, hi, 2) and the like -/
noncomputable def Itr3 (lo c : Int) (n : Nat) : It := ⟨fun i _ => i < n, fun i H x H' => H' = H ∧ x = .int (lo + i * c), fun i _ => n ≤ i⟩
noncomputable def iRng3 (ta : TA) : TI := fun σ H R => ta σ H fun vs H1 => ∃ (i j c : Int), vs = [.int i, .int j, .int c] ∧ (c ≠ 0 ∧ c.natAbs < 1073741824) ∧ Builtin.Range.small i j c = true ∧ 0 ≤ Builtin.Range.rangeSize i j c ∧ R (Itr3 i c (Builtin.Range.rangeSize i j c).toNat) H1
/-! ### data: what a value is, to its depth -/
mutual
inductive DR (K : PySem.W.Frag) (H : Hp) : V → PyData → Prop
  | non : DR K H .non .none
  | bl (b : Bool) : DR K H (.bl b) (.bool b)
  | int (i : Int) : DR K H (.int i) (.int i)
  | str (x : Str) : DR K H (.str x) (.str x)
  | lst {a : Addr} {xs : List V} {ds : List PyData} : SqL K H a xs → DRs K H xs ds → DR K H (.ref a) (.list ds)
  | tup {a : Addr} {xs : List V} {ds : List PyData} : SqT K H a xs → DRs K H xs ds → DR K H (.ref a) (.tuple ds)
inductive DRs (K : PySem.W.Frag) (H : Hp) : List V → List PyData → Prop
  | nil : DRs K H [] []
  | cons {x : V} {d : PyData} {xs : List V} {ds : List PyData} : DR K H x d → DRs K H xs ds → DRs K H (x :: xs) (d :: ds)
end
mutual
theorem DR.reads {pins : List (Addr × Obj)} {σ : St} {H : Hp} {s : Shared} (I : Inv X pins σ H s) : ∀ {x : V} {d : PyData} {u : Value}, DR X.K H x d → RelV x u → ∃ as, Reads s.heap u d as
  | _, _, _, .non, r => by cases (show _ = Value.none from r); exact ⟨_, .none⟩
  | _, _, _, .bl b, r => by cases (show _ = Value.bool b from r); exact ⟨_, .bool b⟩
  | _, _, _, .int i, r => by obtain ⟨t, rfl⟩ := r; exact ⟨_, .int i t⟩
  | _, _, _, .str x, r => by obtain ⟨t, rfl⟩ := r; exact ⟨_, .str x t⟩
  | _, _, _, .lst (a := a) h hs, r => by
    cases (show _ = Value.ref a from r)
    obtain ⟨its, rv, p, hz⟩ := I.list h
    obtain ⟨o, h1, h2, n, h3⟩ := p.isList
    obtain ⟨as, ra⟩ := DRs.reads I hs rv
    exact ⟨_, .list h1 h2 h3 (by simpa using ra)⟩
  | _, _, _, .tup (a := a) h hs, r => by
    cases (show _ = Value.ref a from r)
    obtain ⟨its, rv, p, hz⟩ := I.tuple h
    obtain ⟨o, h1, h2, n, h3⟩ := p
    obtain ⟨as, ra⟩ := DRs.reads I hs rv
    exact ⟨_, .tuple h1 h2 h3 (by simpa using ra)⟩
theorem DRs.reads {pins : List (Addr × Obj)} {σ : St} {H : Hp} {s : Shared} (I : Inv X pins σ H s) : ∀ {xs : List V} {ds : List PyData} {us : List Value}, DRs X.K H xs ds → Vals xs us → ∃ as, ReadsAll s.heap us ds as
  | _, _, _, .nil, r => by cases r; exact ⟨_, .nil⟩
  | _, _, _, .cons h hs, r => by
    cases r with
    | cons r1 r2 =>
      obtain ⟨as, ra⟩ := DR.reads I h r1
      obtain ⟨bs, rb⟩ := DRs.reads I hs r2
      exact ⟨_, .cons ra rb⟩
end
open PySem.SeqAt in
noncomputable def rEqD (K : PySem.W.Frag) (neg : Bool) : R2 := fun x y H Q => ∃ d e, DR K H x d ∧ DR K H y e ∧ shaped d = true ∧ shaped e = true ∧ Q (.bl (if neg then !PyData.eqv d e else PyData.eqv d e)) H
theorem op_eqD {k : Nat} (hr : Room k X.A) : OpR X (compareOp .Eq) (rEqD X.K false) := by
  intro pins s σ H x y v u Q I rx ry h
  obtain ⟨d, e, h1, h2, s1, s2, q⟩ := h
  obtain ⟨as, ra⟩ := h1.reads I rx
  obtain ⟨bs, rb⟩ := h2.reads I ry
  exact eq_dataH ra rb s1 s2 hr.units ⟨.bl (PyData.eqv d e), H, I, rfl, q⟩
theorem op_neD {k : Nat} (hr : Room k X.A) : OpR X (compareOp .NotEq) (rEqD X.K true) := by
  intro pins s σ H x y v u Q I rx ry h
  obtain ⟨d, e, h1, h2, s1, s2, q⟩ := h
  obtain ⟨as, ra⟩ := h1.reads I rx
  obtain ⟨bs, rb⟩ := h2.reads I ry
  exact ne_dataH ra rb s1 s2 hr.units ⟨.bl (!PyData.eqv d e), H, I, rfl, q⟩

/-! ### isinstance(x, T), T a built-in type -/
noncomputable def rIsI (K : PySem.W.Frag) : List V → Hp → VK → Prop := fun xs H Q => ∃ x t T b, xs = [x, .ty T] ∧ TyOf K H x t ∧ PySem.W.kitOne K t (.type T) = some b ∧ Q (.bl b) H
theorem call_isinst : CallR X (.builtin "isinstance") (rIsI X.K) := by
  intro pins s σ H xs us Q I r h
  obtain ⟨x, t, T, b, rfl, ty, e, q⟩ := h
  obtain ⟨u, w', rfl, r1, r2⟩ := vals2 r
  cases (show w' = Value.type T from r2)
  exact isinst_ok I r1 ty e fun tk => ⟨.bl b, H, I.tok _, rfl, q⟩
theorem kit_bb (K : PySem.W.Frag) : PySem.W.kitOne K (.type "bool") (.type "bool") = some true := rfl
/-! ### all(xs), xs a list of truths -/
noncomputable def rAll (K : PySem.W.Frag) : List V → Hp → VK → Prop := fun xs H Q => ∃ (p : Addr) (bs : List Bool), xs = [.ref p] ∧ SqL K H p (bs.map V.bl) ∧ Q (.bl (bs.all id)) H
end

theorem Same.tup {K : PySem.W.Frag} {H H' : Hp} {a : Addr} {xs : List V} (e : Same H H') (h : SqT K H a xs) : SqT K H' a xs := by
  rcases h with (h | ⟨o, h⟩) | h
  · exact .inl (.inl (e _ _ h))
  · exact .inl (.inr ⟨o, e _ _ h⟩)
  · exact .inr h
mutual
theorem DR.same {K : PySem.W.Frag} {H H' : Hp} (e : Same H H') : ∀ {x : V} {d : PyData}, DR K H x d → DR K H' x d
  | _, _, .non => .non
  | _, _, .bl b => .bl b
  | _, _, .int i => .int i
  | _, _, .str x => .str x
  | _, _, .lst h hs => .lst (e.seq h) (DRs.same e hs)
  | _, _, .tup h hs => .tup (e.tup h) (DRs.same e hs)
theorem DRs.same {K : PySem.W.Frag} {H H' : Hp} (e : Same H H') : ∀ {xs : List V} {ds : List PyData}, DRs K H xs ds → DRs K H' xs ds
  | _, _, .nil => .nil
  | _, _, .cons h hs => .cons (DR.same e h) (DRs.same e hs)
end
theorem DRs.ints {K : PySem.W.Frag} {H : Hp} : ∀ ns : List Int, DRs K H (ns.map V.int) (ns.map PyData.int)
  | [] => .nil
  | n :: ns => .cons (.int n) (DRs.ints ns)
theorem same_new {H : Hp} {p : Addr} (h : H p = none) (o : HO) : Same H (upd H p o) := fun b u q => by rw [upd_ne (ne_of_none q h)]; exact q
end L2

namespace L2
open PySem PySem.Spec PyProof.Rows

/-! ### a def of the text with its promise, in one word -/
structure Dfn (P : Program) (w : World) (K : PySem.W.Frag) (mg : Str → Option Value) (base : Heap) (k : Nat) (x : Str) (ps : List Str) (sp : Sp) : Prop where
  ex : ∃ f fd, FnOk P w K mg base CX0 k f fd ps sp ∧ Binds K fd ps [] ∧ PySem.W.keepIn K (.ref f) = true ∧ mg x = some (.ref f)
section
variable {P : Program} {w : World} {K : PySem.W.Frag} {mg : Str → Option Value} {base : Heap}
theorem Dfn.mono {j k : Nat} {x : Str} {ps : List Str} {sp : Sp} (D : Dfn P w K mg base j x ps sp) (h : j ≤ k) : Dfn P w K mg base k x ps sp := by
  obtain ⟨f, fd, F, b, kp, m⟩ := D.ex
  exact ⟨f, fd, F.mono h, b, kp, m⟩
theorem Dfn.of {k : Nat} {x qual : Str} {st : Stmt} {f : Addr} {fd : FuncData} {N ps : List Str} {sp : Sp} (F : Fun K x qual st f fd) (b : Binds K fd ps []) (m : mg x = some (.ref f)) (S : FnScope N ps (defScope st)) (len : ∀ vs H Q E, sp vs H Q E → vs.length = ps.length)
    (hbody : ∀ (cdv : Value) (A : Around) (outer : List Env) (s : Shared) (H : Hp) (vs : List V) (Q : VK) (E : XK), Room k (A.deeper (envOfC qual (defScope st) s.heap.objs.size f cdv)) → sp vs H Q E →
      ∃ t, PSs (cxOf CX0 P w K mg base N qual (defScope st) f cdv A outer s H E).nox (defBody st) t ∧ t { nx := fun _ H' => Q .non H', rt := Q } (start N vs) H) : Dfn P w K mg base (k + 1) x ps sp :=
  ⟨f, fd, F.ok S len hbody, b, F.kp, m⟩
end
theorem pe_def {X : Cx} {k j : Nat} {x : Str} {ps : List Str} {sp : Sp} {e : Expr} {es : List Expr} {t : TA} {p pos : Pos} (D : Dfn X.prog X.w X.K X.mg X.base k x ps sp) (hr : Room j X.A) (hj : k ≤ j) (hg : Gl X x) (ha : PA X (e :: es) t)
    (hdb : (x == ("__debug__" : Str)) = false := by decide) (he : starEach (e :: es) X.env = (false, eval e X.env) :: starEach es X.env := by rfl) (hpl : (backTo pos (starEach es X.env)).any (·.1) = false := by rfl) :
    PE X (.Call (.Name x p) (e :: es) [] pos) (tCall sp [] E0 t) := by
  obtain ⟨f, fd, F, b, kp, m⟩ := D.ex
  exact pe_call F (hr.mono hj) hg m kp b .nil pass0 ha hdb he hpl

/-! ### comprehensions by what they come to: F i is the list behind i turns, nothing else changes but what is new -/
noncomputable def CW (n : Nat) (acc : Addr) (Pv : Nat → List V → Hp → Prop) : Nat → Nat → Hp → Prop := fun i m H => m = n - i ∧ i ≤ n ∧ ∃ ys, H acc = some (.lst ys) ∧ Pv i ys H
noncomputable def CSkip (n : Nat) (acc : Addr) (Pv : Nat → List V → Hp → Prop) (i : Nat) (H : Hp) : Prop := ∃ m', m' < n - i ∧ CW n acc Pv (i + 1) m' H
noncomputable def CPut (n : Nat) (acc : Addr) (Pv : Nat → List V → Hp → Prop) (i : Nat) (y : V) (H : Hp) : Prop := ∃ ys, H acc = some (.lst ys) ∧ ys.length < sizeLine ∧ ∃ m', m' < n - i ∧ CW n acc Pv (i + 1) m' (upd H acc (.lst (ys ++ [y])))
noncomputable def CP (H1 : Hp) (F : Nat → List V) : Nat → List V → Hp → Prop := fun i ys H => Same H1 H ∧ ys = F i
section
variable {n i : Nat} {acc : Addr} {H1 H H' : Hp} {F : Nat → List V} {y : V}
theorem cput (hlt : i < n) (hacc : H1 acc = none) (S : Same H1 H) (h0 : H acc = some (.lst (F i))) (s : Same H H') (e : F (i + 1) = F i ++ [y]) (hz : (F i).length < sizeLine) : CPut n acc (CP H1 F) i y H' :=
  ⟨F i, s acc _ h0, hz, n - (i + 1), by omega, rfl, hlt, F i ++ [y], upd_same, fun b o q => by
    rw [upd_ne (ne_of_none q hacc)]; exact s b o (S b o q), e.symm⟩
theorem cskip (hlt : i < n) (S : Same H1 H) (h0 : H acc = some (.lst (F i))) (s : Same H H') (e : F (i + 1) = F i) : CSkip n acc (CP H1 F) i H' :=
  ⟨n - (i + 1), by omega, rfl, hlt, F i, s acc _ h0, S.trans s, e.symm⟩
end
section
variable {K : PySem.W.Frag} {m : Nat} {js : List Nat} {g : TG} {c : TT} {te : TE} {σ : St} {H1 : Hp} {Q : VK}
theorem comp_list {a : Addr} {xs : List V} (hx : SqL K H1 a xs) (F : Nat → List V) (hF : F 0 = [])
    (turn : ∀ acc i x H, H1 acc = none → i < xs.length → xs[i]? = some x → Same H1 H → H acc = some (.lst (F i)) → g x (pick m js σ) H fun σ2 H2 => Wk (pick m js σ) σ2 ∧ c σ2 H2 fun b H3 => if b = true then te σ2 H3 fun y H4 => CPut xs.length acc (CP H1 F) i y H4 else CSkip xs.length acc (CP H1 F) i H3)
    (hQ : ∀ acc H, H1 acc = none → Same H1 H → H acc = some (.lst (F xs.length)) → Q (.ref acc) H) : tCompR m js g c te (Itl K a) σ H1 Q := by
  intro acc hacc
  refine ⟨CW xs.length acc (CP H1 F), ⟨_, rfl, Nat.zero_le _, [], upd_same, same_new hacc _, hF.symm⟩, ?_⟩
  rintro i m' H ⟨rfl, hi, ys, h0, S, rfl⟩
  have q := S.seq hx
  by_cases hlt : i < xs.length
  · refine .inr ⟨⟨xs, xs[i], q, by simp [hlt]⟩, fun x H' y => ?_⟩
    obtain ⟨e, y⟩ := y
    subst e
    exact turn acc i x _ hacc hlt (y xs q) S h0
  · have e : i = xs.length := by omega
    subst e
    exact .inl ⟨⟨xs, q, Nat.le_refl _⟩, hQ acc H hacc S h0⟩
theorem comp_enum {a : Addr} {xs : List V} (hx : SqL K H1 a xs) (F : Nat → List V) (hF : F 0 = [])
    (turn : ∀ acc i x p H, H1 acc = none → i < xs.length → xs[i]? = some x → Same H1 H → H acc = some (.lst (F i)) → H p = none → g (.ref p) (pick m js σ) (upd H p (.tup [.int (i : Nat), x])) fun σ2 H2 => Wk (pick m js σ) σ2 ∧ c σ2 H2 fun b H3 => if b = true then te σ2 H3 fun y H4 => CPut xs.length acc (CP H1 F) i y H4 else CSkip xs.length acc (CP H1 F) i H3)
    (hQ : ∀ acc H, H1 acc = none → Same H1 H → H acc = some (.lst (F xs.length)) → Q (.ref acc) H) : tCompR m js g c te (Ite K a) σ H1 Q := by
  intro acc hacc
  refine ⟨CW xs.length acc (CP H1 F), ⟨_, rfl, Nat.zero_le _, [], upd_same, same_new hacc _, hF.symm⟩, ?_⟩
  rintro i m' H ⟨rfl, hi, ys, h0, S, rfl⟩
  have q := S.seq hx
  by_cases hlt : i < xs.length
  · refine .inr ⟨⟨xs, xs[i], q, by simp [hlt]⟩, fun x H' y => ?_⟩
    obtain ⟨p, v, e, hp, e2, y⟩ := y
    subst e e2
    exact turn acc i v p _ hacc hlt (y xs q) S h0 hp
  · have e : i = xs.length := by omega
    subst e
    exact .inl ⟨⟨xs, q, Nat.le_refl _⟩, hQ acc H hacc S h0⟩
theorem comp_range {lo : Int} {n : Nat} (F : Nat → List V) (hF : F 0 = [])
    (turn : ∀ acc i H, H1 acc = none → i < n → Same H1 H → H acc = some (.lst (F i)) → g (.int (lo + (i : Nat))) (pick m js σ) H fun σ2 H2 => Wk (pick m js σ) σ2 ∧ c σ2 H2 fun b H3 => if b = true then te σ2 H3 fun y H4 => CPut n acc (CP H1 F) i y H4 else CSkip n acc (CP H1 F) i H3)
    (hQ : ∀ acc H, H1 acc = none → Same H1 H → H acc = some (.lst (F n)) → Q (.ref acc) H) : tCompR m js g c te (Itr lo n) σ H1 Q := by
  intro acc hacc
  refine ⟨CW n acc (CP H1 F), ⟨_, rfl, Nat.zero_le _, [], upd_same, same_new hacc _, hF.symm⟩, ?_⟩
  rintro i m' H ⟨rfl, hi, ys, h0, S, rfl⟩
  by_cases hlt : i < n
  · refine .inr ⟨hlt, fun x H' y => ?_⟩
    obtain ⟨e, y⟩ := y
    subst e y
    exact turn acc i _ hacc hlt S h0
  · have e : i = n := by omega
    subst e
    exact .inl ⟨Nat.le_refl _, hQ acc H hacc S h0⟩
end
/-! ### small things -/
theorem int_eq {i j : Int} : decide (V.int i = V.int j) = (i == j) := dec_int
theorem atI_int {ns : List Int} {k : Int} (h0 : 0 ≤ k) (h : k < (ns.length : Int)) : atI (ns.map V.int) k = some (.int (ns.getD k.toNat 0)) := by
  have hk : k.toNat < ns.length := by omega
  have ek : k = ((k.toNat : Nat) : Int) := by omega
  have q : atI (ns.map V.int) ((k.toNat : Nat) : Int) = some (.int ns[k.toNat]) := atI_nat (by rw [List.getElem?_map, List.getElem?_eq_getElem hk] <;> rfl)
  rw [← ek] at q
  rw [q, List.getD_eq_getElem?_getD, List.getElem?_eq_getElem hk]; rfl
theorem ints_get {ns : List Int} {i : Nat} {x : V} (h : (ns.map V.int)[i]? = some x) : x = .int (ns.getD i 0) := by
  rw [List.getElem?_map] at h
  cases e : ns[i]? with
  | none => rw [e] at h; cases h
  | some n => rw [e] at h; cases h; rw [List.getD_eq_getElem?_getD, e]; rfl
theorem small {n : Nat} (h : n ≤ 1000) : n ≤ sizeLine := Nat.le_of_lt (small1000 h)
/-- a book: a tuple of how many things and the list of the baskets -/
noncomputable def Bk (K : PySem.W.Frag) (H : Hp) (b : Addr) (many : Int) (bs : List Int) : Prop := ∃ l, SqT K H b [.int many, .ref l] ∧ SqL K H l (bs.map V.int)
theorem Bk.same {K : PySem.W.Frag} {H H' : Hp} {b : Addr} {many : Int} {bs : List Int} (e : Same H H') (h : Bk K H b many bs) : Bk K H' b many bs := by
  obtain ⟨l, h1, h2⟩ := h
  exact ⟨l, e.tup h1, e.seq h2⟩
theorem Bk.dr {K : PySem.W.Frag} {H : Hp} {b : Addr} {many : Int} {bs : List Int} (h : Bk K H b many bs) : DR K H (.ref b) (.tuple [.int many, .list (bs.map PyData.int)]) := by
  obtain ⟨l, h1, h2⟩ := h
  exact .tup h1 (.cons (.int _) (.cons (.lst h2 (DRs.ints bs)) .nil))
theorem lay_ints : ∀ ns : List Int, PyData.canLayAll0 (ns.map PyData.int) = true
  | [] => rfl
  | n :: ns => by
    show (PyData.canLay0 (.int n) && PyData.canLayAll0 (ns.map PyData.int)) = true
    rw [lay_ints ns]; rfl
theorem depth_ints : ∀ ns : List Int, PyData.depthAll (ns.map PyData.int) = 0
  | [] => rfl
  | n :: ns => by
    show max (PyData.depth (.int n)) (PyData.depthAll (ns.map PyData.int)) = 0
    rw [depth_ints ns]; rfl
theorem shaped_ints (ns : List Int) : PySem.SeqAt.shaped (.list (ns.map PyData.int)) = true := by
  unfold PySem.SeqAt.shaped
  rw [show PyData.canLay0 (.list (ns.map PyData.int)) = true from lay_ints ns]
  rw [show PyData.depth (.list (ns.map PyData.int)) = 0 + 1 from by rw [← depth_ints ns]; rfl]
  rfl
theorem eqv_ints : ∀ ns ms : List Int, PyData.eqvAll (ns.map PyData.int) (ms.map PyData.int) = decide (ns = ms) := PySem.W.ked_eqvAll
end L2
namespace L2
open PySem PySem.Spec PyProof.Rows
/-! ### two ways meet behind a statement: what holds there is said once -/
noncomputable def tMid (t u : TS) : TS := fun D σ H => ∃ R : St → Hp → Prop, t { D with nx := R } σ H ∧ ∀ σ' H', R σ' H' → u D σ' H'
theorem pss_mid {X : Cx} {st : Stmt} {rest : List Stmt} {t u : TS} (h1 : PS X st t) (h2 : PSs X rest u) : PSs X (st :: rest) (tMid t u) := by
  intro pins s σ H D I h
  obtain ⟨R, q1, q2⟩ := h
  refine wpAny_execs_cons (thn (h1 pins s σ H { D with nx := R } I q1) fun f s1 q => ?_)
  cases f with
  | next =>
    obtain ⟨σ', H', I', q⟩ := q
    exact h2 pins s1 σ' H' D I' (q2 σ' H' q)
  | ret v => exact q
  | brk => exact q
  | cont => exact q
/-- a test that only makes new things -/
noncomputable def LookT (t : TT) (σ : St) (H : Hp) (c : Bool) : Prop := ∀ Q : Bool → Hp → Prop, (∀ H', Same H H' → Q c H') → t σ H Q
theorem LookT.pure {t : TT} {σ : St} {H : Hp} {c : Bool} (h : ∀ Q : Bool → Hp → Prop, Q c H → t σ H Q) : LookT t σ H c := fun Q q => h Q (q H (Same.refl H))
theorem lookAnd {t u : TT} {σ : St} {H : Hp} {c d : Bool} (h1 : LookT t σ H c) (h2 : c = true → ∀ H1, Same H H1 → LookT u σ H1 d) : LookT (tAnd t u) σ H (c && d) := fun Q h => by
  refine h1 _ fun H1 S1 => ?_
  cases c with
  | true => exact iteT (h2 rfl H1 S1 Q fun H2 S2 => h H2 (S1.trans S2))
  | false => exact iteF (h H1 S1)
theorem lookOr {t u : TT} {σ : St} {H : Hp} {c d : Bool} (h1 : LookT t σ H c) (h2 : c = false → ∀ H1, Same H H1 → LookT u σ H1 d) : LookT (tOr t u) σ H (c || d) := fun Q h => by
  refine h1 _ fun H1 S1 => ?_
  cases c with
  | true => exact iteT (h H1 S1)
  | false => exact iteF (h2 rfl H1 S1 Q fun H2 S2 => h H2 (S1.trans S2))
/-- all that was tracked but at l is as it was -/
noncomputable def SameB (l : Addr) (H H' : Hp) : Prop := ∀ b o, b ≠ l → H b = some o → H' b = some o
theorem Same.b {l : Addr} {H H' : Hp} (h : Same H H') : SameB l H H' := fun b o _ e => h b o e
theorem SameB.trans {l : Addr} {H H1 H2 : Hp} (a : SameB l H H1) (b : SameB l H1 H2) : SameB l H H2 := fun c o n h => b c o n (a c o n h)
theorem sameB_upd {l : Addr} {H : Hp} {o : HO} : SameB l H (upd H l o) := fun b u n e => by rw [upd_ne n]; exact e
theorem SameB.same {l : Addr} {H0 H H' : Hp} (h : SameB l H H') (h0 : Same H0 H) (hn : H0 l = none) : Same H0 H' := fun b o e => h b o (ne_of_none e hn) (h0 b o e)
/-- slices of lists of ints -/
noncomputable def cutI (ds : List Int) (lo hi : Option Int) : List Int := (ds.drop (HT.sIx ds.length 0 lo)).take (HT.sIx ds.length ds.length hi - HT.sIx ds.length 0 lo)
theorem cut_ints (ds : List Int) (lo hi : Option Int) : cutV (ds.map V.int) lo hi = (cutI ds lo hi).map V.int := by
  unfold cutV cutI
  rw [List.length_map, List.map_take, List.map_drop]
theorem cutI_mem {ds : List Int} {lo hi : Option Int} {d : Int} (h : d ∈ cutI ds lo hi) : d ∈ ds := List.mem_of_mem_drop (List.mem_of_mem_take h)
end L2
namespace L2
open PySem PySem.Spec PyProof.Rows
/-! ### the same rules where the context is a comprehension's: K is said -/
section
variable {X : Cx} (K : PySem.W.Frag) (hK : X.K = K)
include hK
theorem pg_tupK {pos : Pos} {es : List Expr} {k : Nat} {t : TGs} {n : Nat} (hc : X.calm = true) (h : PGs X es t) (hn : (assignEach es X.env).length = n := by rfl) (hst : (assignEach es X.env).findIdx? (·.1) = none := by rfl) : PG X (.Tuple es k pos) (gTup K n t) := by
  subst hK; exact pg_tup hc h hn hst
theorem ix_tupK : IxR X (rIxT K) := by subst hK; exact ix_tup
theorem ix_listK : IxR X (rIxL K) := by subst hK; exact ix_list
theorem len_seqK : CallR X (.builtin "len") (fun xs H Q => ∃ p ys, xs = [.ref p] ∧ (SqL K H p ys ∨ SqT K H p ys) ∧ Q (.int ys.length) H) := by subst hK; exact call_len_seq
end
end L2

namespace OL
open PySem L2

/-! ### what the program's defs answer, over plain lists -/
noncomputable def hasF (x y : Int) : Bool := Builtin.bitAnd x y == y
noncomputable def topF (n : Int) : Int := 1 * 2 ^ n.toNat - 1
noncomputable def hold (bs : List Int) (lot : Int) (n : Nat) : List Int := ((List.range n).filter fun i => hasF (bs.getD i 0) lot).map fun (i : Nat) => (i : Int)
noncomputable def holdF (bs : List Int) (lot : Int) : List Int := hold bs lot bs.length
noncomputable def commonF (many : Int) (bs ps : List Int) : Int := ps.foldl (fun acc p => Builtin.bitAnd acc (bs.getD p.toNat 0)) (topF many)
noncomputable def closeF (many : Int) (bs : List Int) (lot : Int) : Int := commonF many bs (holdF bs lot)
/-- the law's own closing -/
noncomputable def closeL (many : Int) (bs : List Int) (lot : Int) : Int := bs.foldl (fun acc b => if hasF b lot then Builtin.bitAnd acc b else acc) (topF many)

theorem hold_yes {bs : List Int} {lot : Int} {n : Nat} (h : hasF (bs.getD n 0) lot = true) : hold bs lot (n + 1) = hold bs lot n ++ [(n : Int)] := by
  unfold hold
  rw [List.range_succ, List.filter_append, List.map_append, List.filter_cons, if_pos h]
  rfl
theorem hold_no {bs : List Int} {lot : Int} {n : Nat} (h : hasF (bs.getD n 0) lot = false) : hold bs lot (n + 1) = hold bs lot n := by
  unfold hold
  rw [List.range_succ, List.filter_append, List.map_append, List.filter_cons, if_neg (by rw [h]; decide)]
  exact List.append_nil _
theorem hold_len (bs : List Int) (lot : Int) (n : Nat) : (hold bs lot n).length ≤ n := by
  unfold hold
  rw [List.length_map]
  have h := List.length_filter_le (fun i => hasF (bs.getD i 0) lot) (List.range n)
  rw [List.length_range] at h
  exact h
theorem hold_mem {bs : List Int} {lot : Int} {n : Nat} {p : Int} (h : p ∈ hold bs lot n) : 0 ≤ p ∧ p < n := by
  unfold hold at h
  obtain ⟨i, hi, e⟩ := List.mem_map.mp h
  have := List.mem_range.mp (List.mem_filter.mp hi).1
  omega
/-! ### promises -/
noncomputable def spHas : Sp := fun vs H Q _ => ∃ x y, vs = [.int x, .int y] ∧ Q (.bl (hasF x y)) H
noncomputable def spTop : Sp := fun vs H Q _ => ∃ n : Int, vs = [.int n] ∧ 0 ≤ n ∧ n ≤ 64 ∧ Q (.int (topF n)) H
noncomputable def spHold (K : PySem.W.Frag) : Sp := fun vs H Q _ => ∃ (b : Addr) (many : Int) (bs : List Int) (lot : Int), vs = [.ref b, .int lot] ∧ Bk K H b many bs ∧ bs.length ≤ 500 ∧
  ∀ (r : Addr) (H' : Hp), Same H H' → H r = none → H' r = some (.lst ((holdF bs lot).map V.int)) → Q (.ref r) H'
noncomputable def spCommon (K : PySem.W.Frag) : Sp := fun vs H Q _ => ∃ (b p : Addr) (many : Int) (bs ps : List Int), vs = [.ref b, .ref p] ∧ Bk K H b many bs ∧ SqL K H p (ps.map V.int) ∧ 0 ≤ many ∧ many ≤ 64 ∧ (∀ q ∈ ps, 0 ≤ q ∧ q < bs.length) ∧ Q (.int (commonF many bs ps)) H
noncomputable def spClose (K : PySem.W.Frag) (f : Int → List Int → Int → V) : Sp := fun vs H Q _ => ∃ (b : Addr) (many : Int) (bs : List Int) (lot : Int), vs = [.ref b, .int lot] ∧ Bk K H b many bs ∧ bs.length ≤ 500 ∧ 0 ≤ many ∧ many ≤ 64 ∧ ∀ H', Same H H' → Q (f many bs lot) H'
/-! ### books that a law draws -/
noncomputable def InB (many : Int) (x : Int) : Prop := 0 ≤ x ∧ x < 2 ^ many.toNat
theorem InB.and {many x y : Int} (hx : InB many x) (hy : InB many y) : InB many (Builtin.bitAnd x y) := by
  obtain ⟨h1, h2⟩ := hx
  obtain ⟨h3, h4⟩ := hy
  rw [PyProof.Rows.bitAnd_pp h1 h3]
  refine ⟨Int.natCast_nonneg _, ?_⟩
  have h5 : x.toNat &&& y.toNat ≤ x.toNat := Nat.and_le_left
  have h6 : ((x.toNat &&& y.toNat : Nat) : Int) ≤ x := by omega
  exact Int.lt_of_le_of_lt h6 h2
structure BookOk (many : Int) (bs : List Int) (most top : Int) : Prop where
  lo : 1 ≤ many
  hi : many ≤ most
  len : (bs.length : Int) ≤ top
  bas : ∀ x ∈ bs, InB many x
noncomputable def spBook : Sp := fun vs H Q _ => ∃ (c most tp : Int), vs = [.int c, .int most, .int tp] ∧ 1 ≤ most ∧ most ≤ 12 ∧ 0 ≤ tp ∧ tp ≤ 20 ∧
  ∀ (b l : Addr) (H' : Hp) (many : Int) (bs : List Int), Same H H' → H b = none → H l = none → H' b = some (.tup [.int many, .ref l]) → H' l = some (.lst (bs.map V.int)) → BookOk many bs most tp → Q (.ref b) H'
noncomputable def spWhole : Sp := fun vs H Q _ => ∃ i : Int, vs = [.int i] ∧ Q (.bl true) H
theorem getD_mem {ds : List Int} {i : Nat} (h : i < ds.length) : ds.getD i 0 ∈ ds := by
  rw [List.getD_eq_getElem?_getD, List.getElem?_eq_getElem h]; exact List.getElem_mem h
theorem two_pow_pos (n : Int) : (0 : Int) < 1 * 2 ^ n.toNat := by
  have : (0 : Int) < 2 ^ n.toNat := Int.pow_pos (by decide)
  omega
theorem mod_InB (d many : Int) : InB many (d % (1 * 2 ^ many.toNat)) := by
  have h := two_pow_pos many
  have h1 := Int.emod_nonneg d (show (1 * 2 ^ many.toNat : Int) ≠ 0 by omega)
  have h2 := Int.emod_lt_of_pos d h
  rw [Int.one_mul] at h1 h2 ⊢
  exact ⟨h1, h2⟩
end OL

namespace OL
open PySem L2
/-- a test that looks and changes nothing -/
noncomputable def PureT (t : TT) (σ : St) (H : Hp) (c : Bool) : Prop := ∀ Q : Bool → Hp → Prop, Q c H → t σ H Q
theorem mod_ok (a : Int) {m : Int} (h0 : 0 < m) (h1 : m < 2 ^ 64) : -(2 ^ 64) < a % m ∧ a % m < 2 ^ 64 := by
  have g0 := Int.emod_nonneg a (show m ≠ 0 by omega)
  have g1 := Int.emod_lt_of_pos a h0
  omega
noncomputable def cellF (ns : List Int) (k : Int) : Int := ns.getD k.toNat 0
noncomputable def spCell (K : PySem.W.Frag) : Sp := fun vs H Q _ => ∃ (a : Addr) (ns : List Int) (k : Int), vs = [.ref a, .int k] ∧ SqL K H a (ns.map V.int) ∧ 0 ≤ k ∧ Q (.int (cellF ns k)) H
noncomputable def spDraws : Sp := fun vs H Q _ => ∃ (c m b : Int), vs = [.int c, .int m, .int b] ∧ 0 ≤ m ∧ m ≤ 100 ∧ 0 < b ∧ b < 1073741824 ∧
  ∀ (r : Addr) (H' : Hp) (ds : List Int), Same H H' → H r = none → H' r = some (.lst (ds.map V.int)) → (ds.length : Int) = m → (∀ d ∈ ds, 0 ≤ d ∧ d < b) → Q (.ref r) H'
end OL
namespace OL
open PySem L2
theorem pos_len {bs : List Int} (h : bs ≠ []) : (0 : Int) < ((bs.map V.int).length : Int) := by
  rw [List.length_map]
  have := List.length_pos_iff.mpr h
  omega
theorem emod_in {bs : List Int} (d : Int) (h : bs ≠ []) : 0 ≤ d % ((bs.map V.int).length : Int) ∧ d % ((bs.map V.int).length : Int) < ((bs.map V.int).length : Int) := by
  have h1 := pos_len h
  exact ⟨Int.emod_nonneg _ (by omega), Int.emod_lt_of_pos _ h1⟩
end OL
namespace OL
open PySem L2
noncomputable def spLaw (K : PySem.W.Frag) : Sp := fun vs H Q _ => ∃ (a : Addr) (ns : List Int), vs = [.ref a] ∧ SqL K H a (ns.map V.int) ∧ ns.length ≤ 63 ∧ ∀ H', Q (.bl true) H'
theorem yes_of {σ : St} {H : Hp} {A B : Hp → Prop} (h : A H) : tYes σ H fun b H3 => if b = true then A H3 else B H3 := by
  show if true = true then A H else B H
  exact iteT h
theorem seq_if {c : TT} {t u v : TS} {D : Ends} {σ : St} {H : Hp} {b : Bool} (h : LookT c σ H b) (k : ∀ H', Same H H' → if b = true then t { D with nx := v D } σ H' else u { D with nx := v D } σ H') : tSeq (tIfS c t u) v D σ H := h _ k
theorem one_if {c : TT} {t u : TS} {D : Ends} {σ : St} {H : Hp} {b : Bool} (h : LookT c σ H b) (k : ∀ H', Same H H' → if b = true then t D σ H' else u D σ H') : tIfS c t u D σ H := h _ k
theorem take_get {cs : List Int} {i : Nat} (h : i < cs.length) : cs.take (i + 1) = cs.take i ++ [cs.getD i 0] := by
  rw [List.getD_eq_getElem?_getD, List.getElem?_eq_getElem h]
  exact List.take_succ_eq_append_getElem h
end OL

namespace OL
open PySem L2
noncomputable def countF (bs : List Int) (lot : Int) : Int := ((holdF bs lot).length : Int)
noncomputable def spLot (K : PySem.W.Frag) : Sp := fun vs H Q _ => ∃ (b : Addr) (many : Int) (bs : List Int) (c : Int), vs = [.ref b, .int c] ∧ Bk K H b many bs ∧ (∀ x ∈ bs, InB many x) ∧ 0 ≤ many ∧ many ≤ 64 ∧ ∀ (H' : Hp) (lot : Int), Same H H' → InB many lot → Q (.int lot) H'
end OL
namespace L2
open PySem PySem.Spec PyProof.Rows
end L2

namespace OL
open PySem L2
/-! ### lots as sets of things -/
noncomputable def Th (x : Int) (i : Nat) : Prop := x.toNat.testBit i = true
theorem th_and {x y : Int} (hx : 0 ≤ x) (hy : 0 ≤ y) (i : Nat) : Th (Builtin.bitAnd x y) i ↔ Th x i ∧ Th y i := by
  unfold Th
  rw [PyProof.Rows.bitAnd_pp hx hy, Int.toNat_natCast, Nat.testBit_and, Bool.and_eq_true]
theorem th_ext {x y : Int} (hx : 0 ≤ x) (hy : 0 ≤ y) (h : ∀ i, Th x i ↔ Th y i) : x = y := by
  have e : x.toNat = y.toNat := Nat.eq_of_testBit_eq fun i => by
    have := h i
    unfold Th at this
    cases h1 : x.toNat.testBit i <;> cases h2 : y.toNat.testBit i <;> simp_all
  omega
theorem and_nn {x y : Int} (hx : 0 ≤ x) (hy : 0 ≤ y) : 0 ≤ Builtin.bitAnd x y := by
  rw [PyProof.Rows.bitAnd_pp hx hy]; exact Int.natCast_nonneg _
theorem has_iff {x y : Int} (hx : 0 ≤ x) (hy : 0 ≤ y) : hasF x y = true ↔ ∀ i, Th y i → Th x i := by
  unfold hasF
  rw [beq_iff_eq]
  constructor
  · intro h i hi
    rw [← h] at hi
    exact ((th_and hx hy i).mp hi).1
  · intro h
    exact th_ext (and_nn hx hy) hy fun i => by
      rw [th_and hx hy]
      exact ⟨fun z => z.2, fun z => ⟨h i z, z⟩⟩
theorem top_nn (many : Int) : 0 ≤ topF many := by
  unfold topF
  have := two_pow_pos many
  omega
theorem top_in (many : Int) : InB many (topF many) := ⟨top_nn many, by unfold topF; rw [Int.one_mul]; omega⟩
theorem InB.th {many x : Int} (h : InB many x) {i : Nat} (hi : Th x i) : i < many.toNat := by
  unfold Th at hi
  have h1 : x.toNat < 2 ^ many.toNat := by
    have : (2 : Int) ^ many.toNat = ((2 ^ many.toNat : Nat) : Int) := by push_cast; rfl
    have := h.2
    have := h.1
    omega
  by_cases hlt : i < many.toNat
  · exact hlt
  · have := Nat.testBit_lt_two_pow (Nat.lt_of_lt_of_le h1 (Nat.pow_le_pow_right (by decide) (Nat.le_of_not_lt hlt)))
    rw [this] at hi
    cases hi
theorem InB.of_th {many x : Int} (h0 : 0 ≤ x) (h : ∀ i, Th x i → i < many.toNat) : InB many x := by
  refine ⟨h0, ?_⟩
  have h1 : x.toNat < 2 ^ many.toNat := Nat.lt_pow_two_of_testBit _ fun i hi => by
    cases e : x.toNat.testBit i with
    | false => rfl
    | true => exact absurd (h i e) (Nat.not_lt.mpr hi)
  have : (2 : Int) ^ many.toNat = ((2 ^ many.toNat : Nat) : Int) := by push_cast; rfl
  omega
theorem or_pp {x y : Int} (hx : 0 ≤ x) (hy : 0 ≤ y) : Builtin.bitOr x y = ((x.toNat ||| y.toNat : Nat) : Int) := by
  have nn : ∀ z : Int, 0 ≤ z → ¬ 0 ≤ Builtin.bitNot z := fun z hz => by unfold Builtin.bitNot; omega
  have bb : ∀ z : Int, Builtin.bitNot (Builtin.bitNot z) = z := fun z => by unfold Builtin.bitNot; omega
  unfold Builtin.bitOr
  rw [PyProof.Rows.bitAnd_nn (nn x hx) (nn y hy), bb, bb, bb]
theorem th_or {x y : Int} (hx : 0 ≤ x) (hy : 0 ≤ y) (i : Nat) : Th (Builtin.bitOr x y) i ↔ Th x i ∨ Th y i := by
  unfold Th
  rw [or_pp hx hy, Int.toNat_natCast, Nat.testBit_or, Bool.or_eq_true]
theorem or_nn {x y : Int} (hx : 0 ≤ x) (hy : 0 ≤ y) : 0 ≤ Builtin.bitOr x y := by rw [or_pp hx hy]; exact Int.natCast_nonneg _
theorem th_pow (n i : Nat) : Th (1 * 2 ^ n) i ↔ i = n := by
  unfold Th
  have e : (1 * 2 ^ n : Int).toNat = 2 ^ n := by
    have : (2 : Int) ^ n = ((2 ^ n : Nat) : Int) := by push_cast; rfl
    rw [Int.one_mul, this]; exact Int.toNat_natCast _
  rw [e, Nat.testBit_two_pow, decide_eq_true_eq]
  exact eq_comm
/-! ### closings -/
structure BasOk (many : Int) (bs : List Int) : Prop where
  bas : ∀ x ∈ bs, InB many x
section
variable {many : Int} {bs : List Int} (hb : ∀ x ∈ bs, InB many x)
include hb
end
theorem hold_length (bs : List Int) (lot : Int) : (holdF bs lot).length = (bs.filter fun b => hasF b lot).length := by
  unfold holdF
  have go : ∀ n, n ≤ bs.length → (hold bs lot n).length = ((bs.take n).filter fun b => hasF b lot).length := by
    intro n
    induction n with
    | zero => intro _; rfl
    | succ n ih =>
      intro h
      have hn : n < bs.length := by omega
      rw [take_get hn, List.filter_append, List.length_append, ← ih (by omega)]
      cases hh : hasF (bs.getD n 0) lot with
      | true => rw [hold_yes hh, List.length_append, List.filter_cons, if_pos hh]; rfl
      | false => rw [hold_no hh, List.filter_cons, if_neg (by rw [hh]; decide)]; rfl
  have := go bs.length (Nat.le_refl _)
  rwa [List.take_length] at this
end OL
namespace OL
open PySem L2
theorem flat_ints : ∀ ns : List Int, (ns.map V.int).all flatV = true
  | [] => rfl
  | n :: ns => by
    rw [List.map_cons, List.all_cons, flat_ints ns]; rfl
theorem in_ints (p : Int) : ∀ ns : List Int, inV (.int p) (ns.map V.int) = ns.any fun q => q == p
  | [] => rfl
  | n :: ns => by
    have ih := in_ints p ns
    unfold inV at ih ⊢
    rw [List.map_cons, List.any_cons, List.any_cons, ih]; rfl
end OL

namespace L2
open PySem PySem.Spec PyProof.Rows
section
variable {X : Cx}
/-! ### range(n) as a value, and its list -/
theorem call_rngV : CallR X (.type "range") (fun xs H Q => ∃ n : Int, xs = [.int n] ∧ ∀ p, H p = none → Q (.ref p) (upd H p (.rng 0 n))) := by
  intro pins s σ H xs us Q I r h
  obtain ⟨n, rfl, q⟩ := h
  obtain ⟨u, rfl, ⟨t, rfl⟩⟩ := vals1 r
  refine call_range_1 ⟨.ref s.heap.objs.size, _, I.laid (o := .rng 0 n) (fun b ob e => Heap.get?_push_of_some _ e) (Nat.le_refl _) ?_, rfl, q _ I.fresh⟩
  exact ⟨_, _, _, Heap.get?_push_size _ rfl⟩
noncomputable def rangeI (n : Nat) : List Int := (List.range n).map fun (i : Nat) => (i : Int)
theorem rangeI_length (n : Nat) : (rangeI n).length = n := by unfold rangeI; rw [List.length_map, List.length_range]
theorem rangeI_get {n i : Nat} (h : i < n) : (rangeI n)[i]? = some (i : Int) := by
  unfold rangeI; rw [List.getElem?_map, List.getElem?_range h]; rfl
theorem rangeI_getD {n i : Nat} (h : i < n) : (rangeI n).getD i 0 = (i : Int) := by
  rw [List.getD_eq_getElem?_getD, rangeI_get h]; rfl
theorem vals_of_get : ∀ (xs : List V) (us : List Value), xs.length = us.length → (∀ (i : Nat) x u, xs[i]? = some x → us[i]? = some u → RelV x u) → Vals xs us
  | [], [], _, _ => .nil
  | x :: xs, u :: us, hl, h => .cons (h 0 x u rfl rfl) (vals_of_get xs us (by simpa using hl) fun i y v h1 h2 => h (i + 1) y v (by simpa using h1) (by simpa using h2))
theorem call_listRng (hc : X.calm = true) : CallR X (.type "list") (fun xs H Q => ∃ (p : Addr) (n : Int), xs = [.ref p] ∧ H p = some (.rng 0 n) ∧ 0 ≤ n ∧ n ≤ 100000 ∧ ∀ l, H l = none → Q (.ref l) (upd H l (.lst ((rangeI n.toNat).map V.int)))) := by
  intro pins s σ H xs us Q I r h
  obtain ⟨p, n, rfl, hp, n0, n1, q⟩ := h
  obtain ⟨u, rfl, ru⟩ := vals1 r
  cases (show u = Value.ref p from ru)
  obtain ⟨t1, t2, t3, e⟩ := (show ObjOk X.prog X.w H s.heap p (.rng 0 n) from I.hok p _ hp)
  have hn : Builtin.Range.rangeSize 0 n 1 = (n.toNat : Nat) := by rw [rangeSize_one]; split <;> omega
  refine call_list_range (n := n.toNat) (I.ok.hd hc) e (small_one (by omega) (by omega) (by omega) (by omega)) hn (by omega) fun h' tk acc c' hk hS hacc => ?_
  have hlen : ((rangeI n.toNat).map V.int).length = acc.toList.length := by rw [List.length_map, rangeI_length]; have := hacc.1; simp [this]
  refine ⟨.ref s.heap.objs.size, _, I.laid (o := .lst ((rangeI n.toNat).map V.int)) hk (Nat.le_refl _) ?_, rfl, q _ I.fresh⟩
  refine ⟨?_, acc.toList, c', vals_of_get _ _ hlen fun i x u h1 h2 => ?_, by simpa using hS⟩
  · rw [List.length_map, rangeI_length]
    have : (100000 : Nat) ≤ sizeLine := by decide
    omega
  · have h2' : acc[i]? = some u := by simpa using h2
    obtain ⟨t, rfl⟩ := hacc.2 i u h2'
    have hi : i < n.toNat := by
      have := (List.getElem?_eq_some_iff.mp h1).1
      rwa [List.length_map, rangeI_length] at this
    have hx := ints_get h1
    rw [rangeI_getD hi] at hx
    subst hx
    exact ⟨t, by simp⟩
end
/-! ### rows: lists of tuples of two ints -/
noncomputable def Row (H : Hp) (x : V) (r : Int × Int) : Prop := ∃ p, x = .ref p ∧ H p = some (.tup [.int r.1, .int r.2])
noncomputable def Rows (H : Hp) : List V → List (Int × Int) → Prop := Paired (Row H)
noncomputable def TSame (H H' : Hp) : Prop := ∀ b xs, H b = some (.tup xs) → H' b = some (.tup xs)
theorem Same.t {H H' : Hp} (h : Same H H') : TSame H H' := fun b xs e => h b _ e
theorem tsame_upd {H : Hp} {l : Addr} {xs : List V} {o : HO} (h : H l = some (.lst xs)) : TSame H (upd H l o) := fun b ys e => by
  rw [upd_ne (ne_of e h (by intro z; cases z))]; exact e
theorem Row.same {H H' : Hp} {x : V} {r : Int × Int} (h : Row H x r) (S : TSame H H') : Row H' x r := by
  obtain ⟨p, rfl, e⟩ := h
  exact ⟨p, rfl, S _ _ e⟩
theorem Rows.same {H H' : Hp} {xs : List V} {rs : List (Int × Int)} (h : Rows H xs rs) (S : TSame H H') : Rows H' xs rs := Paired.imp' (fun _ _ z => z.same S) h
theorem Rows.length {H : Hp} {xs : List V} {rs : List (Int × Int)} (h : Rows H xs rs) : xs.length = rs.length := Paired.length h
theorem Rows.snoc {H : Hp} {xs : List V} {rs : List (Int × Int)} {x : V} {r : Int × Int} (h : Rows H xs rs) (z : Row H x r) : Rows H (xs ++ [x]) (rs ++ [r]) := Paired.snoc h z
noncomputable def dRow (r : Int × Int) : PyData := .tuple [.int r.1, .int r.2]
/-! ### comprehensions that come to rows -/
noncomputable def CPR (H1 : Hp) (R : Nat → List (Int × Int)) : Nat → List V → Hp → Prop := fun i ys H => Same H1 H ∧ Rows H ys (R i)
section
variable {n i : Nat} {acc : Addr} {H1 H H' : Hp} {R : Nat → List (Int × Int)} {ys : List V} {p : Addr} {r : Int × Int}
theorem cputR (hlt : i < n) (hacc : H1 acc = none) (S : Same H1 H) (h0 : H acc = some (.lst ys)) (hR : Rows H ys (R i)) (s : Same H H') (hp : H' p = some (.tup [.int r.1, .int r.2])) (e : R (i + 1) = R i ++ [r]) (hz : ys.length < sizeLine) : CPut n acc (CPR H1 R) i (.ref p) H' :=
  ⟨ys, s acc _ h0, hz, n - (i + 1), by omega, rfl, hlt, ys ++ [.ref p], upd_same, fun b o q => by
    rw [upd_ne (ne_of_none q hacc)]; exact s b o (S b o q), by
    rw [e]
    exact ((hR.same s.t).same (tsame_upd (s acc _ h0))).snoc (Row.same ⟨p, rfl, hp⟩ (tsame_upd (s acc _ h0)))⟩
end
section
variable {K : PySem.W.Frag} {m : Nat} {js : List Nat} {g : TG} {c : TT} {te : TE} {σ : St} {H1 : Hp} {Q : VK}
theorem comp_listR {a : Addr} {xs : List V} (hx : SqL K H1 a xs) (R : Nat → List (Int × Int)) (hR : R 0 = [])
    (turn : ∀ acc i x ys H, H1 acc = none → i < xs.length → xs[i]? = some x → Same H1 H → H acc = some (.lst ys) → Rows H ys (R i) → g x (pick m js σ) H fun σ2 H2 => Wk (pick m js σ) σ2 ∧ c σ2 H2 fun b H3 => if b = true then te σ2 H3 fun y H4 => CPut xs.length acc (CPR H1 R) i y H4 else CSkip xs.length acc (CPR H1 R) i H3)
    (hQ : ∀ acc ys H, H1 acc = none → Same H1 H → H acc = some (.lst ys) → Rows H ys (R xs.length) → Q (.ref acc) H) : tCompR m js g c te (Itl K a) σ H1 Q := by
  intro acc hacc
  refine ⟨CW xs.length acc (CPR H1 R), ⟨_, rfl, Nat.zero_le _, [], upd_same, same_new hacc _, by rw [hR]; exact .nil⟩, ?_⟩
  rintro i m' H ⟨rfl, hi, ys, h0, S, hr⟩
  have q := S.seq hx
  by_cases hlt : i < xs.length
  · refine .inr ⟨⟨xs, xs[i], q, by simp [hlt]⟩, fun x H' y => ?_⟩
    obtain ⟨e, y⟩ := y
    subst e
    exact turn acc i x ys _ hacc hlt (y xs q) S h0 hr
  · have e : i = xs.length := by omega
    subst e
    exact .inl ⟨⟨xs, q, Nat.le_refl _⟩, hQ acc ys H hacc S h0 hr⟩
end
end L2

namespace OL
open PySem L2
noncomputable def oftenV (many : Int) (bs : List Int) (least lot : Int) : V := if countF bs lot < least then .non else .int (closeF many bs lot)
noncomputable def isRow (many : Int) (bs : List Int) (least lot : Int) : Bool := decide (least ≤ countF bs lot) && (closeF many bs lot == lot)
noncomputable def rowsU (many : Int) (bs : List Int) (least : Int) (n : Nat) : List (Int × Int) := ((List.range n).filter fun (i : Nat) => isRow many bs least (i : Int)).map fun (i : Nat) => ((i : Int), countF bs (i : Int))
noncomputable def rowsF (many : Int) (bs : List Int) (least : Int) : List (Int × Int) := rowsU many bs least (2 ^ many.toNat)
noncomputable def spAll : Sp := fun vs H Q _ => ∃ n : Int, vs = [.int n] ∧ 0 ≤ n ∧ n ≤ 12 ∧ ∀ (r : Addr) (H' : Hp), Same H H' → H r = none → H' r = some (.lst ((rangeI (2 ^ n.toNat)).map V.int)) → Q (.ref r) H'
noncomputable def spOften (K : PySem.W.Frag) : Sp := fun vs H Q _ => ∃ (b : Addr) (many : Int) (bs : List Int) (least lot : Int), vs = [.ref b, .int least, .int lot] ∧ Bk K H b many bs ∧ bs.length ≤ 500 ∧ 0 ≤ many ∧ many ≤ 64 ∧ ∀ H', Same H H' → Q (oftenV many bs least lot) H'
noncomputable def spClosed (K : PySem.W.Frag) : Sp := fun vs H Q _ => ∃ (b : Addr) (many : Int) (bs : List Int) (least : Int), vs = [.ref b, .int least] ∧ Bk K H b many bs ∧ bs.length ≤ 500 ∧ 0 ≤ many ∧ many ≤ 12 ∧ ∀ (r : Addr) (xs : List V) (H' : Hp), Same H H' → H r = none → H' r = some (.lst xs) → Rows H' xs (rowsF many bs least) → Q (.ref r) H'
theorem pow12 {n : Int} (h : n ≤ 12) : (2 : Nat) ^ n.toNat ≤ 4096 := by
  have : (2 : Nat) ^ n.toNat ≤ 2 ^ 12 := Nat.pow_le_pow_right (by decide) (by omega)
  exact this
theorem pow_cast (n : Nat) : (2 : Int) ^ n = ((2 ^ n : Nat) : Int) := by push_cast; rfl
theorem small4096 {n : Nat} (h : n ≤ 5000) : n < sizeLine := Nat.lt_of_le_of_lt h (by decide)
end OL
namespace L2
open PySem PySem.Spec PyProof.Rows
end L2
namespace OL
open PySem L2
noncomputable def lotsU (many : Int) (bs : List Int) (n : Nat) : List Int := ((List.range n).filter fun (i : Nat) => closeF many bs (i : Int) == (i : Int)).map fun (i : Nat) => (i : Int)
/-- one entry of an early list of rows -/
noncomputable def PairR (H : Hp) (e : Addr) (x : V) : Prop := ∃ (p t d : Addr) (xs ys : List V) (rs : List (Int × Int)), x = .ref p ∧ t ≠ e ∧ d ≠ e ∧ H p = some (.tup [.ref t, .ref d]) ∧ H t = some (.lst xs) ∧ H d = some (.lst ys) ∧ Rows H xs rs ∧ Rows H ys rs
end OL

namespace OL
open PySem L2
theorem InB.or {many x y : Int} (hx : InB many x) (hy : InB many y) : InB many (Builtin.bitOr x y) :=
  .of_th (or_nn hx.1 hy.1) fun i hi => ((th_or hx.1 hy.1 i).mp hi).elim (fun z => hx.th z) (fun z => hy.th z)
noncomputable def spMixed : Sp := fun vs H Q _ => ∃ (c k : Int), vs = [.int c, .int k] ∧ ∀ y : Int, 0 ≤ y → Q (.int y) H
noncomputable def spPile (K : PySem.W.Frag) : Sp := fun vs H Q _ => ∃ (a : Addr) (ns : List Int) (k : Int), vs = [.ref a, .int k] ∧ SqL K H a (ns.map V.int) ∧ 0 ≤ k ∧ ∀ (r : Addr) (H' : Hp) (x y z : Int), Same H H' → H r = none → H' r = some (.lst [.int x, .int y, .int z]) → Q (.ref r) H'
noncomputable def spTake : Sp := fun vs H Q _ => ∃ (p : Addr) (m x y z : Int), vs = [.ref p, .int m] ∧ 0 < m ∧ m < 1073741824 ∧ H p = some (.lst [.int x, .int y, .int z]) ∧ ∀ (d x' y' z' : Int) (H' : Hp), 0 ≤ d → d < m → SameB p H H' → H' p = some (.lst [.int x', .int y', .int z']) → Q (.int d) H'
structure BookP (many : Int) (bs : List Int) : Prop where
  lo : 1 ≤ many
  hi : many ≤ 8
  len : bs.length ≤ 14
  bas : ∀ x ∈ bs, InB many x
noncomputable def spBookP (K : PySem.W.Frag) : Sp := fun vs H Q _ => ∃ (a : Addr) (ns : List Int) (k : Int), vs = [.ref a, .int k] ∧ SqL K H a (ns.map V.int) ∧ 0 ≤ k ∧
  ∀ (b l : Addr) (H' : Hp) (many : Int) (bs : List Int), Same H H' → H b = none → H l = none → H' b = some (.tup [.int many, .ref l]) → H' l = some (.lst (bs.map V.int)) → BookP many bs → Q (.ref b) H'
end OL

namespace OL
open PySem L2
noncomputable def spMeet : Sp := fun vs H Q _ => ∃ x y : Int, vs = [.int x, .int y] ∧ Q (.int (Builtin.bitAnd x y)) H
noncomputable def spJoin (K : PySem.W.Frag) : Sp := fun vs H Q _ => ∃ (b : Addr) (many : Int) (bs : List Int) (x y : Int), vs = [.ref b, .int x, .int y] ∧ Bk K H b many bs ∧ bs.length ≤ 500 ∧ 0 ≤ many ∧ many ≤ 64 ∧ ∀ H', Same H H' → Q (.int (closeF many bs (Builtin.bitOr x y))) H'
noncomputable def spRight (K : PySem.W.Frag) : Sp := fun vs H Q _ => ∃ (b : Addr) (many : Int) (bs : List Int) (x y : Int), vs = [.ref b, .int x, .int y] ∧ Bk K H b many bs ∧ bs.length ≤ 500 ∧ 0 ≤ many ∧ many ≤ 12 ∧ InB many x ∧ InB many y ∧ ∀ H', Same H H' → Q (.bl true) H'
noncomputable def spCRight (K : PySem.W.Frag) : Sp := fun vs H Q _ => ∃ (b : Addr) (many : Int) (bs : List Int) (x y : Int), vs = [.ref b, .int x, .int y] ∧ Bk K H b many bs ∧ bs.length ≤ 500 ∧ 0 ≤ many ∧ many ≤ 12 ∧ (∀ x ∈ bs, InB many x) ∧ InB many x ∧ InB many y ∧ closeF many bs x = x ∧ closeF many bs y = y ∧ ∀ H', Same H H' → Q (.bl true) H'
section
variable {many : Int} {bs : List Int} (hb : ∀ x ∈ bs, InB many x)
include hb
end
end OL

namespace L2
open PySem PySem.Spec PyProof.Rows
section
variable {X : Cx}
/-- a // b, b below 2^64 -/
theorem op_fdivB : OpR X (binaryOp .FloorDiv) (rI (fun _ j => 0 < j ∧ j < 2 ^ 64) fun i j => .int (i / j)) := opI fun i j _ _ _ _ _ hc q => by
  have h1 : (0 : Int) < j := hc.1
  have h2 : j < 2 ^ 64 := hc.2
  refine floordiv_int (by omega) (by rw [Int.fdiv_eq_ediv_of_nonneg i (by omega)]; exact q) (.inl (PyProof.noPylong_of_log2 ?_))
  have h3 : j.natAbs < 2 ^ 64 := by omega
  have h4 : j.natAbs ≠ 0 := by omega
  have := (Nat.log2_lt h4).mpr h3
  omega
end
section
variable {K : PySem.W.Frag} {m : Nat} {js : List Nat} {g : TG} {c : TT} {te : TE} {σ : St} {H1 : Hp} {Q : VK}
/-- a comprehension over a range whose turns change what they say -/
theorem comp_rangeG {lo : Int} {n : Nat} (Pv : Addr → Nat → List V → Hp → Prop) (h0 : ∀ acc, H1 acc = none → Pv acc 0 [] (upd H1 acc (.lst [])))
    (turn : ∀ acc i ys H, H1 acc = none → i < n → H acc = some (.lst ys) → Pv acc i ys H → g (.int (lo + (i : Nat))) (pick m js σ) H fun σ2 H2 => Wk (pick m js σ) σ2 ∧ c σ2 H2 fun b H3 => if b = true then te σ2 H3 fun y H4 => CPut n acc (Pv acc) i y H4 else CSkip n acc (Pv acc) i H3)
    (hQ : ∀ acc ys H, H1 acc = none → H acc = some (.lst ys) → Pv acc n ys H → Q (.ref acc) H) : tCompR m js g c te (Itr lo n) σ H1 Q := by
  intro acc hacc
  refine ⟨CW n acc (Pv acc), ⟨_, rfl, Nat.zero_le _, [], upd_same, h0 acc hacc⟩, ?_⟩
  rintro i m' H ⟨rfl, hi, ys, hy, p⟩
  by_cases hlt : i < n
  · refine .inr ⟨hlt, fun x H' y => ?_⟩
    obtain ⟨e, y⟩ := y
    subst e y
    exact turn acc i ys _ hacc hlt hy p
  · have e : i = n := by omega
    subst e
    exact .inl ⟨Nat.le_refl _, hQ acc ys H hacc hy p⟩
theorem cputG {n i : Nat} {acc : Addr} {Pv : Nat → List V → Hp → Prop} {H : Hp} {ys : List V} {y : V} (hlt : i < n) (h : H acc = some (.lst ys)) (hz : ys.length < sizeLine) (p : Pv (i + 1) (ys ++ [y]) (upd H acc (.lst (ys ++ [y])))) : CPut n acc Pv i y H :=
  ⟨ys, h, hz, n - (i + 1), by omega, rfl, hlt, ys ++ [y], upd_same, p⟩
end
end L2

namespace OL
open PySem L2
noncomputable def colU (bs : List Int) (lot : Int) : Nat → Int
  | 0 => 0
  | n + 1 => if hasF (bs.getD n 0) lot then colU bs lot n + 1 * 2 ^ n else colU bs lot n
noncomputable def colF (bs : List Int) (lot : Int) : Int := colU bs lot bs.length
noncomputable def lotOf (ps : List Int) : Int := ps.foldl (fun acc p => Builtin.bitOr acc (1 * 2 ^ p.toNat)) 0
noncomputable def colsU (bs : List Int) (n : Nat) : List Int := (List.range n).map fun (t : Nat) => colF bs (1 * 2 ^ t)
noncomputable def spWith : Sp := fun vs H Q _ => ∃ (lot t : Int), vs = [.int lot, .int t] ∧ 0 ≤ t ∧ t ≤ 1000 ∧ Q (.int (Builtin.bitOr lot (1 * 2 ^ t.toNat))) H
noncomputable def spLotOf (K : PySem.W.Frag) : Sp := fun vs H Q _ => ∃ (p : Addr) (ps : List Int), vs = [.ref p] ∧ SqL K H p (ps.map V.int) ∧ (∀ q ∈ ps, 0 ≤ q ∧ q ≤ 1000) ∧ Q (.int (lotOf ps)) H
noncomputable def spCols (K : PySem.W.Frag) : Sp := fun vs H Q _ => ∃ (b : Addr) (many : Int) (bs : List Int), vs = [.ref b] ∧ Bk K H b many bs ∧ bs.length ≤ 500 ∧ 0 ≤ many ∧ many ≤ 64 ∧ ∀ (r : Addr) (H' : Hp), Same H H' → H r = none → H' r = some (.lst ((colsU bs many.toNat).map V.int)) → Q (.ref r) H'
noncomputable def spPop62 : Sp := fun vs H Q _ => ∃ (l : Addr) (ds : List Int), vs = [.ref l] ∧ H l = some (.lst (ds.map V.int)) ∧ ∀ (d : Int) (ds' : List Int) (H' : Hp), SameB l H H' → H' l = some (.lst (ds'.map V.int)) → Q (.int d) H'
noncomputable def spDraws62 (K : PySem.W.Frag) : Sp := fun vs H Q _ => ∃ (a : Addr) (ns : List Int) (tn mn : Int), vs = [.ref a, .int tn, .int mn] ∧ SqL K H a (ns.map V.int) ∧ ns.length ≤ 63 ∧ 0 ≤ tn ∧ tn ≤ 100 ∧ 0 ≤ mn ∧ mn ≤ 100 ∧ ∀ (r : Addr) (ds : List Int) (H' : Hp), Same H H' → H r = none → H' r = some (.lst (ds.map V.int)) → Q (.ref r) H'
noncomputable def spBook62 : Sp := fun vs H Q _ => ∃ (l : Addr) (ds : List Int) (most : Int), vs = [.ref l, .int most] ∧ H l = some (.lst (ds.map V.int)) ∧ 1 ≤ most ∧ most ≤ 12 ∧
  ∀ (b bl : Addr) (many : Int) (bs ds' : List Int) (H' : Hp), SameB l H H' → H b = none → H bl = none → H' b = some (.tup [.int many, .ref bl]) → H' bl = some (.lst (bs.map V.int)) → H' l = some (.lst (ds'.map V.int)) → BookOk many bs most 24 → Q (.ref b) H'
noncomputable def spCopy (K : PySem.W.Frag) : Sp := fun vs H Q _ => ∃ (b : Addr) (many : Int) (bs : List Int), vs = [.ref b] ∧ Bk K H b many bs ∧ ∀ (c cl : Addr) (H' : Hp), Same H H' → H c = none → H cl = none → H' c = some (.tup [.int many, .ref cl]) → H' cl = some (.lst (bs.map V.int)) → Q (.ref c) H'
theorem at_in {many : Int} {ns : List Int} {k : Int} (h0 : 0 ≤ k) (h1 : k < ns.length) (h : ∀ x ∈ ns, InB many x) : ∃ y, atI (ns.map V.int) k = some (.int y) ∧ InB many y :=
  ⟨_, atI_int h0 h1, h _ (getD_mem (by omega))⟩
end OL

namespace L2
open PySem PySem.Spec PyProof.Rows
theorem mt_bits {X : Cx} : MtR X "int.bit_length" (fun x vs H Q => ∃ i : Int, x = .int i ∧ vs = [] ∧ Q (.int (Builtin.Int.intBits i : Nat)) H) := by
  intro pins s σ H x vs v us Q I rx rv h
  obtain ⟨i, rfl, rfl, q⟩ := h
  obtain ⟨t, rfl⟩ := rx
  cases rv
  exact call_int_bit_length ⟨.int (Builtin.Int.intBits i : Nat), H, I.tok _, ⟨_, rfl⟩, q⟩
end L2
namespace OL
open PySem L2
noncomputable def upto (p : Int → Bool) (n : Nat) : List Int := ((List.range n).filter fun (i : Nat) => p (i : Int)).map fun (i : Nat) => (i : Int)
theorem upto_yes {p : Int → Bool} {n : Nat} (h : p (n : Int) = true) : upto p (n + 1) = upto p n ++ [(n : Int)] := by
  unfold upto
  rw [List.range_succ, List.filter_append, List.map_append, List.filter_cons, if_pos h]; rfl
theorem upto_no {p : Int → Bool} {n : Nat} (h : ¬ p (n : Int) = true) : upto p (n + 1) = upto p n := by
  unfold upto
  rw [List.range_succ, List.filter_append, List.map_append, List.filter_cons, if_neg h]
  exact List.append_nil _
theorem upto_len (p : Int → Bool) (n : Nat) : (upto p n).length ≤ n := by
  unfold upto
  rw [List.length_map]
  have h := List.length_filter_le (fun (i : Nat) => p (i : Int)) (List.range n)
  rw [List.length_range] at h
  exact h
theorem upto_mem {p : Int → Bool} {n : Nat} {x : Int} (h : x ∈ upto p n) : ∃ i : Nat, i < n ∧ x = (i : Int) ∧ p x = true := by
  unfold upto at h
  obtain ⟨i, hi, rfl⟩ := List.mem_map.mp h
  exact ⟨i, List.mem_range.mp (List.mem_filter.mp hi).1, rfl, (List.mem_filter.mp hi).2⟩
noncomputable def thingsF (lot : Int) : List Int := upto (fun t => hasF lot (1 * 2 ^ t.toNat)) (Builtin.Int.intBits lot)
noncomputable def fewF (lot : Int) : List Int := (thingsF lot).map fun t => lot - 1 * 2 ^ t.toNat
noncomputable def leastP (bs : List Int) (lot : Int) : Bool := (fewF lot).all fun f => !decide (countF bs f ≤ countF bs lot)
noncomputable def hitL (bs : List Int) (lot : Int) (t : Nat) : Bool := (Builtin.bitAnd (lot / 2 ^ t) 1 == 1) && (countF bs (lot - 1 * 2 ^ t) == countF bs lot)
noncomputable def leastL (many : Int) (bs : List Int) (lot : Int) : Bool := (List.range many.toNat).all fun t => !hitL bs lot t
theorem bit_iff {lot : Int} (h : 0 ≤ lot) (t : Nat) : (Builtin.bitAnd (lot / 2 ^ t) 1 == 1) = true ↔ Th lot t := by
  rw [PyProof.Rows.bitAnd_m1, beq_iff_eq]
  unfold Th
  rw [Nat.testBit_eq_decide_div_mod_eq, decide_eq_true_eq, pow_cast]
  have e : lot = ((lot.toNat : Nat) : Int) := by omega
  rw [e, Int.toNat_natCast]
  constructor
  · intro z
    have : ((lot.toNat / 2 ^ t % 2 : Nat) : Int) = 1 := by push_cast; exact_mod_cast z
    omega
  · intro z
    have : ((lot.toNat / 2 ^ t % 2 : Nat) : Int) = 1 := by omega
    exact_mod_cast this
theorem has_pow {lot : Int} (h : 0 ≤ lot) (t : Nat) : hasF lot (1 * 2 ^ t) = true ↔ Th lot t := by
  rw [has_iff h (Int.le_of_lt (by have := two_pow_pos (t : Int); simpa using this))]
  constructor
  · intro z; exact z t ((th_pow t t).mpr rfl)
  · intro z i hi; rw [(th_pow t i).mp hi]; exact z
theorem sub_th {x : Nat} {t : Nat} (h : x.testBit t = true) : x - 2 ^ t = x ^^^ 2 ^ t ∧ 2 ^ t ≤ x := by
  have e1 : (x ^^^ 2 ^ t) ||| 2 ^ t = x := Nat.eq_of_testBit_eq fun i => by
    rw [Nat.testBit_or, Nat.testBit_xor, Nat.testBit_two_pow]
    by_cases e : t = i
    · subst e; simp [h]
    · simp [e]
  have e2 : (x ^^^ 2 ^ t) &&& 2 ^ t = 0 := Nat.eq_of_testBit_eq fun i => by
    rw [Nat.testBit_and, Nat.testBit_xor, Nat.testBit_two_pow]
    by_cases e : t = i
    · subst e; simp [h]
    · simp [e]
  have e3 := PyProof.Rows.nat_or_add_and (x ^^^ 2 ^ t) (2 ^ t)
  rw [e1, e2] at e3
  omega
theorem bits_lt {lot : Int} (h : 0 ≤ lot) {t : Nat} (ht : Th lot t) : t < Builtin.Int.intBits lot := by
  unfold Builtin.Int.intBits
  have h1 : 2 ^ t ≤ lot.toNat := (sub_th ht).2
  have h2 : lot.natAbs = lot.toNat := by omega
  have h3 : 0 < lot.toNat := Nat.lt_of_lt_of_le (Nat.two_pow_pos t) h1
  have h4 : (lot == 0) = false := by rw [beq_eq_false_iff_ne]; omega
  rw [h4, h2]
  simp only [Bool.false_eq_true, if_false]
  have := (Nat.le_log2 (by omega : lot.toNat ≠ 0)).mpr h1
  omega
theorem bits_small {lot : Int} {n : Nat} (h : InB (n : Int) lot) : Builtin.Int.intBits lot ≤ n := by
  unfold Builtin.Int.intBits
  split
  · omega
  · rename_i hz
    have h1 := h.1
    have h2 := h.2
    rw [Int.toNat_natCast, pow_cast] at h2
    have h3 : lot.natAbs < 2 ^ n := by omega
    have h4 : lot.natAbs ≠ 0 := by
      intro z
      have : lot = 0 := by omega
      subst this
      exact hz rfl
    have := (Nat.log2_lt h4).mpr h3
    omega
end OL
namespace OL
open PySem L2
noncomputable def Sm (x : Int) : Prop := 0 ≤ x ∧ x < 4096
theorem Sm.bits {x : Int} (h : Sm x) : Builtin.Int.intBits x ≤ 12 := bits_small (n := 12) ⟨h.1, h.2⟩
noncomputable def withinF (lot : Int) : List Int := upto (fun i => hasF lot i) (lot + 1).toNat
noncomputable def kinF (many : Int) (bs : List Int) (lot : Int) : List Int := (withinF lot).filter fun x => closeF many bs x == lot
noncomputable def leastLF (many : Int) (bs : List Int) (lot : Int) : List Int := (kinF many bs lot).filter fun x => leastP bs x
noncomputable def spHasT : Sp := fun vs H Q _ => ∃ lot t : Int, vs = [.int lot, .int t] ∧ 0 ≤ t ∧ t ≤ 64 ∧ Q (.bl (hasF lot (1 * 2 ^ t.toNat))) H
noncomputable def spInts (g : Int → List Int) : Sp := fun vs H Q _ => ∃ lot : Int, vs = [.int lot] ∧ Sm lot ∧ ∀ (r : Addr) (H' : Hp), Same H H' → H r = none → H' r = some (.lst ((g lot).map V.int)) → Q (.ref r) H'
noncomputable def spIsL (K : PySem.W.Frag) (g : Int → List Int → Int → Bool) : Sp := fun vs H Q _ => ∃ (b : Addr) (many : Int) (bs : List Int) (lot : Int), vs = [.ref b, .int lot] ∧ Bk K H b many bs ∧ bs.length ≤ 500 ∧ 0 ≤ many ∧ many ≤ 12 ∧ Sm lot ∧ ∀ H', Same H H' → Q (.bl (g many bs lot)) H'
noncomputable def spBInts (K : PySem.W.Frag) (g : Int → List Int → Int → List Int) : Sp := fun vs H Q _ => ∃ (b : Addr) (many : Int) (bs : List Int) (lot : Int), vs = [.ref b, .int lot] ∧ Bk K H b many bs ∧ bs.length ≤ 500 ∧ 0 ≤ many ∧ many ≤ 12 ∧ Sm lot ∧ ∀ (r : Addr) (H' : Hp), Same H H' → H r = none → H' r = some (.lst ((g many bs lot).map V.int)) → Q (.ref r) H'
theorem few_len {lot : Int} (h : Sm lot) : (thingsF lot).length ≤ 12 := Nat.le_trans (upto_len _ _) h.bits
end OL
namespace OL
open PySem L2
noncomputable def PairI (H : Hp) (e : Addr) (x : V) : Prop := ∃ (p t d : Addr) (ns : List Int), x = .ref p ∧ t ≠ e ∧ d ≠ e ∧ H p = some (.tup [.ref t, .ref d]) ∧ H t = some (.lst (ns.map V.int)) ∧ H d = some (.lst (ns.map V.int))
noncomputable def spWholes : Sp := fun vs H Q _ => ∃ (f d : Addr) (ns : List Int), vs = [.ref f, .ref d] ∧ H f = some (.lst (ns.map V.int)) ∧ H d = some (.lst (ns.map V.int)) ∧ ∀ H', Same H H' → Q (.bl true) H'
noncomputable def dueD (many : Int) (bs : List Int) (c i : Int) : Bool := (Builtin.bitAnd i c == i) && ((closeL many bs i == c) && leastL many bs i)
end OL

namespace L2
open PySem PySem.Spec PyProof.Rows
section
variable {prog : Program} {w : World} {A : Around} {E : Value → Shared → Prop} {s : Shared}
/-! ### a list of two taken apart -/
end
section
variable {X : Cx}
noncomputable def gLst2 (K : PySem.W.Frag) (t : TGs) : TG := fun v σ H Q => ∃ a x y, v = .ref a ∧ SqL K H a [x, y] ∧ t [x, y] σ H Q
/-! ### for .. in enumerate(list) -/
theorem for_enum {K : PySem.W.Frag} {a : Addr} {xs : List V} {g : TG} {tb : TS} {D : Ends} {σ : St} {H : Hp} (Pv : Nat → St → Hp → Prop) (h0 : Pv 0 σ H) (hl : ∀ i σ H, i ≤ xs.length → Pv i σ H → SqL K H a xs)
    (hs : ∀ i x p σ H, xs[i]? = some x → Pv i σ H → H p = none → g (.ref p) σ (upd H p (.tup [.int (i : Nat), x])) fun σ2 H2 => tb { D with nx := Pv (i + 1), ct := Pv (i + 1), bk := D.nx } σ2 H2) (hd : ∀ σ H, Pv xs.length σ H → D.nx σ H) :
    ∃ W : Nat → Nat → St → Hp → Prop, (∃ m, W 0 m σ H) ∧ ∀ i m σ H, W i m σ H →
      ((Ite K a).stop i H ∧ D.nx σ H) ∨ ((Ite K a).go i H ∧ ∃ N : St → Hp → Prop, (∀ σ' H', N σ' H' → ∃ m', m' < m ∧ W (i + 1) m' σ' H') ∧ ∀ x H', (Ite K a).yld i H x H' → g x σ H' fun σ2 H2 => tb { D with nx := N, ct := N, bk := D.nx } σ2 H2) := by
  refine ⟨fun i m σ H => m = xs.length - i ∧ i ≤ xs.length ∧ Pv i σ H, ⟨xs.length, by simp, Nat.zero_le _, h0⟩, ?_⟩
  rintro i m σ H ⟨rfl, hi, p⟩
  have q := hl i σ H hi p
  by_cases hlt : i < xs.length
  · refine .inr ⟨⟨xs, xs[i], q, by simp [hlt]⟩, Pv (i + 1), fun σ' H' p' => ⟨xs.length - (i + 1), by omega, rfl, hlt, p'⟩, fun x H' y => ?_⟩
    obtain ⟨pp, v, e1, hp, e2, y⟩ := y
    subst e1 e2
    exact hs i v pp σ _ (y xs q) p hp
  · have e : i = xs.length := by omega
    subst e
    exact .inl ⟨⟨xs, q, Nat.le_refl _⟩, hd σ H p⟩
end
end L2

namespace L2
open PySem PySem.Spec PyProof.Rows
end L2
namespace OL
open PySem L2
noncomputable def takeB (lot : Int) (r : Int × Int) : Bool := hasF lot r.1 && !hasF lot r.2
noncomputable def ptF (rs : List (Int × Int)) (lot : Int) : Option Nat := rs.findIdx? (takeB lot)
noncomputable def ptV : Option Nat → V
  | none => .non
  | some i => .int (i : Nat)
noncomputable def unsat (rs : List (Int × Int)) (lot : Int) : Nat := (rs.filter fun r => !hasF lot r.2).length
noncomputable def sndF (rs : List (Int × Int)) (i : Nat) : Int := (rs.getD i (0, 0)).2
noncomputable def bF (rs : List (Int × Int)) : Nat → Int → Int × List Int
  | 0, lot => (lot, [])
  | n + 1, lot => match ptF rs lot with
    | none => (lot, [])
    | some i => ((bF rs n (Builtin.bitOr lot (sndF rs i))).1, ((i : Nat) : Int) :: (bF rs n (Builtin.bitOr lot (sndF rs i))).2)
noncomputable def NN (rs : List (Int × Int)) : Prop := ∀ r ∈ rs, 0 ≤ r.1 ∧ 0 ≤ r.2
section
variable {rs : List (Int × Int)} {lot : Int} {i n : Nat}
structure Run (rs : List (Int × Int)) (lot0 : Int) (m : Nat) (come : Int) (st : List Int) : Prop where
  un : unsat rs come ≤ m
  nn : 0 ≤ come
  eq : bF rs rs.length lot0 = ((bF rs m come).1, st ++ (bF rs m come).2)
  ln : st.length + m ≤ rs.length
end
noncomputable def RL (H : Hp) (a : Addr) (rs : List (Int × Int)) : Prop := ∃ xs, H a = some (.lst xs) ∧ Rows H xs rs
noncomputable def spPlace : Sp := fun vs H Q _ => ∃ (a : Addr) (rs : List (Int × Int)) (lot : Int), vs = [.ref a, .int lot] ∧ RL H a rs ∧ ∀ H', Same H H' → Q (ptV (ptF rs lot)) H'
noncomputable def spBrought : Sp := fun vs H Q _ => ∃ (a : Addr) (rs : List (Int × Int)) (lot : Int), vs = [.ref a, .int lot] ∧ RL H a rs ∧ rs.length ≤ 100 ∧ NN rs ∧ 0 ≤ lot ∧
  ∀ (t s : Addr) (H' : Hp), Same H H' → H t = none → H s = none → H' t = some (.tup [.int (bF rs rs.length lot).1, .ref s]) → H' s = some (.lst ((bF rs rs.length lot).2.map V.int)) → Q (.ref t) H'
noncomputable def spRulesL : Sp := fun vs H Q _ => ∃ (c many most : Int), vs = [.int c, .int many, .int most] ∧ 0 ≤ many ∧ many ≤ 12 ∧ 0 ≤ most ∧ most ≤ 20 ∧
  ∀ (r : Addr) (rs : List (Int × Int)) (H' : Hp), Same H H' → H r = none → RL H' r rs → (rs.length : Int) ≤ most → (∀ x ∈ rs, Sm x.1 ∧ Sm x.2) → Q (.ref r) H'
noncomputable def shR (f : Int) (r : Int × Int) : Int × Int := (r.1 * 2 ^ f.toNat, r.2 * 2 ^ f.toNat)
/-- an early one: two tuples of a lot and steps -/
noncomputable def PairB (H : Hp) (e : Addr) (x : V) : Prop := ∃ (p t d s1 s2 : Addr) (c : Int) (ns : List Int), x = .ref p ∧ s1 ≠ e ∧ s2 ≠ e ∧ H p = some (.tup [.ref t, .ref d]) ∧ H t = some (.tup [.int c, .ref s1]) ∧ H d = some (.tup [.int c, .ref s2]) ∧ H s1 = some (.lst (ns.map V.int)) ∧ H s2 = some (.lst (ns.map V.int))
noncomputable def spWithin : Sp := fun vs H Q _ => ∃ x y : Int, vs = [.int x, .int y] ∧ Q (.bl (Builtin.bitAnd x y == x)) H
end OL

namespace L2
open PySem PySem.Spec PyProof.Rows
/-! ### list(reversed(x)) of a list -/
section
variable {prog : Program} {w : World} {A : Around} {s : Shared} {R : Result → Shared → Prop} {it : Addr} {fp wr : List Addr} {GG : Array GenState → Array GenState → Prop} {n : Nat} {PP : Nat → Value → Prop} {St : Nat → Shared → Prop}
end
section
variable {prog : Program} {w : World} {A : Around} {E : Value → Shared → Prop} {s : Shared}
end
section
variable {X : Cx}
/-- list(reversed(x)), x a list -/
noncomputable def tLRev (K : PySem.W.Frag) (ta : TA) : TE := fun σ H Q => ta σ H fun vs H1 => ∃ a xs, vs = [.ref a] ∧ SqL K H1 a xs ∧ ∀ l, H1 l = none → Q (.ref l) (upd H1 l (.lst xs.reverse))
/-! ### for .. in reversed(list) -/
noncomputable def Itv (K : PySem.W.Frag) (a : Addr) (n : Nat) : It := ⟨fun i H => i < n ∧ ∃ xs, SqL K H a xs ∧ xs.length = n, fun i H x H' => H' = H ∧ ∀ xs, SqL K H a xs → xs[n - 1 - i]? = some x, fun i _ => i = n⟩
noncomputable def iRev (K : PySem.W.Frag) (ta : TA) : TI := fun σ H R => ta σ H fun vs H1 => ∃ a xs, vs = [.ref a] ∧ SqL K H1 a xs ∧ R (Itv K a xs.length) H1
end
end L2

namespace OL
open PySem L2
noncomputable def overF (x y : Int) : Bool := (!decide (x = y)) && hasF x y
noncomputable def nextL (ls : List Int) (x y : Int) : Bool := overF x y && (ls.filter fun m => overF x m && overF m y).isEmpty
noncomputable def keepB (ls : List Int) (T : Int → Bool) (R : Int → Int → Bool) (x : Int) : Bool := T x && !(ls.any fun m => R x m && T m)
structure Rise (ls : List Int) : Prop where
  up : ls.Pairwise (· < ·)
  nn : ∀ x ∈ ls, 0 ≤ x
noncomputable def abT (lot : Int) (x : Int) : Bool := overF x lot
noncomputable def beT (lot : Int) (x : Int) : Bool := overF lot x
noncomputable def spLotsOf : Sp := fun vs H Q _ => ∃ (a : Addr) (rs : List (Int × Int)), vs = [.ref a] ∧ RL H a rs ∧ rs.length ≤ 5000 ∧ ∀ (r : Addr) (H' : Hp), Same H H' → H r = none → H' r = some (.lst ((rs.map Prod.fst).map V.int)) → Q (.ref r) H'
noncomputable def spAny (K : PySem.W.Frag) (g : Int → Int → Bool) : Sp := fun vs H Q _ => ∃ (x : Int) (o : Addr) (ts : List Int), vs = [.int x, .ref o] ∧ SqL K H o (ts.map V.int) ∧ Q (.bl (ts.any fun t => g x t)) H
noncomputable def spNb (g : List Int → Int → Int → Bool) : Sp := fun vs H Q _ => ∃ (a : Addr) (rs : List (Int × Int)) (lot : Int), vs = [.ref a, .int lot] ∧ RL H a rs ∧ rs.length ≤ 5000 ∧ Rise (rs.map Prod.fst) ∧ 0 ≤ lot ∧
  ∀ (r : Addr) (H' : Hp), Same H H' → H r = none → H' r = some (.lst (((rs.map Prod.fst).filter fun x => g (rs.map Prod.fst) x lot).map V.int)) → Q (.ref r) H'
noncomputable def spOver : Sp := fun vs H Q _ => ∃ x y : Int, vs = [.int x, .int y] ∧ Q (.bl (overF x y)) H
noncomputable def spNextL (K : PySem.W.Frag) : Sp := fun vs H Q _ => ∃ (o : Addr) (ls : List Int) (x y : Int), vs = [.ref o, .int x, .int y] ∧ SqL K H o (ls.map V.int) ∧ ls.length ≤ 5000 ∧ ∀ H', Same H H' → Q (.bl (nextL ls x y)) H'
end OL

namespace L2
open PySem PySem.Spec PyProof.Rows
section
variable {X : Cx}
/-! ### str of a list or tuple of data -/
theorem call_strD {k : Nat} (hr : Room k X.A) : CallR X (.type "str") (fun xs H Q => ∃ p d, xs = [.ref p] ∧ DR X.K H (.ref p) d ∧ d.showable = true ∧ d.hasDict = false ∧ d.depth ≤ 60 ∧ d.shown.length ≤ sizeLine ∧ Q (.str d.shown) H) := by
  intro pins s σ H xs us Q I r h
  obtain ⟨p, d, rfl, hd, h1, h2, h3, h4, q⟩ := h
  obtain ⟨u, rfl, ru⟩ := vals1 r
  cases (show u = Value.ref p from ru)
  obtain ⟨as, ra⟩ := hd.reads I ru
  exact str_of_reads ra h1 (PyData.noDict_hsm h2) hr.gd (by have := hr.un; omega) (fun _ _ e => e) (fun h' u tk hk => ⟨.str d.shown, H, I.kept hk, ⟨u, rfl⟩, q⟩) h4
end
end L2

namespace OL
open PySem L2
noncomputable def gcdF (x y : Int) : Int := (Nat.gcd x.toNat y.toNat : Nat)
noncomputable def shA (t b : Int) : List Int := [t / gcdF t b, b / gcdF t b]
/-- the share of t in b: nothing where b is nought, else a tuple -/
noncomputable def Sh (K : PySem.W.Frag) (H : Hp) (v : V) (t b : Int) : Prop := (b = 0 ∧ v = .non) ∨ (0 < b ∧ ∃ p, v = .ref p ∧ H p = some (.tup ((shA t b).map V.int)))
noncomputable def shD (t b : Int) : PyData := if b = 0 then .none else .tuple ((shA t b).map PyData.int)
/-- a rule: a tuple of two lots -/
noncomputable def Rl (K : PySem.W.Frag) (H : Hp) (r : Addr) (x y : Int) : Prop := SqT K H r [.int x, .int y]
noncomputable def spRuleC (K : PySem.W.Frag) (g : List Int → Int → Int → V) : Sp := fun vs H Q _ => ∃ (b r : Addr) (many : Int) (bs : List Int) (x y : Int), vs = [.ref b, .ref r] ∧ Bk K H b many bs ∧ Rl K H r x y ∧ bs.length ≤ 500 ∧ 0 ≤ many ∧ many ≤ 64 ∧ ∀ H', Same H H' → Q (g bs x y) H'
noncomputable def spShare (K : PySem.W.Frag) : Sp := fun vs H Q _ => ∃ (b r : Addr) (many : Int) (bs : List Int) (x y : Int), vs = [.ref b, .ref r] ∧ Bk K H b many bs ∧ Rl K H r x y ∧ bs.length ≤ 500 ∧ 0 ≤ many ∧ many ≤ 64 ∧ ∀ v H', Same H H' → Sh K H' v (countF bs (Builtin.bitOr x y)) (countF bs x) → Q v H'
noncomputable def spLow : Sp := fun vs H Q _ => ∃ (t b : Int), vs = [.int t, .int b] ∧ 0 ≤ t ∧ 0 < b ∧ b ≤ 500 ∧ ∀ p, H p = none → Q (.ref p) (upd H p (.tup ((shA t b).map V.int)))
noncomputable def spDivL : Sp := fun vs H Q _ => ∃ (x y : Int), vs = [.int x, .int y] ∧ 0 ≤ x ∧ 0 ≤ y ∧ Q (.int (gcdF x y)) H
end OL

namespace OL
open PySem L2
noncomputable def stepL (ls : List Int) (cur other : Int) : List Int := (ls.filter fun x => nextL ls x cur).filter fun x => hasF other x
noncomputable def lastF (w : List Int) : Int := w.getD (w.length - 1) 0
structure WayP (ls : List Int) (one other : Int) (w : List Int) : Prop where
  pos : 0 < w.length
  first : w.getD 0 0 = one
  mem : ∀ x ∈ w, x ∈ ls
  steps : ∀ j, j + 1 < w.length → nextL ls (w.getD (j + 1) 0) (w.getD j 0) = true
  inn : hasF other (lastF w) = true
  len : (w.length : Int) ≤ lastF w + 1
noncomputable def spStep (K : PySem.W.Frag) : Sp := fun vs H Q _ => ∃ (a : Addr) (rs : List (Int × Int)) (lot other : Int), vs = [.ref a, .int lot, .int other] ∧ RL H a rs ∧ rs.length ≤ 5000 ∧ Rise (rs.map Prod.fst) ∧ lot ∈ rs.map Prod.fst ∧ other ∈ rs.map Prod.fst ∧ overF other lot = true ∧
  ∀ (x : Int) (H' : Hp), Same H H' → x ∈ rs.map Prod.fst → nextL (rs.map Prod.fst) x lot = true → hasF other x = true → Q (.int x) H'
noncomputable def spWay (K : PySem.W.Frag) : Sp := fun vs H Q _ => ∃ (a : Addr) (rs : List (Int × Int)) (one other : Int), vs = [.ref a, .int one, .int other] ∧ RL H a rs ∧ rs.length ≤ 5000 ∧ Rise (rs.map Prod.fst) ∧ one ∈ rs.map Prod.fst ∧ other ∈ rs.map Prod.fst ∧ hasF other one = true ∧ other < 4000 ∧
  ∀ (r : Addr) (w : List Int) (H' : Hp), Same H H' → H r = none → H' r = some (.lst (w.map V.int)) → WayP (rs.map Prod.fst) one other w → lastF w = other → Q (.ref r) H'
noncomputable def spIsWay : Sp := fun vs H Q _ => ∃ (a f : Addr) (rs : List (Int × Int)) (w : List Int) (one other : Int), vs = [.ref a, .ref f, .int one, .int other] ∧ RL H a rs ∧ rs.length ≤ 5000 ∧ Rise (rs.map Prod.fst) ∧ H f = some (.lst (w.map V.int)) ∧ w.length ≤ 4100 ∧ WayP (rs.map Prod.fst) one other w ∧ lastF w = other ∧ ∀ H', Same H H' → Q (.bl true) H'
theorem and_InB {many x y : Int} (hx : InB many x) (hy : 0 ≤ y) : InB many (Builtin.bitAnd x y) := by
  refine ⟨and_nn hx.1 hy, ?_⟩
  have a1 : Builtin.bitAnd x y ≤ x := by
    rw [PyProof.Rows.bitAnd_pp hx.1 hy]
    have : x.toNat &&& y.toNat ≤ x.toNat := Nat.and_le_left
    have := hx.1
    omega
  exact Int.lt_of_le_of_lt a1 hx.2
end OL

namespace L2
open PySem PySem.Spec PyProof.Rows
/-! gt# max(list of ints, default=None) -/
section
variable {prog : Program} {w : World} {A : Around} {R : Result → Shared → Prop} {it : Addr} {fp wr : List Addr} {n : Nat} {PP : Nat → Value → Prop} {St : Nat → Heap → Prop}
end
section
variable {X : Cx}
/-- the value: None of none, else the best of the ints -/
noncomputable def bstmax (ns : List Int) : Nat → Int
  | 0 => ns.getD 0 0
  | j + 1 => if ns.getD (j + 1) 0 > bstmax ns j then ns.getD (j + 1) 0 else bstmax ns j
noncomputable def valmax (ns : List Int) : V := if ns.length = 0 then .non else .int (bstmax ns (ns.length - 1))
theorem dv_max_best (ns : List Int) : ∀ j, ns.getD (argBest (fun i j => decide (ns.getD i 0 > ns.getD j 0)) j) 0 = bstmax ns j
  | 0 => rfl
  | j + 1 => by
    have ih := dv_max_best ns j
    show ns.getD (if decide (ns.getD (j + 1) 0 > ns.getD (argBest _ j) 0) then j + 1 else argBest _ j) 0 = if ns.getD (j + 1) 0 > bstmax ns j then ns.getD (j + 1) 0 else bstmax ns j
    rw [ih]
    by_cases h : ns.getD (j + 1) 0 > bstmax ns j
    · rw [if_pos h, if_pos (decide_eq_true h)]
    · rw [if_neg h, if_neg (by simpa using h)]; exact ih
noncomputable def tDvmax (K : PySem.W.Frag) (ta : TA) : TE := fun σ H Q => ta σ H fun vs H1 => ∃ a ns, vs = [.ref a] ∧ SqL K H1 a (ns.map V.int) ∧ Q (valmax ns) H1
end
/-! lt# min(list of ints, default=None) -/
theorem dv_min_args (a v : Value) : argsOk "min" ⟨[a], [(Str.ofString "default", v)]⟩ := by
  unfold argsOk; kernel_rfl
section
variable {prog : Program} {w : World} {A : Around} {R : Result → Shared → Prop} {it : Addr} {fp wr : List Addr} {n : Nat} {PP : Nat → Value → Prop} {St : Nat → Heap → Prop}
end
section
variable {X : Cx}
/-- the value: None of none, else the best of the ints -/
noncomputable def bstmin (ns : List Int) : Nat → Int
  | 0 => ns.getD 0 0
  | j + 1 => if ns.getD (j + 1) 0 < bstmin ns j then ns.getD (j + 1) 0 else bstmin ns j
noncomputable def valmin (ns : List Int) : V := if ns.length = 0 then .non else .int (bstmin ns (ns.length - 1))
theorem dv_min_best (ns : List Int) : ∀ j, ns.getD (argBest (fun i j => decide (ns.getD i 0 < ns.getD j 0)) j) 0 = bstmin ns j
  | 0 => rfl
  | j + 1 => by
    have ih := dv_min_best ns j
    show ns.getD (if decide (ns.getD (j + 1) 0 < ns.getD (argBest _ j) 0) then j + 1 else argBest _ j) 0 = if ns.getD (j + 1) 0 < bstmin ns j then ns.getD (j + 1) 0 else bstmin ns j
    rw [ih]
    by_cases h : ns.getD (j + 1) 0 < bstmin ns j
    · rw [if_pos h, if_pos (decide_eq_true h)]
    · rw [if_neg h, if_neg (by simpa using h)]; exact ih
noncomputable def tDvmin (K : PySem.W.Frag) (ta : TA) : TE := fun σ H Q => ta σ H fun vs H1 => ∃ a ns, vs = [.ref a] ∧ SqL K H1 a (ns.map V.int) ∧ Q (valmin ns) H1
end
end L2

namespace L2
open PySem PySem.Spec PyProof.Rows
section
variable {X : Cx}
noncomputable def rSumI (K : PySem.W.Frag) : List V → Hp → VK → Prop := fun xs H Q => ∃ (p : Addr) (ns : List Int), xs = [.ref p] ∧ SqL K H p (ns.map V.int) ∧ Q (.int (List.sum ns)) H
/-- sorted of a list of fewer than 64 whole numbers -/
noncomputable def rSortI (K : PySem.W.Frag) : List V → Hp → VK → Prop := fun xs H Q => ∃ (p : Addr) (ns : List Int), xs = [.ref p] ∧ SqL K H p (ns.map V.int) ∧ ns.length < 64 ∧ ∀ (l : Addr) (ns' : List Int), H l = none → ns'.Perm ns → ns'.Pairwise (· ≤ ·) → Q (.ref l) (upd H l (.lst (ns'.map V.int)))
end
end L2

namespace OL
open PySem L2
noncomputable def eqN (bs : List Int) (x : Int) : Nat := (bs.filter fun b => b == x).length
noncomputable def jmany (told : List (Int × Int)) (row : Int × Int) : Int := row.2 - ((told.filter fun o => hasF o.1 row.1).map Prod.snd).sum
noncomputable def jstep (told : List (Int × Int)) (row : Int × Int) : List (Int × Int) := if jmany told row > 0 then told ++ [(row.1, jmany told row)] else told
noncomputable def justF (cl : List (Int × Int)) : List (Int × Int) := (cl.reverse.foldl jstep []).reverse
noncomputable def baskF (rs : List (Int × Int)) : List Int := rs.flatMap fun r => List.replicate r.2.toNat r.1
noncomputable def isBk (bs : List Int) (i : Nat) : Bool := decide (0 < eqN bs (i : Int))
noncomputable def bkRow (bs : List Int) (i : Nat) : Int × Int := ((i : Int), (eqN bs (i : Int) : Int))
noncomputable def justU (bs : List Int) (n : Nat) : List (Int × Int) := ((List.range n).filter (isBk bs)).map (bkRow bs)
section
variable {many : Int} {bs : List Int} (hb : ∀ x ∈ bs, InB many x)
include hb
end
end OL
namespace OL
open PySem L2
noncomputable def spJust : Sp := fun vs H Q _ => ∃ (a : Addr) (rs : List (Int × Int)), vs = [.ref a] ∧ RL H a rs ∧ rs.length ≤ 1000 ∧ ∀ (r : Addr) (xs : List V) (H' : Hp), Same H H' → H r = none → H' r = some (.lst xs) → Rows H' xs (justF rs) → Q (.ref r) H'
noncomputable def spBaskets : Sp := fun vs H Q _ => ∃ (a : Addr) (rs : List (Int × Int)), vs = [.ref a] ∧ RL H a rs ∧ rs.length ≤ 1000 ∧ (∀ r ∈ justF rs, 0 ≤ r.2 ∧ r.2 ≤ 100) ∧ (baskF (justF rs)).length ≤ 1000 ∧ ∀ (r : Addr) (H' : Hp), Same H H' → H r = none → H' r = some (.lst ((baskF (justF rs)).map V.int)) → Q (.ref r) H'
end OL

namespace L2
open PySem PySem.Spec PyProof.Rows
/-! ### lists of pairs as tables -/
section
variable {κ : Type} [DecidableEq κ]
noncomputable def valV (kvs : List (κ × V)) (k : κ) : Option V := (kvs.find? fun kv => decide (kv.1 = k)).map (·.2)
/-- in its place, or at the end -/
noncomputable def putK (kvs : List (κ × V)) (k : κ) (v : V) : List (κ × V) :=
  if (kvs.any fun kv => decide (kv.1 = k)) = true then kvs.map (fun kv => if kv.1 = k then (kv.1, v) else kv) else kvs ++ [(k, v)]
noncomputable def dropK (kvs : List (κ × V)) (k : κ) : List (κ × V) := kvs.filter fun kv => decide (kv.1 ≠ k)

end


/-! ### a tracked dict, its keys ints and texts or tuples of these -/
/-- raw entries of a dict with tuple keys -/
noncomputable abbrev KT (H : Hp) : List (List Key × V) → List (List Key × Addr × Value) → Prop := Paired fun p q => p.1 = q.1 ∧ H q.2.1 = some (.tup (p.1.map kV)) ∧ RelV p.2 q.2.2
section
variable {P : Program} {w : World} {H : Hp} {h : Heap} {a : Addr}
end

/-- what the dict at a holds at the key y -/
noncomputable def DGet (H : Hp) (a : Addr) (y : V) (r : Option V) : Prop :=
  (∃ kvs k, Rd H a (.dK kvs) ∧ y = kV k ∧ r = valV kvs k) ∨ ∃ kvs k b, Rd H a (.dT kvs) ∧ y = .ref b ∧ H b = some (.tup (k.map kV)) ∧ r = valV kvs k
/-- the heap behind a[y] = v -/
noncomputable def DPut (H : Hp) (a : Addr) (y v : V) (H' : Hp) : Prop :=
  (∃ kvs k, H a = some (.dK kvs) ∧ y = kV k ∧ kvs.length < sizeLine ∧ H' = upd H a (.dK (putK kvs k v))) ∨
  ∃ kvs k b, H a = some (.dT kvs) ∧ y = .ref b ∧ H b = some (.tup (k.map kV)) ∧ kvs.length < sizeLine ∧ H' = upd H a (.dT (putK kvs k v))
section
variable {X : Cx} {pins : List (Addr × Obj)} {σ : St} {H : Hp} {s : Shared} {a : Addr} {y v : V} {u r : Value} {o : Option V} {A : Around} {E : Value → Shared → Prop}

end

section
variable {X : Cx} {pins : List (Addr × Obj)} {σ : St} {H : Hp} {s : Shared} {a : Addr} {kvs : List (Key × V)} {k : Key} {u : Value} {A : Around} {E : Value → Shared → Prop}
end


/-! ### readings and rules -/
/-- the element of a subscription, not a slice -/
noncomputable def NoSl (i : Expr) : Prop := ∀ ov iv, subscripted i false ov iv = operate [ov, iv] (getItem ov iv)
/-- d[y] -/
noncomputable def tDGet (td ty : TE) : TE := fun σ H Q => td σ H fun x H1 => ty σ H1 fun y H2 => ∃ a v, x = .ref a ∧ DGet H2 a y (some v) ∧ Q v H2
/-- y in d, y not in d -/
noncomputable def tDIn (ty td : TE) : TE := fun σ H Q => ty σ H fun y H1 => td σ H1 fun x H2 => ∃ a o, x = .ref a ∧ DGet H2 a y o ∧ Q (.bl o.isSome) H2
noncomputable def tDNotIn (ty td : TE) : TE := fun σ H Q => ty σ H fun y H1 => td σ H1 fun x H2 => ∃ a o, x = .ref a ∧ DGet H2 a y o ∧ Q (.bl (!o.isSome)) H2
/-- d[y] = v -/
noncomputable def sDPut (td ty tv : TE) : TS := fun D σ H => tv σ H fun v H1 => td σ H1 fun x H2 => ty σ H2 fun y H3 => ∃ a H4, x = .ref a ∧ DPut H3 a y v H4 ∧ D.nx σ H4
/-- d[y] op= v -/
noncomputable def sDAug (td ty tv : TE) (rd : V → V → Hp → VK → Prop) : TS := fun D σ H => td σ H fun x H1 => ty σ H1 fun y H2 => ∃ a v, x = .ref a ∧ DGet H2 a y (some v) ∧
  tv σ H2 fun y2 H3 => rd v y2 H3 fun z H4 => ∃ H5, DPut H4 a y z H5 ∧ D.nx σ H5
/-- del d[y] -/
noncomputable def sDDel (td ty : TE) : TS := fun D σ H => td σ H fun x H1 => ty σ H1 fun y H2 => ∃ a kvs k, x = .ref a ∧ H2 a = some (.dK kvs) ∧ y = kV k ∧ (valV kvs k).isSome = true ∧ D.nx σ (upd H2 a (.dK (dropK kvs k)))

section
variable {X : Cx} {o i e value : Expr} {pos pos' tpos : Pos} {td ty tv : TE}
end


/-! ### displays -/
/-- {}, to be a dict of the kind that is wanted -/
noncomputable def tDNewK : TE := fun _ H Q => ∀ p, H p = none → Q (.ref p) (upd H p (.dK []))
noncomputable def tDNewT : TE := fun _ H Q => ∀ p, H p = none → Q (.ref p) (upd H p (.dT []))
section
variable {X : Cx} {pos : Pos}
end

/-- the pairs of a display, from the left -/
noncomputable def tPairs : List (TE × TE) → St → Hp → (List (V × V) → Hp → Prop) → Prop
  | [], _, H, Q => Q [] H
  | (tk, tv) :: r, σ, H, Q => tk σ H fun x H1 => tv σ H1 fun y H2 => tPairs r σ H2 fun ps H3 => Q ((x, y) :: ps) H3
noncomputable abbrev VV : List (V × V) → List (Value × Value) → Prop := Paired fun p q => RelV p.1 q.1 ∧ RelV p.2 q.2
noncomputable def PPs (X : Cx) (pos : Pos) (keys : List (Option Expr)) (values : List Expr) (trs : List (TE × TE)) : Prop :=
  ∀ (pins : List (Addr × Obj)) (s : Shared) (σ : St) (H : Hp) (Q : List (V × V) → Hp → Prop), Inv X pins σ H s → tPairs trs σ H Q →
    wpAny (model X.prog X.w) X.A (evalPairs (pairTrees keys values X.env pos)) (fun vs s' => ∃ ps H', Inv X pins σ H' s' ∧ VV ps vs ∧ Q ps H') X.xe s
noncomputable def mergeK (kvs more : List (Key × V)) : List (Key × V) := more.foldl (fun acc kv => putK acc kv.1 kv.2) kvs
/-- {k: v, ..} with keys ints and texts; the new dict stands empty while the pairs are made -/
noncomputable def tDisp (trs : List (TE × TE)) : TE := fun σ H Q => ∀ p, H p = none → tPairs trs σ (upd H p (.dK [])) fun ps H2 => H2 p = some (.dK []) ∧ ∃ kvs : List (Key × V), ps = kvs.map (fun kv => (kV kv.1, kv.2)) ∧ kvs.length ≤ 15 ∧ Q (.ref p) (upd H2 p (.dK (mergeK [] kvs)))
/-! ### methods -/
/-- a method call o.m(e) of a built-in, with one argument: what must be seen of the text -/
structure M1 (X : Cx) (o : Expr) (m : Str) (apos : Pos) (e : Expr) (cpos : Pos) : Prop where
  base : attributeBase o m X.env (eval o X.env) = eval o X.env
  few : ((backTo cpos (starEach [e] X.env)).all (fun x => !x.1) && (backToKw cpos (keywordEach [] X.env)).all (fun x => x.1.isSome)
    && decide (([e] : List Expr).length + ([] : List Keyword).length + (if ([] : List Keyword).isEmpty then 0 else 1) < 30)) = true
  line : (apos.endLine == cpos.line) = true
  trees : backTo cpos (starEach [e] X.env) = [(false, eval e X.env)]
structure M2 (X : Cx) (o : Expr) (m : Str) (apos : Pos) (e f : Expr) (cpos : Pos) : Prop where
  base : attributeBase o m X.env (eval o X.env) = eval o X.env
  few : ((backTo cpos (starEach [e, f] X.env)).all (fun x => !x.1) && (backToKw cpos (keywordEach [] X.env)).all (fun x => x.1.isSome)
    && decide (([e, f] : List Expr).length + ([] : List Keyword).length + (if ([] : List Keyword).isEmpty then 0 else 1) < 30)) = true
  line : (apos.endLine == cpos.line) = true
  trees : backTo cpos (starEach [e, f] X.env) = [(false, eval e X.env), (false, eval f X.env)]

/-- a is a dict, whatever its keys -/
noncomputable def IsD (H : Hp) (a : Addr) : Prop := (∃ kvs, Rd H a (.dK kvs)) ∨ ∃ kvs, Rd H a (.dT kvs)
section
variable {X : Cx} {pins : List (Addr × Obj)} {σ : St} {H : Hp} {s : Shared} {a : Addr} {y d : V} {u r : Value} {o : Option V} {A : Around} {E : Value → Shared → Prop}
end

noncomputable def tDGet1 (td ty : TE) : TE := fun σ H Q => td σ H fun x H1 => ∃ a, x = .ref a ∧ IsD H1 a ∧ ty σ H1 fun y H2 => ∃ o, DGet H2 a y o ∧ Q (o.getD .non) H2
noncomputable def tDGet2 (td ty tx : TE) : TE := fun σ H Q => td σ H fun x H1 => ∃ a, x = .ref a ∧ IsD H1 a ∧ ty σ H1 fun y H2 => tx σ H2 fun z H3 => ∃ o, DGet H3 a y o ∧ Q (o.getD z) H3
/-- d.pop(k): there; d.pop(k, x): there or not -/
noncomputable def tDPop1 (td ty : TE) : TE := fun σ H Q => td σ H fun x H1 => ∃ a, x = .ref a ∧ IsD H1 a ∧ ty σ H1 fun y H2 => ∃ kvs k v, H2 a = some (.dK kvs) ∧ y = kV k ∧ valV kvs k = some v ∧ Q v (upd H2 a (.dK (dropK kvs k)))
noncomputable def tDPop2 (td ty tx : TE) : TE := fun σ H Q => td σ H fun x H1 => ∃ a, x = .ref a ∧ IsD H1 a ∧ ty σ H1 fun y H2 => tx σ H2 fun z H3 => ∃ kvs k, H3 a = some (.dK kvs) ∧ y = kV k ∧
  (∀ v, valV kvs k = some v → Q v (upd H3 a (.dK (dropK kvs k)))) ∧ (valV kvs k = none → Q z H3)
section
variable {X : Cx} {o e f : Expr} {apos cpos : Pos} {td ty tx : TE}
end

/-! ### dict(d): a copy -/
section
variable {X : Cx} {pins : List (Addr × Obj)} {σ : St} {H : Hp} {s : Shared} {a : Addr} {kvs : List (Key × V)} {A : Around} {E : Value → Shared → Prop}
end


section
variable {X : Cx} {pins : List (Addr × Obj)} {σ : St} {H : Hp} {s : Shared} {a : Addr} {y : V} {u : Value} {A : Around} {E : Value → Shared → Prop}
end
end L2


namespace L2
open PySem PySem.Spec PyProof.Rows
section
variable {X : Cx}
/-! ### for .. in d: the dict stands still while it is walked -/
noncomputable def Itd (d : Addr) (o : Obj) (kvs : List (Key × V)) : It := ⟨fun i H => i < kvs.length ∧ H d = some (.frz o (.dK kvs)), fun i H x H' => H' = H ∧ ∃ k v, kvs[i]? = some (k, v) ∧ x = kV k, fun i H => i = kvs.length ∧ H d = some (.frz o (.dK kvs))⟩
noncomputable def iDict (te : TE) : TI := fun σ H R => te σ H fun x H1 => ∃ (d : Addr) (kvs : List (Key × V)), x = .ref d ∧ H1 d = some (.dK kvs) ∧ ∀ o, R (Itd d o kvs) (upd H1 d (.frz o (.dK kvs)))
end
section
variable {K : PySem.W.Frag} {m : Nat} {js : List Nat} {g : TG} {c : TT} {te : TE} {σ : St} {H1 : Hp} {Q : VK}
end
end L2

namespace OL
open PySem L2
/-- how many bits stand in a number -/
noncomputable def popc (n : Nat) : Nat := if h : n = 0 then 0 else n % 2 + popc (n / 2)
termination_by n
decreasing_by omega
section
variable {many : Int} {bs : List Int} (hb : ∀ x ∈ bs, InB many x)
include hb
end
noncomputable def ofB (bs : List Int) (least : Int) (i : Nat) : Bool := decide (least ≤ countF bs (i : Int))
noncomputable def ofKV (bs : List Int) (i : Nat) : Key × V := (Sum.inl (i : Int), V.int (colF bs (i : Int)))
noncomputable def oftenKV (bs : List Int) (least : Int) (n : Nat) : List (Key × V) := ((List.range n).filter (ofB bs least)).map (ofKV bs)
noncomputable def oftenR (bs : List Int) (least : Int) (n : Nat) : List (Int × Int) := ((List.range n).filter (ofB bs least)).map fun (i : Nat) => ((i : Int), countF bs (i : Int))
noncomputable def keepKV (kvs : List (Key × V)) (least lot col : Int) : List (Key × V) := if least ≤ ((popc col.toNat : Nat) : Int) then putK kvs (.inl lot) (.int col) else kvs
/-- the lots gone through, and what a thing more brings behind them -/
noncomputable def moreKV (bs : List Int) (least : Int) (t j : Nat) : List (Key × V) := oftenKV bs least (2 ^ t) ++ (((((List.range (2 ^ t)).filter (ofB bs least)).take j).filter fun i => ofB bs least (2 ^ t + i)).map fun i => ofKV bs (2 ^ t + i))
noncomputable def spPlaces : Sp := fun vs H Q _ => ∃ x : Int, vs = [.int x] ∧ 0 ≤ x ∧ Q (.int ((popc x.toNat : Nat) : Int)) H
noncomputable def spKeep : Sp := fun vs H Q _ => ∃ (d : Addr) (kvs : List (Key × V)) (least lot col : Int), vs = [.ref d, .int least, .int lot, .int col] ∧ H d = some (.dK kvs) ∧ kvs.length ≤ 5000 ∧ 0 ≤ col ∧ ∀ H', SameB d H H' → TSame H H' → H' d = some (.dK (keepKV kvs least lot col)) → Q .non H'
noncomputable def spOftenC (K : PySem.W.Frag) : Sp := fun vs H Q _ => ∃ (b : Addr) (many : Int) (bs : List Int) (least : Int), vs = [.ref b, .int least] ∧ Bk K H b many bs ∧ bs.length ≤ 500 ∧ 0 ≤ many ∧ many ≤ 10 ∧ (∀ x ∈ bs, InB many x) ∧ ∀ (d : Addr) (H' : Hp), Same H H' → H d = none → H' d = some (.dK (oftenKV bs least (2 ^ many.toNat))) → Q (.ref d) H'
noncomputable def spByC (K : PySem.W.Frag) : Sp := fun vs H Q _ => ∃ (b : Addr) (many : Int) (bs : List Int) (least : Int), vs = [.ref b, .int least] ∧ Bk K H b many bs ∧ bs.length ≤ 500 ∧ 0 ≤ many ∧ many ≤ 10 ∧ (∀ x ∈ bs, InB many x) ∧ ∀ (r : Addr) (xs : List V) (H' : Hp), Same H H' → H r = none → H' r = some (.lst xs) → Rows H' xs (oftenR bs least (2 ^ many.toNat)) → Q (.ref r) H'
end OL
namespace OL
open PySem L2
noncomputable def TupAll (H : Hp) (xs : List V) (n : Nat) : Prop := ∀ x ∈ xs, ∃ (p : Addr) (ms : List Int), x = .ref p ∧ H p = some (.tup (ms.map V.int)) ∧ ms.length = n
noncomputable def spRowsL : Sp := fun vs H Q _ => ∃ (f : Addr) (xs : List V) (n : Nat), vs = [.ref f, .int (n : Int)] ∧ H f = some (.lst xs) ∧ TupAll H xs n ∧ n ≤ 10 ∧ ∀ H', Same H H' → Q (.bl true) H'
noncomputable def spLeast62 : Sp := fun vs H Q _ => ∃ (l b bl : Addr) (ds bs : List Int) (many : Int), vs = [.ref l, .ref b] ∧ H l = some (.lst (ds.map V.int)) ∧ H b = some (.tup [.int many, .ref bl]) ∧ H bl = some (.lst (bs.map V.int)) ∧ bl ≠ l ∧ bs.length ≤ 500 ∧ ∀ (d : Int) (ds' : List Int) (H' : Hp), SameB l H H' → H' l = some (.lst (ds'.map V.int)) → 1 ≤ d → Q (.int d) H'
end OL

namespace OL
open PySem L2
noncomputable def olF (bs : List Int) (least lot : Int) : Bool := decide (least ≤ countF bs lot) && leastP bs lot
noncomputable def rowsP (bs : List Int) (p : Int → Bool) (n : Nat) : List (Int × Int) := ((List.range n).filter fun (i : Nat) => p (i : Int)).map fun (i : Nat) => ((i : Int), countF bs (i : Int))
noncomputable def spOL (K : PySem.W.Frag) : Sp := fun vs H Q _ => ∃ (b : Addr) (many : Int) (bs : List Int) (least lot : Int), vs = [.ref b, .int least, .int lot] ∧ Bk K H b many bs ∧ bs.length ≤ 500 ∧ 0 ≤ many ∧ many ≤ 12 ∧ Sm lot ∧ ∀ H', Same H H' → Q (.bl (olF bs least lot)) H'
noncomputable def spRowsB (K : PySem.W.Frag) (p : List Int → Int → Int → Bool) : Sp := fun vs H Q _ => ∃ (b : Addr) (many : Int) (bs : List Int) (least : Int), vs = [.ref b, .int least] ∧ Bk K H b many bs ∧ bs.length ≤ 500 ∧ 0 ≤ many ∧ many ≤ 12 ∧ ∀ (r : Addr) (xs : List V) (H' : Hp), Same H H' → H r = none → H' r = some (.lst xs) → Rows H' xs (rowsP bs (p bs least) (2 ^ many.toNat)) → Q (.ref r) H'
end OL
namespace OL
open PySem L2
noncomputable def dlF (many : Int) (bs : List Int) (least lot : Int) : Bool := decide (least ≤ countF bs lot) && leastL many bs lot
noncomputable def spDue (K : PySem.W.Frag) : Sp := fun vs H Q _ => ∃ (b : Addr) (many : Int) (bs : List Int) (least : Int), vs = [.ref b, .int least] ∧ Bk K H b many bs ∧ bs.length ≤ 500 ∧ 0 ≤ many ∧ many ≤ 12 ∧ (∀ x ∈ bs, InB many x) ∧ ∀ (r : Addr) (xs : List V) (H' : Hp), Same H H' → H r = none → H' r = some (.lst xs) → Rows H' xs (rowsP bs (olF bs least) (2 ^ many.toNat)) → Q (.ref r) H'
noncomputable def spTold : Sp := fun vs H Q _ => ∃ (f d : Addr) (xs ys : List V) (rs : List (Int × Int)), vs = [.ref f, .ref d] ∧ H f = some (.lst xs) ∧ H d = some (.lst ys) ∧ Rows H xs rs ∧ Rows H ys rs ∧ ∀ H', Same H H' → Q (.bl true) H'
end OL

namespace L2
open PySem PySem.Spec PyProof.Rows
/-! ### for .. in d.items() -/
noncomputable def Iti (d : Addr) (o : Obj) (kvs : List (Key × V)) : It := ⟨fun i H => i < kvs.length ∧ H d = some (.frz o (.dK kvs)), fun i H x H' => ∃ p k v, x = .ref p ∧ H p = none ∧ H' = upd H p (.tup [kV k, v]) ∧ kvs[i]? = some (k, v), fun i H => i = kvs.length ∧ H d = some (.frz o (.dK kvs))⟩
section
variable {X : Cx}
noncomputable def iItems (te : TE) : TI := fun σ H R => te σ H fun x H1 => ∃ (d : Addr) (kvs : List (Key × V)), x = .ref d ∧ H1 d = some (.dK kvs) ∧ ∀ o, R (Iti d o kvs) (upd H1 d (.frz o (.dK kvs)))
end
end L2

namespace Tim
open PySem PyProof.Rows
noncomputable def gallop' : Bool → Keyed → Array Keyed → Nat → Nat → Nat → StateT SortSt Sem (Option Nat) := sortPriv% PySem.Builtin.gallop
noncomputable def mergeLo' : Array Keyed → Array Keyed → StateT SortSt Sem (Array Keyed) := sortPriv% PySem.Builtin.mergeLo
noncomputable def mergeHi' : Array Keyed → Array Keyed → StateT SortSt Sem (Array Keyed) := sortPriv% PySem.Builtin.mergeHi
noncomputable abbrev setGal (st : SortSt) (g : Nat) : SortSt := SortSt.mk' (kindOf st) (arrOf st) (pendingOf st) g (failedOf st)
/-- comparing two keys leaves all as it is and tells their order -/
noncomputable def CmpOk (prog : Program) (w : World) (A : Around) (s : Shared) (κ : KeyKind) (kd : SortKind) : Prop :=
  ∀ (E : Value → Shared → Prop) (x y : Value) (a b : κ.α) (Q : Bool → Shared → Prop), κ.keyOf x = some a → κ.keyOf y = some b → Q (κ.blt a b) s → wpAny (model prog w) A (keyLt' kd x y) Q E s
section
variable {prog : Program} {w : World} {A : Around} {E : Value → Shared → Prop} {s : Shared} {κ : KeyKind} {kd : SortKind}
/-- all keys of the array can be read -/
noncomputable def Good (κ : KeyKind) (zs : Array Keyed) : Prop := ∀ (i : Nat) (p : Keyed), zs[i]? = some p → ∃ a, κ.keyOf p.1 = some a
/-- is the item at i ahead of where p belongs -/
noncomputable def bey (κ : KeyKind) (left : Bool) (kp : κ.α) (zs : Array Keyed) (i : Nat) : Bool := if left then κ.blt (KK κ zs i) kp else !κ.blt kp (KK κ zs i)
noncomputable def ahead (left : Bool) (p : Keyed) (zs : Array Keyed) (i : Nat) : StateT SortSt Sem (Option Bool) := do
  let q ← elem' zs i
  if left then lt' q p else return (← lt' p q).map (!·)
end
end Tim

namespace Tim
open PySem PyProof.Rows
section
variable {κ : KeyKind}
noncomputable def ky (κ : KeyKind) (p : Keyed) : κ.α := (κ.keyOf p.1).getD κ.dflt
noncomputable def le (κ : KeyKind) (p q : Keyed) : Prop := κ.kle (ky κ p) (ky κ q)
theorem take_at {L : List Keyed} {i t : Nat} (ht : t < L.length) (h : t < i) : L[t] ∈ L.take i := by
  rw [List.mem_iff_getElem]
  exact ⟨t, by rw [List.length_take]; omega, by rw [List.getElem_take]⟩
/-- what is told by then, of A its first i, of B its first j -/
structure MI (κ : KeyKind) (A B O : List Keyed) (i j : Nat) : Prop where
  perm : O.Perm (A.take i ++ B.take j)
  srt : O.Pairwise (le κ)
  la : ∀ x ∈ O, ∀ y ∈ A.drop i, le κ x y
  lb : ∀ x ∈ O, ∀ y ∈ B.drop j, le κ x y
noncomputable def Res (κ : KeyKind) (A B M : List Keyed) : Prop := M.Perm (A ++ B) ∧ M.Pairwise (le κ)
variable {A B O : List Keyed} {i j : Nat}
/-- the same from the end: told are those of A from i on and those of B from j on -/
structure MH (κ : KeyKind) (A B R : List Keyed) (i j : Nat) : Prop where
  perm : R.Perm (A.drop i ++ B.drop j)
  srt : R.Pairwise (le κ)
  la : ∀ x ∈ A.take i, ∀ y ∈ R, le κ x y
  lb : ∀ x ∈ B.take j, ∀ y ∈ R, le κ x y
end
end Tim

namespace Tim
open PySem PyProof.Rows
section
variable {κ : KeyKind}
end
section
variable {prog : Program} {w : World} {A : Around} {E : Value → Shared → Prop} {s : Shared} {κ : KeyKind} {kd : SortKind}
noncomputable def OK1 (κ : KeyKind) (a b : Array Keyed) (st st' : SortSt) (o : Array Keyed) (i j : Nat) : Prop := (∃ g, setGal st g = st') ∧ MI κ a.toList b.toList o.toList i j ∧ i + 1 < a.size ∧ j < b.size
end
end Tim

namespace Tim
open PySem PyProof.Rows
section
variable {κ : KeyKind} {A B R : List Keyed} {i j : Nat}
end
section
variable {prog : Program} {w : World} {A : Around} {E : Value → Shared → Prop} {s : Shared} {κ : KeyKind} {kd : SortKind}
noncomputable def OK2 (κ : KeyKind) (a b : Array Keyed) (st st' : SortSt) (i j : Nat) (o : Array Keyed) : Prop := (∃ g, setGal st g = st') ∧ MH κ a.toList b.toList o.toList.reverse i j ∧ 0 < i ∧ 1 < j ∧ i ≤ a.size ∧ j ≤ b.size
end
end Tim

namespace Tim
open PySem PyProof.Rows
section
variable {κ : KeyKind}
/-- rising from lo to hi -/
noncomputable def Ri (κ : KeyKind) (zs : Array Keyed) (lo hi : Nat) : Prop := ∀ u v, lo ≤ u → u ≤ v → v < hi → κ.kle (KK κ zs u) (KK κ zs v)
noncomputable abbrev Rn := Nat × Nat × Nat
/-- runs, one behind the other, from a to b -/
noncomputable def Runs (κ : KeyKind) (zs : Array Keyed) : List Rn → Nat → Nat → Prop
  | [], a, b => a = b
  | r :: rs, a, b => r.1 = a ∧ 0 < r.2.1 ∧ Ri κ zs a (a + r.2.1) ∧ Runs κ zs rs (a + r.2.1) b
structure Two (κ : KeyKind) (zs : Array Keyed) (a b : Nat) (r q : Rn) : Prop where
  next : q.1 = r.1 + r.2.1
  n1 : 0 < r.2.1
  n2 : 0 < q.2.1
  s1 : Ri κ zs r.1 (r.1 + r.2.1)
  s2 : Ri κ zs q.1 (q.1 + q.2.1)
  lo : a ≤ r.1
  hi : q.1 + q.2.1 ≤ b
end
section
variable {prog : Program} {w : World} {A : Around} {E : Value → Shared → Prop} {s : Shared} {κ : KeyKind} {kd : SortKind}
end
end Tim

namespace Tim
open PySem PyProof.Rows
section
variable {κ : KeyKind}
/-- the same things, and all as it was outside lo to hi -/
structure Fr0 (κ : KeyKind) (lo hi : Nat) (zs ys : Array Keyed) : Prop where
  perm : ys.toList.Perm zs.toList
  out : ∀ k, (k < lo ∨ hi ≤ k) → KK κ ys k = KK κ zs k
noncomputable def De (κ : KeyKind) (zs : Array Keyed) (lo hi : Nat) : Prop := ∀ u v, lo ≤ u → u ≤ v → v < hi → κ.kle (KK κ zs v) (KK κ zs u)
variable {lo hi : Nat} {zs ys : Array Keyed}
end
section
variable {prog : Program} {w : World} {A : Around} {E : Value → Shared → Prop} {s : Shared} {κ : KeyKind} {kd : SortKind}
end
end Tim

namespace Tim
open PySem PyProof.Rows
section
variable {prog : Program} {w : World} {A : Around} {E : Value → Shared → Prop} {s : Shared} {κ : KeyKind} {kd : SortKind}
/-- a state on the way: all of z0 is there, runs up to lo -/
structure On (κ : KeyKind) (kd : SortKind) (z0 : Array Keyed) (lo : Nat) (st : SortSt) : Prop where
  kind : kindOf st = kd
  fail : failedOf st = none
  perm : (arrOf st).toList.Perm z0.toList
  runs : Runs κ (arrOf st) (pendingOf st).toList 0 lo
end
end Tim

namespace Tim
open PySem PyProof.Rows PySem.W
noncomputable def lev (κ : KeyKind) (x y : Value) : Prop := κ.kle ((κ.keyOf x).getD κ.dflt) ((κ.keyOf y).getD κ.dflt)
/-- what sorting asks of the state it is done in -/
structure Sorts (prog : Program) (w : World) (s : Shared) (κ : KeyKind) (kd : SortKind) (vs : List Value) : Prop where
  cmp : ∀ A, CmpOk prog w A s κ kd
  kind : 2 ≤ vs.length → ∀ (A : Around) (E : Value → Shared → Prop) (Q : SortKind → Shared → Prop), Q kd s → wpAny (model prog w) A (keyKind' vs.toArray) Q E s
  keys : ∀ v ∈ vs, ∃ a, κ.keyOf v = some a
section
variable {prog : Program} {w : World} {A : Around} {E : Value → Shared → Prop} {s : Shared}
/-- the heap while it is sorted: the list is empty, two new things behind -/
noncomputable def midHeap (h : Heap) (a : Addr) (vs : List Value) : Heap := ((h.update a (Obj.mapSeq fun _ => #[])).push (seqObj "tuple" vs.toArray 0)).push (seqObj "list" #[] 0)
/-! ### whole numbers -/
@[reducible] noncomputable def intK : KeyKind where
  α := Int
  blt a b := decide (a < b)
  irrefl a := by simp
  trans a b c h1 h2 := by simp only [decide_eq_true_eq] at *; omega
  negTrans a b c h := by simp only [decide_eq_true_eq] at *; omega
  total a b h1 h2 := by simp only [decide_eq_false_iff_not] at *; omega
  keyOf v := match v with | .int x _ => some x | _ => none
  dflt := 0
/-! ### tuples of whole numbers -/
noncomputable def intOf : Value → Option Int
  | .int n _ => some n
  | _ => none
noncomputable def decT (h : Heap) (v : Value) : Option (List Int) := match v with
  | .ref a => match h.get? a with
    | some o => match o.data with
      | .seq xs _ => xs.toList.mapM intOf
      | _ => none
    | none => none
  | _ => none
@[reducible] noncomputable def tupK (h : Heap) : KeyKind where
  α := List Int
  blt a b := decide (a < b)
  irrefl a := by simpa using List.lt_irrefl a
  trans a b c h1 h2 := by simp only [decide_eq_true_eq] at *; exact List.lt_trans h1 h2
  negTrans a b c h := by
    simp only [decide_eq_true_eq] at *
    by_cases hab : a < b
    · exact .inl hab
    · exact .inr (List.lt_of_le_of_lt (List.not_lt.mp hab) h)
  total a b h1 h2 := by simp only [decide_eq_false_iff_not] at *; exact List.le_antisymm (List.not_lt.mp h2) (List.not_lt.mp h1)
  keyOf v := decT h v
  dflt := []
end
end Tim

namespace L2
open PySem PySem.Spec PyProof.Rows
section
variable {X : Cx}
/-- sorted of a list of whole numbers, of any length -/
noncomputable def rSortZ (K : PySem.W.Frag) : List V → Hp → VK → Prop := fun xs H Q => ∃ (p : Addr) (ns : List Int), xs = [.ref p] ∧ SqL K H p (ns.map V.int) ∧ ∀ (l : Addr) (ns' : List Int), H l = none → ns'.Perm ns → ns'.Pairwise (· ≤ ·) → Q (.ref l) (upd H l (.lst (ns'.map V.int)))
/-- sorted of a list of tuples of whole numbers, each told by its key -/
noncomputable def TupK (K : PySem.W.Frag) {α : Type} (key : α → List Int) (H : Hp) (x : V) (r : α) : Prop := ∃ p, x = .ref p ∧ SqT K H p ((key r).map V.int)
noncomputable def rSortG (K : PySem.W.Frag) {α : Type} (key : α → List Int) (R : Hp → V → α → Prop) : List V → Hp → VK → Prop := fun xs H Q => ∃ (p : Addr) (ys : List V) (rs : List α), xs = [.ref p] ∧ SqL K H p ys ∧ Paired (R H) ys rs ∧ (∀ r ∈ rs, key r ≠ []) ∧
  ∀ (l : Addr) (zs : List V) (rs' : List α), H l = none → rs'.Perm rs → rs'.Pairwise (fun a b => ¬ key b < key a) → Paired (R H) zs rs' → Q (.ref l) (upd H l (.lst zs))
/-- sorted of rows -/
noncomputable def rleq (a b : Int × Int) : Prop := a.1 < b.1 ∨ (a.1 = b.1 ∧ a.2 ≤ b.2)
noncomputable def rSortR (K : PySem.W.Frag) : List V → Hp → VK → Prop := fun xs H Q => ∃ (p : Addr) (ys : List V) (rs : List (Int × Int)), xs = [.ref p] ∧ SqL K H p ys ∧ Rows H ys rs ∧
  ∀ (l : Addr) (zs : List V) (rs' : List (Int × Int)), H l = none → rs'.Perm rs → rs'.Pairwise rleq → Rows H zs rs' → Q (.ref l) (upd H l (.lst zs))
/-- a row in a list of rows -/
noncomputable def rInR (K : PySem.W.Frag) (neg : Bool) : R2 := fun x y H Q => ∃ (p : Addr) (ys : List V) (rs : List (Int × Int)) (r : Int × Int), y = .ref p ∧ SqL K H p ys ∧ Rows H ys rs ∧ Row H x r ∧ Q (.bl (if neg then !rs.any (fun q => decide (q = r)) else rs.any fun q => decide (q = r))) H
noncomputable def isRowV (H : Hp) (r : Int × Int) : Value → Bool
  | .ref a => match H a with
    | some (.tup [.int i, .int j]) => decide ((i, j) = r)
    | _ => false
  | _ => false
end
end L2

namespace PySem
open Sem (wp)
section
variable {prog : Program} {w : World} {A : Around} {E : Value → Shared → Prop} {s : Shared} {a : Addr}
end
end PySem

namespace PySem
open PyProof.Rows
section
variable {prog : Program} {w : World} {K : Type} [DecidableEq K] {knd : KeyKind prog w K} {A : Around} {R : Result → Shared → Prop}
end
end PySem

namespace L2
open PySem PySem.Spec PyProof.Rows
/-- rows as a table -/
noncomputable def tabR (rs : List (Int × Int)) : List (Key × V) := rs.map fun r => (.inl r.1, .int r.2)
section
variable {X : Cx}
end
end L2

namespace OL
open PySem L2
/-! ### how many things a lot has -/
noncomputable def sz (x : Nat) : Nat := (List.range 12).countP fun t => x.testBit t
/-! ### rows looked up -/
noncomputable def inR (rs : List (Int × Int)) (f : Int) : Bool := rs.any fun r => decide (r.1 = f)
theorem mem_few {x : Nat} {f : Int} : f ∈ fewF (x : Int) ↔ ∃ t, x.testBit t = true ∧ f = ((x - 2 ^ t : Nat) : Int) := by
  unfold fewF thingsF
  rw [List.mem_map]
  have hx : (0 : Int) ≤ (x : Int) := Int.natCast_nonneg _
  have cast : ∀ t, x.testBit t = true → (x : Int) - 1 * 2 ^ t = ((x - 2 ^ t : Nat) : Int) := fun t ht => by
    have := (sub_th ht).2
    rw [Int.one_mul, pow_cast, Int.ofNat_sub this]
  constructor
  · rintro ⟨u, hu, rfl⟩
    obtain ⟨t, h1, rfl, h2⟩ := upto_mem hu
    rw [Int.toNat_natCast] at h2 ⊢
    have ht : x.testBit t = true := by
      have := (has_pow hx t).mp h2
      unfold Th at this
      rwa [Int.toNat_natCast] at this
    exact ⟨t, ht, cast t ht⟩
  · rintro ⟨t, ht, rfl⟩
    have th : Th (x : Int) t := by unfold Th; rwa [Int.toNat_natCast]
    refine ⟨(t : Int), ?_, by rw [Int.toNat_natCast]; exact cast t ht⟩
    unfold upto
    rw [List.mem_map]
    exact ⟨t, List.mem_filter.mpr ⟨List.mem_range.mpr (bits_lt hx th), by show hasF (x : Int) (1 * 2 ^ ((t : Int).toNat)) = true; rw [Int.toNat_natCast]; exact (has_pow hx t).mpr th⟩, rfl⟩
theorem lt_bits (x : Nat) : x < 2 ^ Builtin.Int.intBits (x : Int) := by
  by_cases h : x < 2 ^ Builtin.Int.intBits (x : Int)
  · exact h
  · obtain ⟨i, hi, ht⟩ := Nat.exists_ge_and_testBit_of_ge_two_pow (Nat.le_of_not_lt h)
    have := bits_lt (lot := (x : Int)) (Int.natCast_nonneg _) (t := i) (by unfold Th; rwa [Int.toNat_natCast])
    omega
noncomputable def wt (lot : Int) (t : Nat) : Int := Builtin.bitOr lot (1 * 2 ^ t)
/-! ### levels -/
noncomputable def levR (bs : List Int) (least : Int) (n k : Nat) : List (Int × Int) := ((List.range n).filter fun i => ofB bs least i && (sz i == k)).map fun (i : Nat) => ((i : Int), countF bs (i : Int))
noncomputable def okB (rs : List (Int × Int)) (x : Int) : Bool := (fewF x).all fun f => inR rs f
noncomputable def moreL (rs : List (Int × Int)) (lot : Int) (j : Nat) : List Int := ((List.range j).filter fun t => okB rs (wt lot (Builtin.Int.intBits lot + t))).map fun t => wt lot (Builtin.Int.intBits lot + t)
noncomputable def nextU (many : Int) (rs : List (Int × Int)) (i : Nat) : List Int := (rs.take i).flatMap fun r => moreL rs r.1 (many.toNat - Builtin.Int.intBits r.1)
noncomputable def candB (bs : List Int) (least : Int) (k i : Nat) : Bool := (sz i == k + 1) && (fewF (i : Int)).all fun f => decide (least ≤ countF bs f)
noncomputable def candL (bs : List Int) (least : Int) (n k : Nat) : List Int := ((List.range n).filter (candB bs least k)).map fun (i : Nat) => (i : Int)
theorem p12 {many : Int} (h : many ≤ 12) : (2 : Nat) ^ many.toNat ≤ 4096 := pow12 h
section
variable {many : Int} {bs : List Int} (hb : ∀ x ∈ bs, InB many x)
include hb
end
end OL

namespace L2
open PySem PySem.Spec PyProof.Rows
end L2

namespace OL
open PySem L2
noncomputable def rowsC (bs ns : List Int) : List (Int × Int) := ns.map fun x => (x, countF bs x)
noncomputable def spCounted (K : PySem.W.Frag) : Sp := fun vs H Q _ => ∃ (b l : Addr) (many : Int) (bs ns : List Int), vs = [.ref b, .ref l] ∧ Bk K H b many bs ∧ bs.length ≤ 500 ∧ 0 ≤ many ∧ many ≤ 64 ∧ SqL K H l (ns.map V.int) ∧ ns.length ≤ 5000 ∧
  ∀ (r : Addr) (xs : List V) (H' : Hp), Same H H' → H r = none → H' r = some (.lst xs) → Rows H' xs (rowsC bs ns) → Q (.ref r) H'
noncomputable def spAmong (K : PySem.W.Frag) (p : Int → Int × Int → Bool) : Sp := fun vs H Q _ => ∃ (b l : Addr) (many : Int) (bs ns : List Int) (least : Int), vs = [.ref b, .int least, .ref l] ∧ Bk K H b many bs ∧ bs.length ≤ 500 ∧ 0 ≤ many ∧ many ≤ 64 ∧ SqL K H l (ns.map V.int) ∧ ns.length ≤ 5000 ∧
  ∀ (r : Addr) (xs : List V) (H' : Hp), Same H H' → H r = none → H' r = some (.lst xs) → Rows H' xs ((rowsC bs ns).filter (p least)) → Q (.ref r) H'
noncomputable def ofP (least : Int) (r : Int × Int) : Bool := decide (r.2 ≥ least)
noncomputable def raP (least : Int) (r : Int × Int) : Bool := decide (r.2 < least)
noncomputable def spNext : Sp := fun vs H Q _ => ∃ (a : Addr) (many : Int) (xs : List V) (rs : List (Int × Int)), vs = [.int many, .ref a] ∧ 0 ≤ many ∧ many ≤ 12 ∧ H a = some (.lst xs) ∧ Rows H xs rs ∧ (rs.map Prod.fst).Nodup ∧ (∀ r ∈ rs, Sm r.1) ∧ rs.length ≤ 4096 ∧
  ∀ (r : Addr) (ns : List Int) (H' : Hp), Same H H' → H r = none → ns.Perm (nextU many rs rs.length) → ns.Pairwise (· ≤ ·) → H' r = some (.lst (ns.map V.int)) → Q (.ref r) H'
noncomputable def spLevels (K : PySem.W.Frag) : Sp := fun vs H Q _ => ∃ (b : Addr) (many : Int) (bs : List Int) (least : Int), vs = [.ref b, .int least] ∧ Bk K H b many bs ∧ bs.length ≤ 500 ∧ 0 ≤ many ∧ many ≤ 12 ∧ (∀ x ∈ bs, InB many x) ∧
  ∀ (r : Addr) (ls : List Addr) (H' : Hp), Same H H' → H r = none → H' r = some (.lst (ls.map V.ref)) → levR bs least (2 ^ many.toNat) ls.length = [] → (∀ k, k < ls.length → levR bs least (2 ^ many.toNat) k ≠ []) →
    (∀ (k : Nat) (a : Addr), ls[k]? = some a → H a = none ∧ a ≠ r ∧ RL H' a (levR bs least (2 ^ many.toNat) k)) → ls.Nodup → Q (.ref r) H'
noncomputable def spOftenB (K : PySem.W.Frag) : Sp := fun vs H Q _ => ∃ (b : Addr) (many : Int) (bs : List Int) (least : Int), vs = [.ref b, .int least] ∧ Bk K H b many bs ∧ bs.length ≤ 500 ∧ 0 ≤ many ∧ many ≤ 12 ∧ (∀ x ∈ bs, InB many x) ∧
  ∀ (r : Addr) (xs : List V) (H' : Hp), Same H H' → H r = none → H' r = some (.lst xs) → Rows H' xs (oftenR bs least (2 ^ many.toNat)) → Q (.ref r) H'
theorem big5 {n : Nat} (h : n ≤ 65000) : n < sizeLine := Nat.lt_of_le_of_lt h (by decide)
end OL

namespace OL
open PySem L2
noncomputable def rareR (bs : List Int) (least : Int) (n k : Nat) : List (Int × Int) := (rowsC bs (candL bs least n k)).filter (raP least)
noncomputable def rare0 (bs : List Int) (least : Int) : List (Int × Int) := (rowsC bs [0]).filter (raP least)
noncomputable def bordB (bs : List Int) (least : Int) (i : Nat) : Bool := !ofB bs least i && (fewF (i : Int)).all fun f => decide (least ≤ countF bs f)
noncomputable def bordR (bs : List Int) (least : Int) (n : Nat) : List (Int × Int) := ((List.range n).filter (bordB bs least)).map fun (i : Nat) => ((i : Int), countF bs (i : Int))
noncomputable def spBord (K : PySem.W.Frag) : Sp := fun vs H Q _ => ∃ (b : Addr) (many : Int) (bs : List Int) (least : Int), vs = [.ref b, .int least] ∧ Bk K H b many bs ∧ bs.length ≤ 500 ∧ 0 ≤ many ∧ many ≤ 12 ∧ (∀ x ∈ bs, InB many x) ∧
  ∀ (r : Addr) (xs : List V) (H' : Hp), Same H H' → H r = none → H' r = some (.lst xs) → Rows H' xs (bordR bs least (2 ^ many.toNat)) → Q (.ref r) H'
/-! ### the things of a lot below twelve, as the law tells them -/
noncomputable def b12 (n : Nat) (t : Int) : Bool := Builtin.bitAnd ((n : Int) / 2 ^ t.toNat) 1 == 1
noncomputable def th12 (n : Nat) : List Int := upto (b12 n) 12
noncomputable def fw12 (n : Nat) : List Int := (th12 n).map fun t => (n : Int) - 1 * 2 ^ t.toNat
noncomputable def spTh12 : Sp := fun vs H Q _ => ∃ n : Nat, vs = [.int (n : Int)] ∧ n < 4096 ∧ ∀ (r : Addr) (H' : Hp), Same H H' → H r = none → H' r = some (.lst ((th12 n).map V.int)) → Q (.ref r) H'
theorem b12_iff (n t : Nat) : b12 n (t : Int) = true ↔ n.testBit t = true := by
  unfold b12
  rw [Int.toNat_natCast]
  have := bit_iff (lot := (n : Int)) (Int.natCast_nonneg _) t
  unfold Th at this
  rwa [Int.toNat_natCast] at this
end OL

namespace OL
open PySem L2
noncomputable def dLev (bs : List Int) (least : Int) (n L : Nat) : PyData := .list ((List.range L).map fun k => .list ((levR bs least n k).map dRow))
end OL

namespace L2
open PySem PySem.Spec PyProof.Rows
section
variable {X : Cx}
/-- sorted(d), d a dict of whole numbers -/
noncomputable def rSortD : List V → Hp → VK → Prop := fun xs H Q => ∃ (d : Addr) (rs : List (Int × Int)), xs = [.ref d] ∧ H d = some (.dK (tabR rs)) ∧ ∀ (l : Addr) (ns : List Int), H l = none → ns.Perm (rs.map Prod.fst) → ns.Pairwise (· ≤ ·) → Q (.ref l) (upd H l (.lst (ns.map V.int)))
end
end L2

namespace OL
open PySem L2
noncomputable def numR (rs : List (Int × Int)) (f : Int) : Int := ((rs.find? fun r => decide (r.1 = f)).map (·.2)).getD 0
theorem nn (i : Nat) : (0 : Int) ≤ (i : Int) := Int.natCast_nonneg i
section
variable {many : Int} {bs : List Int} (hb : ∀ x ∈ bs, InB many x)
include hb
noncomputable def insideL (bs : List Int) (least : Int) (n : Nat) (j : Int) : List Int := ((bordR bs least n).filter fun r => Builtin.bitAnd r.1 j == r.1).map Prod.fst
noncomputable def besideL (bs : List Int) (least : Int) (n : Nat) (j : Int) : List Int := ((bordR bs least n).filter fun r => (Builtin.bitAnd r.1 j == r.1) && !(r.1 == j)).map Prod.fst
end
noncomputable def up1 (r : Int × Int) : Int × Int := (r.1, r.2 + 1)
end OL

namespace OL
open PySem L2
noncomputable def wantB (many : Int) (bs : List Int) (rs : List (Int × Int)) (n : Int) : Bool := (!(closeF many bs n == n)) && (ptF rs n).isNone
noncomputable def fewU (many : Int) (bs : List Int) : Nat → List (Int × Int)
  | 0 => []
  | n + 1 => if wantB many bs (fewU many bs n) (n : Int) = true then fewU many bs n ++ [((n : Int), closeF many bs (n : Int) - (n : Int))] else fewU many bs n
/-- a lot in the law's way: what breaks it -/
noncomputable def brkL (many : Int) (bs : List Int) (lot o : Int) : Bool := (Builtin.bitAnd o lot == o) && !(Builtin.bitAnd (closeL many bs o) lot == closeL many bs o)
noncomputable def wantsL (many : Int) (bs : List Int) (lot : Int) (ls : List Int) : Bool := (!(closeL many bs lot == lot)) && !(ls.any fun o => brkL many bs lot o)
noncomputable def wlotsU (many : Int) (bs : List Int) : Nat → List Int
  | 0 => []
  | n + 1 => if wantsL many bs (n : Int) (wlotsU many bs n) = true then wlotsU many bs n ++ [(n : Int)] else wlotsU many bs n
section
variable {many : Int} {bs : List Int} (hb : ∀ x ∈ bs, InB many x)
include hb
end
noncomputable def spKeeps : Sp := fun vs H Q _ => ∃ (a : Addr) (rs : List (Int × Int)) (lot : Int), vs = [.int lot, .ref a] ∧ RL H a rs ∧ ∀ H', Same H H' → Q (.bl (ptF rs lot).isNone) H'
noncomputable def spFew (K : PySem.W.Frag) : Sp := fun vs H Q _ => ∃ (b : Addr) (many : Int) (bs : List Int), vs = [.ref b] ∧ Bk K H b many bs ∧ bs.length ≤ 500 ∧ 0 ≤ many ∧ many ≤ 12 ∧ (∀ x ∈ bs, InB many x) ∧ ∀ (r : Addr) (xs : List V) (H' : Hp), Same H H' → H r = none → H' r = some (.lst xs) → Rows H' xs (fewU many bs (2 ^ many.toNat)) → Q (.ref r) H'
noncomputable def spWants (K : PySem.W.Frag) : Sp := fun vs H Q _ => ∃ (b o : Addr) (many : Int) (bs : List Int) (lot : Int) (ls : List Int), vs = [.ref b, .int lot, .ref o] ∧ Bk K H b many bs ∧ bs.length ≤ 500 ∧ 0 ≤ many ∧ many ≤ 12 ∧ SqL K H o (ls.map V.int) ∧ ∀ H', Same H H' → Q (.bl (wantsL many bs lot ls)) H'
end OL

namespace L2
open PySem PySem.Spec PyProof.Rows
section
variable {X : Cx} {e e3 : Expr} {te : TE} {t3 : TO} {pos p2 : Pos}
/-- xs[::-1] of a list -/
noncomputable def tRev (K : PySem.W.Frag) (te : TE) (t3 : TO) : TE := fun σ H Q => te σ H fun x H1 => t3 σ H1 fun o H2 => ∃ a xs, o = some (-1) ∧ x = .ref a ∧ SqL K H2 a xs ∧ ∀ p, H2 p = none → Q (.ref p) (upd H2 p (.lst xs.reverse))
end
end L2

namespace OL
open PySem L2
noncomputable def tw (r : Int × Int) : Int × Int := (r.1, 2 * r.2)
/-! ### two things exchanged -/
noncomputable def exI (x s t : Int) : Int := if (Builtin.bitAnd (x / 2 ^ s.toNat) 1 == Builtin.bitAnd (x / 2 ^ t.toNat) 1) = true then x else Builtin.bitXor x (Builtin.bitOr (1 * 2 ^ s.toNat) (1 * 2 ^ t.toNat))
noncomputable def sw (s t i : Nat) : Nat := if i = s then t else if i = t then s else i
section
variable {many : Int} {bs : List Int} (hb : ∀ x ∈ bs, InB many x) {s t : Int}
include hb
end
noncomputable def exR (s t : Int) (r : Int × Int) : Int × Int := (exI r.1 s t, r.2)
/-! ### slices -/
noncomputable def spEx : Sp := fun vs H Q _ => ∃ x s t : Int, vs = [.int x, .int s, .int t] ∧ 0 ≤ s ∧ s ≤ 64 ∧ 0 ≤ t ∧ t ≤ 64 ∧ Q (.int (exI x s t)) H
end OL

namespace L2
open PySem PySem.Spec PyProof.Rows
/-! max(list of lists, key=len, default=[]) -/
section
variable {prog : Program} {w : World} {A : Around} {R : Result → Shared → Prop} {it : Addr} {fp wr : List Addr} {n : Nat} {PP : Nat → Value → Prop} {St : Nat → Heap → Prop} {h0 : Heap} {kf : Nat → Int} {d : Value}
end
section
variable {X : Cx}
noncomputable def tMaxLen (K : PySem.W.Frag) (ta : TA) : TE := fun σ H Q => ta σ H fun vs H1 => ∃ (a : Addr) (xs : List Addr) (ys : Nat → List V), vs = [.ref a] ∧ SqL K H1 a (xs.map V.ref) ∧ (∀ i x, xs[i]? = some x → SqL K H1 x (ys i)) ∧
  ∀ d, H1 d = none → (xs = [] → Q (.ref d) (upd H1 d (.lst []))) ∧ (∀ i x, xs[i]? = some x → (∀ j, j < xs.length → (ys j).length ≤ (ys i).length) → Q (.ref x) (upd H1 d (.lst [])))
end
end L2

namespace OL
open PySem L2
section
variable {many : Int} {bs : List Int} (hb : ∀ x ∈ bs, InB many x)
include hb
end
noncomputable def Heads (H : Hp) (c : Int) (xs : List Addr) : Prop := ∀ x ∈ xs, ∃ t : List Int, H x = some (.lst ((c :: t).map V.int))
noncomputable def spLongest : Sp := fun vs H Q _ => ∃ (a : Addr) (rs : List (Int × Int)), vs = [.ref a] ∧ RL H a rs ∧ rs.length ≤ 1000 ∧ (∀ q rs', rs = q :: rs' → ∀ r ∈ rs, hasF r.1 q.1 = true) ∧
  ∀ (r : Addr) (ys : List Int) (H' : Hp), Same H H' → H' r = some (.lst (ys.map V.int)) → (rs = [] → ys = []) → (∀ q rs', rs = q :: rs' → ∃ t, ys = q.1 :: t) → Q (.ref r) H'
noncomputable def spLongestOf (K : PySem.W.Frag) : Sp := fun vs H Q _ => ∃ (a : Addr) (xs : List Addr) (ys : Nat → List V), vs = [.ref a] ∧ SqL K H a (xs.map V.ref) ∧ (∀ i x, xs[i]? = some x → SqL K H x (ys i)) ∧
  ∀ (H' : Hp), Same H H' → (∀ d, xs = [] → H d = none → H' d = some (.lst []) → Q (.ref d) H') ∧ (∀ i x, xs[i]? = some x → (∀ j, j < xs.length → (ys j).length ≤ (ys i).length) → Q (.ref x) H')
noncomputable def spOrder : Sp := fun vs H Q _ => ∃ (p l : Addr) (x y z : Int) (bs : List Int), vs = [.ref p, .ref l] ∧ H p = some (.lst [.int x, .int y, .int z]) ∧ H l = some (.lst (bs.map V.int)) ∧ p ≠ l ∧ bs.length ≤ 500 ∧
  ∀ (r : Addr) (bs' : List Int) (x' y' z' : Int) (H' : Hp), SameB p H H' → H r = none → H' r = some (.lst (bs'.map V.int)) → bs'.Perm bs → H' p = some (.lst [.int x', .int y', .int z']) → Q (.ref r) H'
end OL

namespace OL
open PySem L2
/-! ### lots cut out: at least as many as there are unlike baskets -/
/-- every part of x is some member's part in x -/
noncomputable def cutB (F : List Nat) (n x : Nat) : Bool := (List.range n).all fun y => (!(y &&& x == y)) || F.any fun b => b &&& x == y
end OL

namespace L2
open PySem PySem.Spec PyProof.Rows
/-- new objects, several at once -/
noncomputable def mrg (H N : Hp) : Hp := fun b => match N b with | some o => some o | none => H b
section
variable {X : Cx}
/-- list(d.items()), d a dict of whole numbers to whole numbers -/
noncomputable def tListItems (te : TE) : TE := fun σ H Q => te σ H fun x H1 => ∃ (d : Addr) (rs : List (Int × Int)), x = .ref d ∧ H1 d = some (.dK (tabR rs)) ∧
  ∀ (l : Addr) (xs : List V) (H2 : Hp), Same H1 H2 → H1 l = none → H2 l = some (.lst xs) → Rows H2 xs rs → Q (.ref l) H2
open Classical in
noncomputable def rowN (L : Addr) (as : List Addr) (rs : List (Int × Int)) : Hp := fun b => if b = L then some (.lst (as.map V.ref)) else if h : ∃ j : Nat, as[j]? = some b then some (.tup [.int (rs.getD h.choose (0, 0)).1, .int (rs.getD h.choose (0, 0)).2]) else none
end
end L2

namespace L2
open PySem PySem.Spec PyProof.Rows
end L2
namespace OL
open PySem L2
/-! ### parts of a lot -/
noncomputable def wiF (n : Nat) (i : Nat) : List Int := ((List.range i).filter fun (y : Nat) => Builtin.bitAnd (y : Int) (n : Int) == (y : Int)).map fun (y : Nat) => (y : Int)
noncomputable def cutI' (bs : List Int) (lot : Int) : List Int := bs.map fun b => Builtin.bitAnd b lot
noncomputable def toldF (bs : List Int) (n : Nat) (lot : Int) : List Int := (justU (cutI' bs lot) n).map Prod.fst
noncomputable def cOut (bs : List Int) (n x : Nat) : Bool := toldF bs n (x : Int) == wiF x (x + 1)
noncomputable def outL (bs : List Int) (n i : Nat) : List Int := ((List.range i).filter (cOut bs n)).map fun (x : Nat) => (x : Int)
noncomputable def fewL (k : Int) (i : Nat) : List Int := ((List.range i).filter fun x => decide ((sz x : Int) < k)).map fun (x : Nat) => (x : Int)
/-! ### counting in a dict -/
noncomputable def CInv (cs : List Int) (rs : List (Int × Int)) : Prop := (rs.map Prod.fst).Nodup ∧ (∀ r ∈ rs, r.1 ∈ cs ∧ r.2 = (eqN cs r.1 : Int)) ∧ ∀ x ∈ cs, ∃ r ∈ rs, r.1 = x
noncomputable def addR (rs : List (Int × Int)) (x : Int) : List (Int × Int) := if inR rs x = true then rs.map (fun r => if r.1 = x then (r.1, r.2 + 1) else r) else rs ++ [(x, 1)]
noncomputable def spSz : Sp := fun vs H Q _ => ∃ n : Nat, vs = [.int (n : Int)] ∧ n < 4096 ∧ ∀ H', Same H H' → Q (.int (sz n : Int)) H'
noncomputable def spWi : Sp := fun vs H Q _ => ∃ n : Nat, vs = [.int (n : Int)] ∧ n < 4096 ∧ ∀ (r : Addr) (H' : Hp), Same H H' → H r = none → H' r = some (.lst ((wiF n (n + 1)).map V.int)) → Q (.ref r) H'
noncomputable def spJu (K : PySem.W.Frag) : Sp := fun vs H Q _ => ∃ (l : Addr) (many : Int) (bs : List Int), vs = [.int many, .ref l] ∧ SqL K H l (bs.map V.int) ∧ bs.length ≤ 100 ∧ 0 ≤ many ∧ many ≤ 5 ∧ (∀ x ∈ bs, InB many x) ∧ ∀ (r : Addr) (xs : List V) (H' : Hp), Same H H' → H r = none → H' r = some (.lst xs) → Rows H' xs (justU bs (2 ^ many.toNat)) → Q (.ref r) H'
noncomputable def spCt (K : PySem.W.Frag) : Sp := fun vs H Q _ => ∃ (l : Addr) (many : Int) (bs : List Int), vs = [.ref l] ∧ SqL K H l (bs.map V.int) ∧ bs.length ≤ 100 ∧ (∀ x ∈ bs, InB many x) ∧ ∀ (r : Addr) (xs : List V) (H' : Hp), Same H H' → H r = none → H' r = some (.lst xs) → Rows H' xs (justU bs (2 ^ many.toNat)) → Q (.ref r) H'
noncomputable def spLo : Sp := fun vs H Q _ => ∃ (p : Addr) (many rows x y z : Int), vs = [.ref p, .int many, .int rows] ∧ 1 ≤ many ∧ many ≤ 5 ∧ 0 ≤ rows ∧ rows ≤ 30 ∧ H p = some (.lst [.int x, .int y, .int z]) ∧
  ∀ (r : Addr) (bs : List Int) (x' y' z' : Int) (H' : Hp), SameB p H H' → H r = none → H' r = some (.lst (bs.map V.int)) → bs.length ≤ 100 → (∀ x ∈ bs, InB many x) → H' p = some (.lst [.int x', .int y', .int z']) → Q (.ref r) H'
end OL

/-! a comprehension whose own names may be cells (a comprehension within it reads them) -/
namespace L2
open PySem PySem.Spec PyProof.Rows

theorem cellsFrom_app : ∀ (names : List (Str × NameKind)) (n : Nat) (acc : List (Str × Addr)), cellsFrom n names acc = cellsFrom n names [] ++ acc
  | [], _, _ => rfl
  | (name, kind) :: r, n, acc => by
    unfold cellsFrom
    split
    · rw [cellsFrom_app r (n + 1) ((name, n) :: acc), cellsFrom_app r (n + 1) [(name, n)], List.append_assoc]; rfl
    · exact cellsFrom_app r n acc
theorem cellsFrom_mem : ∀ (names : List (Str × NameKind)) (n : Nat) (acc : List (Str × Addr)) {x : Str} {c : Addr}, (x, c) ∈ cellsFrom n names acc → (x, NameKind.cell) ∈ names ∨ (x, c) ∈ acc
  | [], _, _, _, _, h => .inr h
  | (name, kind) :: r, n, acc, x, c, h => by
    unfold cellsFrom at h
    split at h
    · rename_i hk
      rcases cellsFrom_mem r (n + 1) _ h with z | z
      · exact .inl (List.mem_cons_of_mem _ z)
      · rcases List.mem_cons.mp z with e | z
        · cases e
          have : kind = .cell := by simpa using hk
          subst this
          exact .inl List.mem_cons_self
        · exact .inr z
    · rcases cellsFrom_mem r n _ h with z | z
      · exact .inl (List.mem_cons_of_mem _ z)
      · exact .inr z

theorem lookup_app {l1 l2 : List (Str × Addr)} {x : Str} : (l1 ++ l2).lookup x = match l1.lookup x with | some c => some c | none => l2.lookup x := by
  induction l1 with
  | nil => rfl
  | cons p r ih =>
    obtain ⟨n, c⟩ := p
    rw [List.cons_append, List.lookup_cons, List.lookup_cons]
    cases x == n with
    | true => rfl
    | false => exact ih

theorem wpAny_newFunctionEnv_comp {M : Model} {A : Around} {E : Value → Shared → Prop} {s : Shared} {scope : Scope} {globals : Addr} {cl : List (Str × Addr)} {qual : Str} {env : Env} {Q : Env → Shared → Prop}
    (hQ : Q (newEnv scope s.heap.objs.size globals (cellsFrom (s.heap.objs.size + 1) scope.names cl) qual none .none (some env) builtinsNs) { s with heap := pushCells (s.heap.push { cls := .type "dict", data := .dict #[] }) scope.names }) :
    wpAny M A (newFunctionEnv scope globals cl [] qual none .none (some env)) Q E s := by
  simp only [newFunctionEnv, Option.isSome_some, if_true]
  refine wpAny_bind (wpAny_alloc ?_)
  refine wpAny_bind (wpAny_layCells _ (fun name kind cells => by cases hkc : kind == NameKind.cell <;> simp [hkc]) _ _ _ _ ?_)
  rw [show ({ s with heap := s.heap.push { cls := .type "dict", data := .dict #[] } } : Shared).heap.objs.size = s.heap.objs.size + 1 from Heap.size_push ..]
  refine wpAny_bind ?_
  rw [List.forIn_nil]
  exact wpAny_pure (wpAny_pure hQ)

/-- the scope that stands there, or one relabelled -/
noncomputable def RelSc (a b : Scope) : Prop := a = b ∨ ∃ env, a = relabel b env
theorem relabel_kept {scope : Scope} {env : Env} {x : Str} (h : scope.names.lookup x = some .cell ∨ scope.names.lookup x = some .free) : (relabel scope env).names.lookup x = some .cell ∨ (relabel scope env).names.lookup x = some .free := by
  have go : ∀ names : List (Str × NameKind), (names.lookup x = some .cell ∨ names.lookup x = some .free) → (names.map fun (n, k) => if (k == NameKind.free && env.scope.kind == .function && env.kindOf n == some .cell) then (n, NameKind.cell) else (n, k)).lookup x = some .cell ∨
      (names.map fun (n, k) => if (k == NameKind.free && env.scope.kind == .function && env.kindOf n == some .cell) then (n, NameKind.cell) else (n, k)).lookup x = some .free := by
    intro names
    induction names with
    | nil => intro h; rcases h with h | h <;> cases h
    | cons p r ih =>
      obtain ⟨n, k⟩ := p
      intro h
      rw [List.lookup_cons] at h
      rw [List.map_cons]
      by_cases hc : (k == NameKind.free && env.scope.kind == .function && env.kindOf n == some .cell) = true
      · simp only [hc, if_true]
        rw [List.lookup_cons]
        cases hx : x == n with
        | true => exact .inl rfl
        | false => rw [hx] at h; exact ih h
      · have hc' : (k == NameKind.free && env.scope.kind == .function && env.kindOf n == some .cell) = false := by simpa using hc
        simp only [hc', Bool.false_eq_true, if_false]
        rw [List.lookup_cons]
        cases hx : x == n with
        | true => rw [hx] at h; exact h
        | false => rw [hx] at h; exact ih h
  exact go _ h

noncomputable def Cx.compC (X : Cx) (scope : Scope) (own : List Str) (js : List Nat) (cl : List (Str × Addr)) (s : Shared) (H : Hp) (C : Addr) (fp : List Addr) : Cx :=
  { prog := X.prog, w := X.w, K := X.K, mg := X.mg, base := X.base, A := X.A, N := own ++ js.map (fun j => X.N.getD j ""), s₀ := s, H₀ := H, env := compEnvC scope cl C X.env, outer := X.stack, stack := X.stack, ex := fp,
    fn := fun x => scope.names.lookup x == some .cell, calm := X.calm, pn := [], xe := fun _ _ => False }
structure CompScopeCN (sc : Scope) (N : List Str) (scope : Scope) (js : List Nat) : Prop where
  kind : scope.kind = .function
  cell : ∀ x ∈ scope.names, x.2 = .cell → scope.names.lookup x.1 = some .cell
  names : ∀ x ∈ scope.names, x.2 = .local → scope.names.lookup x.1 = some .local
  free : ∀ x ∈ scope.names, x.2 = .free → sc.names.lookup x.1 = some .cell ∨ sc.names.lookup x.1 = some .free
  js : ∀ j ∈ js, scope.names.lookup (N.getD j "") ≠ some .local ∧ scope.names.lookup (N.getD j "") ≠ some .cell
structure CompScopeC (X : Cx) (scope : Scope) (own : List Str) (js : List Nat) : Prop where
  kind : scope.kind = .function
  cell : ∀ x ∈ scope.names, x.2 = .cell → scope.names.lookup x.1 = some .cell
  names : ∀ x ∈ scope.names, x.2 = .local → scope.names.lookup x.1 = some .local
  free : ∀ x ∈ scope.names, x.2 = .free → X.env.kindOf x.1 = some .cell ∨ X.env.kindOf x.1 = some .free
  js : ∀ j ∈ js, scope.names.lookup (X.N.getD j "") ≠ some .local ∧ scope.names.lookup (X.N.getD j "") ≠ some .cell

section
variable {X : Cx} {scope : Scope} {own : List Str} {js : List Nat}
theorem CompScopeCN.cs {sc : Scope} {N : List Str} (S : CompScopeCN sc N scope js) (h1 : RelSc X.env.scope sc) (h2 : X.N = N) : CompScopeC X scope own js := by
  subst h2
  refine ⟨S.kind, S.cell, S.names, fun x hx hf => ?_, S.js⟩
  have := S.free x hx hf
  rcases h1 with e | ⟨env, e⟩
  · show X.env.scope.names.lookup _ = _ ∨ X.env.scope.names.lookup _ = _
    rw [e]; exact this
  · show X.env.scope.names.lookup _ = _ ∨ X.env.scope.names.lookup _ = _
    rw [e]; exact relabel_kept this

/-- what the cells of the block are: the closure's, and new ones -/
structure CellsIn (X : Cx) (scope : Scope) (cl : List (Str × Addr)) (C : Addr) (h1 : Heap) : Prop where
  what : ∀ x c, cl.lookup x = some c → (X.env.cells.lookup x = some c ∧ (x, NameKind.cell) ∉ scope.names) ∨ (@LT.lt Nat _ C c ∧ h1.IsCell c none ∧ (x, NameKind.cell) ∈ scope.names)
  inj : ∀ x y c, (x, NameKind.cell) ∈ scope.names → (y, NameKind.cell) ∈ scope.names → cl.lookup x = some c → cl.lookup y = some c → x = y
  has : ∀ n, (n, NameKind.free) ∈ scope.names ∨ (n, NameKind.cell) ∈ scope.names → ∃ c, cl.lookup n = some c

theorem cells_in {cl0 : List (Str × Addr)} {h : Heap} {C : Addr} (S : CompScopeC X scope own js) (hcl : ∀ x c, cl0.lookup x = some c → X.env.cells.lookup x = some c) (hcl2 : ∀ n, (n, NameKind.free) ∈ scope.names → ∃ c, cl0.lookup n = some c)
    (hC : @Eq Nat h.objs.size (C + 1)) : CellsIn X scope (cellsFrom (C + 1) scope.names cl0) C (pushCells h scope.names) := by
  have ok := cellsFrom_ok scope.names h (C + 1) [] ⟨fun _ _ hm => (nomatch hm), List.Pairwise.nil⟩ (Nat.le_of_eq hC.symm)
  rw [hC] at ok
  have cases2 : ∀ x c, (cellsFrom (C + 1) scope.names cl0).lookup x = some c → ((cellsFrom (C + 1) scope.names []).lookup x = some c) ∨ ((cellsFrom (C + 1) scope.names []).lookup x = none ∧ cl0.lookup x = some c) := fun x c e => by
    rw [cellsFrom_app, lookup_app] at e
    cases q : (cellsFrom (C + 1) scope.names []).lookup x with
    | some c' => rw [q] at e; exact .inl e
    | none => rw [q] at e; exact .inr ⟨rfl, e⟩
  have newMem : ∀ x c, (cellsFrom (C + 1) scope.names []).lookup x = some c → (x, NameKind.cell) ∈ scope.names := fun x c e => (cellsFrom_mem _ _ _ (PySem.mem_of_lookup e)).elim id fun z => nomatch z
  have newHas : ∀ x, (x, NameKind.cell) ∈ scope.names → ∃ c, (cellsFrom (C + 1) scope.names []).lookup x = some c := fun x hx => Option.isSome_iff_exists.mp (PySem.W.cellsFrom_some scope.names _ [] (.inl (S.cell _ hx rfl)))
  refine ⟨fun x c e => ?_, fun x y c hx hy e1 e2 => ?_, fun n hn => ?_⟩
  · rcases cases2 x c e with q | ⟨q, e⟩
    · obtain ⟨z1, z2⟩ := ok.empty x c (PySem.mem_of_lookup q)
      exact .inr ⟨z2, z1, newMem x c q⟩
    · refine .inl ⟨hcl x c e, fun hm => ?_⟩
      obtain ⟨c', e'⟩ := newHas x hm
      rw [q] at e'; cases e'
  · have g : ∀ x, (x, NameKind.cell) ∈ scope.names → (cellsFrom (C + 1) scope.names cl0).lookup x = some c → (cellsFrom (C + 1) scope.names []).lookup x = some c := fun x hm e => by
      rcases cases2 x c e with q | ⟨q, e⟩
      · exact q
      · obtain ⟨c', e'⟩ := newHas x hm
        rw [q] at e'; cases e'
    exact name_of_addr ok.apart (PySem.mem_of_lookup (g x hx e1)) (PySem.mem_of_lookup (g y hy e2))
  · rw [cellsFrom_app, lookup_app]
    cases q : (cellsFrom (C + 1) scope.names []).lookup n with
    | some c' => exact ⟨c', rfl⟩
    | none =>
      rcases hn with hn | hn
      · exact hcl2 n hn
      · obtain ⟨c', e'⟩ := newHas n hn
        rw [q] at e'; cases e'

theorem comp_startC {pins : List (Addr × Obj)} {σ : St} {H : Hp} {s : Shared} {cl : List (Str × Addr)} {fp : List Addr} {h1 : Heap} {C : Addr} {m : Str → Option Value} {t1 : Nat} (S : CompScopeC X scope own js) (I : Inv X pins σ H s)
    (hf : ∀ b ∈ fp, FpOk X pins H b ∧ b < s.heap.objs.size)
    (CI : CellsIn X scope cl C h1)
    (hC : @Eq Nat C (s.heap.objs.size + 1)) (hns : h1.Ns C m) (hk : ∀ b o, s.heap.get? b = some o → h1.get? b = some o) (hn : h1.get? s.heap.objs.size = some { cls := .type "list", dict := none, data := .seq ([] : List Value).toArray }) :
    Inv (X.compC scope own js cl s H C fp) [] (pick own.length js σ) (upd H s.heap.objs.size (.lst [])) { s with heap := h1, toks := t1 } := by
  have below : ∀ b, b < s.heap.objs.size → b ≠ C ∧ b ≠ s.heap.objs.size := fun b hb => ⟨Nat.ne_of_lt (Nat.lt_of_lt_of_eq (Nat.lt_succ_of_lt hb) hC.symm), Nat.ne_of_lt hb⟩
  have kinds : ∀ x, ((X.compC scope own js cl s H C fp).env.kindOf x = some .cell ∨ (X.compC scope own js cl s H C fp).env.kindOf x = some .free) → (x, NameKind.free) ∈ scope.names ∨ (x, NameKind.cell) ∈ scope.names := fun x hx => by
    have hx : (relabel scope X.env).names.lookup x = some .cell ∨ (relabel scope X.env).names.lookup x = some .free := hx
    rcases hx with hx | hx
    · obtain ⟨k, q1, q2⟩ := relabel_lookup hx
      rcases q2 with q2 | ⟨q2, _⟩
      · subst q2; exact .inr (PySem.mem_of_lookup q1)
      · exact .inl (q2 ▸ PySem.mem_of_lookup q1)
    · obtain ⟨k, q1, q2⟩ := relabel_lookup hx
      rcases q2 with q2 | ⟨_, q2⟩
      · exact .inl (q2 ▸ PySem.mem_of_lookup q1)
      · cases q2
  have hCle : s.heap.objs.size ≤ C := Nat.le_of_lt (Nat.lt_of_lt_of_eq (Nat.lt_succ_self _) hC.symm)
  have hCne : C ≠ s.heap.objs.size := Nat.ne_of_gt (Nat.lt_of_lt_of_eq (Nat.lt_succ_self _) hC.symm)
  have accn : H s.heap.objs.size = none := I.hok.fresh (Nat.le_refl _)
  have oldLt : ∀ x c, X.env.cells.lookup x = some c → c < s.heap.objs.size := fun x c e => by
    obtain ⟨v, z⟩ := I.cell x c e
    exact z.lt
  have inj : ∀ x y c, cl.lookup x = some c → cl.lookup y = some c → x = y := fun x y c e1 e2 => by
    rcases CI.what x c e1 with ⟨a1, _⟩ | ⟨a1, _, a3⟩ <;> rcases CI.what y c e2 with ⟨b1, _⟩ | ⟨b1, _, b3⟩
    · exact I.ok.inj x y c a1 b1
    · exact absurd (Nat.lt_of_lt_of_le (oldLt x c a1) hCle) (Nat.lt_asymm b1)
    · exact absurd (Nat.lt_of_lt_of_le (oldLt y c b1) hCle) (Nat.lt_asymm a1)
    · exact CI.inj x y c a3 b3 e1 e2
  have cne : ∀ x c b, cl.lookup x = some c → b < s.heap.objs.size → (∀ x c, X.env.cells.lookup x = some c → c ≠ b) → c ≠ b := fun x c b e lt h => by
    rcases CI.what x c e with ⟨a1, _⟩ | ⟨a1, _⟩
    · exact h x c a1
    · exact Nat.ne_of_gt (Nat.lt_trans (Nat.lt_of_lt_of_le lt hCle) a1)
  refine ⟨⟨I.ok.mod, S.kind, I.ok.glob, I.ok.blt, hCle, inj, fun x hx => CI.has x (kinds x hx), fun x c hfn e => ?_, I.ok.hd, I.ok.frames, .inl rfl, fun b hb => ?_, I.bs, Nat.le_trans I.ok.bsz I.sz, fun b o e hb => ?_, fun b hb => ?_, I.stack, I.stkFree⟩,
    rfl, I.bare, ?_, ⟨m, hns, fun i x v e1 e2 e3 => ?_⟩, fun x c e => ?_, ?_, fun x c e => ?_, fun p hp => absurd (show p ∈ ([] : List (Addr × Obj)) from hp) (by simp), ?_, ?_⟩
  · have hfn : (scope.names.lookup x == some .cell) = true := hfn
    have hm := PySem.mem_of_lookup (eq_of_beq hfn)
    rcases CI.what x c e with ⟨_, a1⟩ | ⟨a1, _⟩
    · exact absurd hm a1
    · exact Nat.le_of_lt (Nat.lt_of_le_of_lt hCle a1)
  · obtain ⟨⟨f0, f1, f2, f3, f4, f5⟩, lt⟩ := hf b hb
    exact ⟨(below b lt).1, fun x c e => cne x c b e lt f4⟩
  · obtain ⟨⟨f0, f1, f2, f3, f4, f5⟩, lt⟩ := hf b hb
    rcases f3 with z | z
    · exact I.ok.noex b o e z
    · exact Nat.lt_irrefl _ (Nat.lt_of_lt_of_le (Heap.lt_size e) (Nat.le_trans I.ok.bsz z))
  · obtain ⟨⟨f0, f1, f2, f3, f4, f5⟩, lt⟩ := hf b hb
    exact fun z => (List.mem_cons.mp (I.stkSub b z)).elim f1 f2
  · exact Un.laid hk (Nat.le_refl _) accn
  · have hi : ¬ i < own.length := fun hi => by
      unfold pick at e2
      rw [List.getElem?_append_left (by simpa using hi), List.getElem?_replicate] at e2
      split at e2 <;> cases e2
    unfold pick at e2
    rw [List.getElem?_append_right (by simpa using hi), List.length_replicate] at e2
    have e1 : (own ++ js.map (fun j => X.N.getD j ""))[i]? = some x := e1
    rw [List.getElem?_append_right (by omega)] at e1
    rw [List.getElem?_map] at e1 e2
    cases ej : js[i - own.length]? with
    | none => rw [ej] at e1; cases e1
    | some j =>
      rw [ej] at e1 e2
      have e1 : X.N.getD j "" = x := Option.some.inj e1
      have e2 : (σ[j]?).join = some v := Option.some.inj e2
      have e2' : σ[j]? = some (some v) := by
        cases q : σ[j]? with
        | none => rw [q] at e2; cases e2
        | some o => rw [q] at e2; have : o = some v := e2; rw [this]
      have hj : j < X.N.length := by
        have := (List.getElem?_eq_some_iff.mp e2').1
        rw [I.len] at this; exact this
      have e1' : X.N[j]? = some x := by
        rw [← e1, List.getD_eq_getElem?_getD, List.getElem?_eq_getElem hj]; rfl
      have e3 : Vis (relabel scope X.env) x := e3
      have notl : ¬ (x, NameKind.cell) ∈ scope.names := fun hm => (S.js j (List.mem_of_getElem? ej)).2 (by rw [e1]; exact S.cell _ hm rfl)
      have hfr : (x, NameKind.free) ∈ scope.names := by
        rcases e3 with e3 | e3 | e3
        · obtain ⟨k, q1, q2⟩ := relabel_lookup e3
          rcases q2 with q2 | ⟨_, q2⟩
          · subst q2
            exact absurd (e1 ▸ q1) (S.js j (List.mem_of_getElem? ej)).1
          · cases q2
        · exact (kinds x (.inl e3)).elim id fun z => absurd z notl
        · exact (kinds x (.inr e3)).elim id fun z => absurd z notl
      have hkind := S.free _ hfr rfl
      obtain ⟨m0, hn0, hl0⟩ := I.loc
      have hv : Vis X.env.scope x := by
        rcases hkind with z | z
        · exact .inr (.inl z)
        · exact .inr (.inr z)
      obtain ⟨u, r, lk⟩ := hl0 j x v e1' e2' hv
      refine ⟨u, r, ?_⟩
      rcases lk with ⟨z, _⟩ | ⟨_, c, ec, hc⟩
      · rcases hkind with q | q <;> (rw [z] at q; cases q)
      · obtain ⟨c', ec'⟩ := CI.has x (.inl hfr)
        have : c' = c := by
          rcases CI.what x c' ec' with ⟨a1, _⟩ | ⟨_, _, a3⟩
          · rw [ec] at a1; cases a1; rfl
          · exact absurd a3 notl
        subst this
        refine .inr ⟨?_, c', ec', ?_⟩
        · rcases e3 with e3 | e3 | e3
          · obtain ⟨k, q1, q2⟩ := relabel_lookup e3
            rcases q2 with q2 | ⟨_, q2⟩
            · subst q2
              exact absurd (e1 ▸ q1) (S.js j (List.mem_of_getElem? ej)).1
            · cases q2
          · exact .inl e3
          · exact .inr e3
        · obtain ⟨oc, hoc, hd⟩ := hc
          exact ⟨oc, hk _ _ hoc, hd⟩
  · rcases CI.what x c e with ⟨a1, _⟩ | ⟨_, a2, _⟩
    · obtain ⟨v, oc, hoc, hd⟩ := I.cell x c a1
      exact ⟨v, oc, hk _ _ hoc, hd⟩
    · exact ⟨none, a2⟩
  · show upd H s.heap.objs.size (.lst []) C = none
    rw [upd_ne hCne]
    exact I.hok.fresh hCle
  · rcases CI.what x c e with ⟨a1, _⟩ | ⟨a1, a2, _⟩
    · rw [upd_ne (below c (oldLt x c a1)).2]
      exact I.freeC x c a1
    · rw [upd_ne (Nat.ne_of_gt (Nat.lt_of_le_of_lt hCle a1))]
      exact I.hok.fresh (Nat.le_of_lt (Nat.lt_of_le_of_lt hCle a1))
  · refine I.hok.laid hk (Nat.le_refl _) ⟨by show 0 ≤ sizeLine; exact Nat.zero_le _, [], 0, .nil, ?_⟩
    exact hn
  · unfold pick
    show _ = (own ++ js.map (fun j => X.N.getD j "")).length
    rw [List.length_append, List.length_append, List.length_replicate, List.length_map, List.length_map]
end

section
variable {X : Cx} {scope : Scope} {own : List Str} {js : List Nat} {tg iter elt : Expr} {ifs : List Expr} {pos : Pos} {wi : TI} {g : TG} {c : TT} {te : TE}
theorem comp_leaveC {pins : List (Addr × Obj)} {σ σ' : St} {H H' : Hp} {s s' : Shared} {cl : List (Str × Addr)} {fp : List Addr} {C : Addr} (I : Inv X pins σ H s) (hf : ∀ b ∈ fp, FpOk X pins H b)
    (J : Inv (X.compC scope own js cl s H C fp) [] σ' H' s') : Inv X pins σ H' s' :=
  I.call' (ch := fp) J.os J.base J.hok J.bare fun b hb => by
    obtain ⟨f0, f1, f2, f3, f4, f5⟩ := hf b hb
    exact ⟨f3, f1, f4, f5⟩

theorem comp_coreC {pins : List (Addr × Obj)} {σ : St} {H : Hp} {s : Shared} {cl0 : List (Str × Addr)} {fp : List Addr} {it : Addr} {tn : Nat → Heap → Prop} {J : It} {Q : VK} {E : Value → Shared → Prop} {RR : Value → Addr → Result → Shared → Prop}
    (hc : X.calm = true) (S : CompScopeC X scope own js) (I : Inv X pins σ H s) (T : Turn X.prog X.w X.K tg J fp it tn) (t0 : tn 0 s.heap) (hf : ∀ b ∈ fp, FpOk X pins H b)
    (hcl : ∀ x c, cl0.lookup x = some c → X.env.cells.lookup x = some c) (hcl2 : ∀ n, (n, NameKind.free) ∈ scope.names → ∃ c, cl0.lookup n = some c)
    (hg : ∀ cl s H C fp, PG (X.compC scope own js cl s H C fp) tg g) (hi : ∀ cl s H C fp, PIfs (X.compC scope own js cl s H C fp) ifs c) (he : ∀ cl s H C fp, PE (X.compC scope own js cl s H C fp) elt te)
    (q : tCompR own.length js g c te J σ H Q)
    (hRR : ∀ acc C cl H' s', s.heap.objs.size ≤ C → Inv (X.compC scope own js cl s H C fp) [] (pick own.length js σ) H' s' → Q (.ref acc) H' → RR (.ref acc) C (.ok .next) s') :
    wpAny (model X.prog X.w) X.A (newList []) (fun acc s3 => wpAny (model X.prog X.w) X.A (newFunctionEnv scope X.env.globals cl0 [] X.env.qual none .none (some X.env)) (fun cenv s4 =>
      codeAny (model X.prog X.w) X.A (.compStart (.ListComp elt [⟨tg, iter, ifs, 0⟩] scope pos) 0 (.ref it) acc { cenv with scope := relabel scope X.env }) (RR acc cenv.locals) s4) E s3) E s := by
  refine wpAny_newObj_type (wpAny_newFunctionEnv_comp ?_)
  dsimp only
  generalize hH2 : s.heap.push { cls := .type "list", dict := none, data := .seq ([] : List Value).toArray } = H2
  have hC : @Eq Nat H2.objs.size (s.heap.objs.size + 1) := by rw [← hH2, Heap.size_push]
  have hDC : s.heap.objs.size ≠ H2.objs.size := by rw [hC]; exact Nat.ne_of_lt (Nat.lt_succ_self _)
  have hCle : s.heap.objs.size ≤ H2.objs.size := by rw [hC]; exact Nat.le_succ _
  have CI := cells_in (h := H2.push { cls := .type "dict", data := .dict #[] }) (C := H2.objs.size) S hcl hcl2 (by rw [Heap.size_push])
  have hns1 : (pushCells (H2.push { cls := .type "dict", data := .dict #[] }) scope.names).Ns H2.objs.size fun _ => none := (Heap.Ns.new H2 (.type "dict")).keeps (pushCells_keeps _ _)
  have old2 : ∀ b o, H2.get? b = some o → (pushCells (H2.push { cls := .type "dict", data := .dict #[] }) scope.names).get? b = some o := fun b o e => pushCells_keeps _ _ b o (Heap.get?_push_of_some _ e)
  generalize hh1 : pushCells (H2.push { cls := .type "dict", data := .dict #[] }) scope.names = h1 at CI hns1 old2 ⊢
  generalize hcl' : cellsFrom (H2.objs.size + 1) scope.names cl0 = cl at CI ⊢
  have old : ∀ b o, s.heap.get? b = some o → h1.get? b = some o := fun b o e => old2 b o (hH2 ▸ Heap.get?_push_of_some _ e)
  have hacc : h1.get? s.heap.objs.size = some { cls := .type "list", dict := none, data := .seq ([] : List Value).toArray } := old2 _ _ (hH2 ▸ Heap.get?_push_size _ rfl)
  have hfl : ∀ b ∈ fp, FpOk X pins H b ∧ b < s.heap.objs.size := fun b hb => ⟨hf b hb, by
    obtain ⟨o, e, _⟩ := T.obj 0 s.heap t0 b hb
    exact Heap.lt_size e⟩
  obtain ⟨W, ⟨m0, w0⟩, turn⟩ := q s.heap.objs.size (I.hok.fresh (Nat.le_refl _))
  have I1 := comp_startC (t1 := s.toks) S I hfl CI hC hns1 old hacc
  have t1 : tn 0 h1 := T.keep 0 s.heap h1 t0 fun b _ o e => old b o e
  have stat : ∀ {pins' : List (Addr × Obj)} {H' : Hp}, (∀ b ∈ fp, H' b = none) → (∀ p ∈ pins', p.1 ∉ fp) → ∀ b ∈ fp, FpOk (X.compC scope own js cl s H H2.objs.size fp) pins' H' b := fun hn hp b hb => by
    obtain ⟨⟨f0, f1, f2, f3, f4, f5⟩, lt⟩ := hfl b hb
    refine ⟨hn b hb, Nat.ne_of_lt (Nat.lt_of_lt_of_le lt hCle), fun z => (List.mem_cons.mp (I.stkSub b z)).elim f1 f2, .inl hb, fun x c e => ?_, fun p hp' z => hp p hp' (z ▸ hb)⟩
    rcases CI.what x c e with ⟨a1, _⟩ | ⟨a1, _⟩
    · exact f4 x c a1
    · exact Nat.ne_of_gt (Nat.lt_trans (Nat.lt_of_lt_of_le lt hCle) a1)
  have fr0 : ∀ b ∈ fp, (upd H s.heap.objs.size (.lst [])) b = none := fun b hb => by
    obtain ⟨⟨f0, _⟩, lt⟩ := hfl b hb
    rw [upd_ne (Nat.ne_of_lt lt)]; exact f0
  have loop : ∀ s3 : Shared, s3 = { s with heap := h1 } →
      codeAny (model X.prog X.w) X.A (.compLoop (.ListComp elt [⟨tg, iter, ifs, 0⟩] scope pos) 0 (.ref it) (.ref s.heap.objs.size) (compEnvC scope cl H2.objs.size X.env)) (RR (.ref s.heap.objs.size) H2.objs.size) s3 := by
    rintro s3 rfl
    refine compLoop_any (fun n s' => ∃ i H', Inv (X.compC scope own js cl s H H2.objs.size fp) [] (pick own.length js σ) H' s' ∧ tn i s'.heap ∧ (∀ b ∈ fp, H' b = none) ∧ W i n H') ?_ m0 ⟨0, _, I1, t1, fr0, w0⟩
    rintro n s4 ⟨i, H4, I4, st4, fr4, w4⟩
    have noP : ∀ p ∈ ([] : List (Addr × Obj)), p.1 ∉ fp := fun p hp => nomatch hp
    rcases turn i n H4 w4 with ⟨stop, qn⟩ | ⟨go, step⟩
    · refine thn (T.done (X.compC scope own js cl s H H2.objs.size fp) rfl rfl rfl hc i [] s4 _ H4 (fun _ _ => False) I4 (stat fr4 noP) st4 stop) fun r s5 ⟨hr, I5⟩ => ?_
      subst hr
      exact hRR _ _ _ H4 s5 hCle I5 qn
    · refine thn (T.item (X.compC scope own js cl s H H2.objs.size fp) rfl rfl rfl hc i [] s4 _ H4 (fun _ _ => False) I4 (stat fr4 noP) st4 go) fun r s5 ⟨u, hr, h5⟩ => ?_
      subst hr
      refine thn h5 fun _ s6 ⟨x, H6, I6, r6, y6, st6, fr6⟩ => ?_
      have I6' := I6.pinned (stat fr6 noP) (T.obj _ _ st6)
      have again : ∀ {σ7 : St} {H7 : Hp} {s7 : Shared} {m' : Nat}, Wk (pick own.length js σ) σ7 → Inv (X.compC scope own js cl s H H2.objs.size fp) ([] ++ pinsAt fp s6.heap) σ7 H7 s7 → m' < n → W (i + 1) m' H7 →
          ∃ m, m < n ∧ ∃ i H', Inv (X.compC scope own js cl s H H2.objs.size fp) [] (pick own.length js σ) H' s7 ∧ tn i s7.heap ∧ (∀ b ∈ fp, H' b = none) ∧ W i m H' := fun {σ7 H7 s7 m'} wk I7 hm w7 => by
        refine ⟨m', hm, i + 1, H7, (I7.unpinned).weak wk.1 wk.2, T.keep _ _ _ st6 fun b hb o e => (I7.pin (b, o) (List.mem_append_right _ (List.mem_append_right _ (mem_pinsAt hb e)))).1, fun b hb => ?_, w7⟩
        obtain ⟨o, e, d⟩ := T.obj _ _ st6 b hb
        exact (I7.pin (b, o) (List.mem_append_right _ (List.mem_append_right _ (mem_pinsAt hb e)))).2.1
      refine thn (hg cl s H H2.objs.size fp _ s6 _ H6 x u _ I6' r6 (step x H6 y6)) fun _ s7 ⟨σ7, H7, I7, wk7, q7⟩ => ?_
      refine thn (hi cl s H H2.objs.size fp _ s7 σ7 H7 _ I7 q7) fun ok s8 ⟨H8, I8, q8⟩ => ?_
      cases ok with
      | false =>
        obtain ⟨m', hm, w8⟩ := (show ∃ m', m' < n ∧ W (i + 1) m' H8 from by simpa using q8)
        exact again wk7 I8 hm w8
      | true =>
        have q8 : te σ7 H8 fun y H4 => ∃ ys, H4 s.heap.objs.size = some (.lst ys) ∧ ys.length < sizeLine ∧ ∃ m', m' < n ∧ W (i + 1) m' (upd H4 s.heap.objs.size (.lst (ys ++ [y]))) := by simpa using q8
        refine thn (he cl s H H2.objs.size fp _ s8 σ7 H8 _ I8 q8) fun yv s9 ⟨y, H9, I9, r9, ys, hy, hz, m', hm, w9⟩ => ?_
        refine thn (mt_append (X := X.compC scope own js cl s H H2.objs.size fp) _ s9 σ7 H9 (.ref s.heap.objs.size) [y] (.ref s.heap.objs.size) [yv] (fun _ H' => W (i + 1) m' H') I9 rfl (.cons r9 .nil) ⟨_, ys, y, rfl, rfl, hy, hz, w9⟩) fun _ s10 ⟨_, H10, I10, _, w10⟩ => ?_
        exact again wk7 I10 hm w10
  exact codeAny_compStart_list (loop _ rfl) (T.self X.A 0 _ _ _ t1 (loop _ rfl))

theorem pe_compC {sc : Scope} {N : List Str} (own : List Str) (js : List Nat) (hsc : RelSc X.env.scope sc) (hNN : X.N = N) (S0 : CompScopeCN sc N scope js) (hc : X.calm = true) (hit : PI X tg iter wi)
    (hg : ∀ cl s H C fp, PG (X.compC scope own js cl s H C fp) tg g) (hi : ∀ cl s H C fp, PIfs (X.compC scope own js cl s H C fp) ifs c) (he : ∀ cl s H C fp, PE (X.compC scope own js cl s H C fp) elt te)
    (hs : ∀ x, foldedSetIterable iter X.env x = pure x := by intro _; rfl) : PE X (.ListComp elt [⟨tg, iter, ifs, 0⟩] scope pos) (tComp own.length js wi g c te) := by
  intro pins s σ H Q I h
  have S : CompScopeC X scope own js := S0.cs hsc hNN
  obtain ⟨cl, hcl0, hcl, hcl2⟩ := closure_ok (env := X.env) (scope := scope) fun n hn => I.ok.has n (S.free _ hn rfl)
  rw [eval_ListComp]
  refine wpAny_comprehension_free (use := none) rfl hs hcl0 S.kind S.names (thn (hit pins s σ H _ I h) fun xv s1 h1 => thn h1 fun itv s2 h2 => ?_)
  obtain ⟨it, fp, tn, J, H2, e, I2, T, st2, f2, q2⟩ := h2
  subst e
  refine comp_coreC (RR := fun acc C => compPost (model X.prog X.w) X.A X.xe none (EP X pins σ Q) acc C) hc S I2 T st2 f2 hcl hcl2 hg hi he q2 fun acc C cl' H' s' hC J' q' => ?_
  obtain ⟨m, hn, _⟩ := J'.loc
  exact ⟨m, hn, fun h' hs' => ⟨.ref acc, H', comp_gone I2 hC (comp_leaveC I2 f2 J') J'.free hs', rfl, q'⟩⟩

theorem ps_setCompC {i : Nat} {x : Str} {pos' spos : Pos} (hN : X.N.Nodup) (hi0 : X.N[i]? = some x) (hx : X.env.scope.names.lookup x = some .local) {sc : Scope} {N : List Str} (own : List Str) (js : List Nat) (hsc : RelSc X.env.scope sc) (hNN : X.N = N) (S0 : CompScopeCN sc N scope js) (hc : X.calm = true) (hit : PI X tg iter wi)
    (hg : ∀ cl s H C fp, PG (X.compC scope own js cl s H C fp) tg g) (hi : ∀ cl s H C fp, PIfs (X.compC scope own js cl s H C fp) ifs c) (he : ∀ cl s H C fp, PE (X.compC scope own js cl s H C fp) elt te)
    (hsw : swapsWith (.ListComp elt [⟨tg, iter, ifs, 0⟩] scope pos) (some (.Name x pos')) spos.line X.env = pure true)
    (hs : ∀ x, foldedSetIterable iter X.env x = pure x := by intro _; rfl) : PS X (.Assign [.Name x pos'] (.ListComp elt [⟨tg, iter, ifs, 0⟩] scope pos) spos) (tAsg (tComp own.length js wi g c te) (gName i)) := by
  intro pins s σ H D I h
  have S : CompScopeC X scope own js := S0.cs hsc hNN
  obtain ⟨cl, hcl0, hcl, hcl2⟩ := closure_ok (env := X.env) (scope := scope) fun n hn => I.ok.has n (S.free _ hn rfl)
  rw [exec_Assign_Name_used _ _ _ _ hsw]
  refine wpAny_bind (wpAny_standAt (wpAny_bind ?_))
  show wpAny _ X.A (do let _ ← comprehension (.ListComp elt [⟨tg, iter, ifs, 0⟩] scope pos) scope X.env _ (newList []) false (eval iter X.env) (some (assign (.Name x pos') X.env))) _ _ s
  refine wpAny_bind (wpAny_mono (wpAny_comprehension_free (use := some (assign (.Name x pos') X.env)) (Q := fun _ s' => SP X pins D .next s') rfl hs hcl0 S.kind S.names
    (thn (hit pins s σ H _ I h) fun xv s1 h1 => thn h1 fun itv s2 h2 => ?_)) (fun _ s' hq => wpAny_pure (wpAny_pure hq)) fun _ _ e => e)
  obtain ⟨it, fp, tn, J, H2, e, I2, T, st2, f2, q2⟩ := h2
  subst e
  refine comp_coreC (RR := fun acc C => compPost (model X.prog X.w) X.A X.xe (some (assign (.Name x pos') X.env)) (fun _ s' => SP X pins D .next s') acc C) hc S I2 T st2 f2 hcl hcl2 hg hi he q2 fun acc C cl' H' s' hC J' q' => ?_
  obtain ⟨m, hn, _⟩ := J'.loc
  have I3 := comp_leaveC I2 f2 J'
  show wpAny _ X.A (assign (.Name x pos') X.env (.ref acc)) _ _ _
  refine wpAny_assign_Name (store_ok2 I3 hN hi0 (.inl hx) (v := .ref acc) rfl (fun s4 I4 hsb => ?_) (.inr hx))
  obtain ⟨a, sb, ha⟩ := hsb
  have hCa : C ≠ a := by
    rcases ha with ha | ha
    · rw [ha]; exact Nat.ne_of_gt (Nat.lt_of_lt_of_le I2.lt hC)
    · obtain ⟨v, z⟩ := I2.cell x a ha
      exact Nat.ne_of_gt (Nat.lt_of_lt_of_le z.lt hC)
  refine ⟨m, hn.sameBut sb hCa, fun h' hs' => ⟨_, H', comp_gone I2 hC I4 J'.free hs', q'⟩⟩
end
end L2

namespace OL
open PySem L2
/-! ### draws of the fourth stage -/
noncomputable def D31 (ds : List Int) : Prop := ∀ d ∈ ds, 0 ≤ d ∧ d < 2147483648
theorem D31.nil : D31 [] := fun d h => nomatch h
theorem D31.snoc {ds : List Int} {d : Int} (h : D31 ds) (h0 : 0 ≤ d) (h1 : d < 2147483648) : D31 (ds ++ [d]) := fun x hx => by
  rcases List.mem_append.mp hx with z | z
  · exact h x z
  · have : x = d := by simpa using z
    subst this; exact ⟨h0, h1⟩
theorem D31.cut {ds : List Int} {lo hi : Option Int} (h : D31 ds) : D31 (cutI ds lo hi) := fun d hd => h d (cutI_mem hd)
theorem D31.tail {d : Int} {ds : List Int} (h : D31 (d :: ds)) : D31 ds := fun x hx => h x (List.mem_cons_of_mem _ hx)
theorem mod31 (a : Int) {m : Int} (h0 : 0 < m) (h1 : m ≤ 2147483648) : 0 ≤ a % m ∧ a % m < 2147483648 := by
  have g0 := Int.emod_nonneg a (show m ≠ 0 by omega)
  have g1 := Int.emod_lt_of_pos a h0
  omega
noncomputable def spMix : Sp := fun vs H Q _ => ∃ (c k : Int), vs = [.int c, .int k] ∧ 0 ≤ k ∧ k ≤ 2000 ∧ ∀ y : Int, 0 ≤ y → y < 2147483648 → Q (.int y) H
noncomputable def spDr (K : PySem.W.Frag) : Sp := fun vs H Q _ => ∃ (a : Addr) (ns : List Int) (tn mn : Int), vs = [.ref a, .int tn, .int mn] ∧ SqL K H a (ns.map V.int) ∧ ns.length ≤ 63 ∧ 0 ≤ tn ∧ tn ≤ 100 ∧ 0 ≤ mn ∧ mn ≤ 900 ∧ ∀ (r : Addr) (ds : List Int) (H' : Hp), Same H H' → H r = none → H' r = some (.lst (ds.map V.int)) → D31 ds → Q (.ref r) H'
noncomputable def spPop : Sp := fun vs H Q _ => ∃ (l : Addr) (ds : List Int), vs = [.ref l] ∧ H l = some (.lst (ds.map V.int)) ∧ D31 ds ∧ ∀ (d : Int) (ds' : List Int) (H' : Hp), 0 ≤ d → d < 2147483648 → SameB l H H' → H' l = some (.lst (ds'.map V.int)) → D31 ds' → Q (.int d) H'
noncomputable def spBk8 : Sp := fun vs H Q _ => ∃ (l : Addr) (ds : List Int) (most am : Int), vs = [.ref l, .int most, .int am] ∧ H l = some (.lst (ds.map V.int)) ∧ D31 ds ∧ 1 ≤ most ∧ most ≤ 12 ∧ 0 ≤ am ∧ am ≤ 200 ∧
  ∀ (b bl : Addr) (many : Int) (bs ds' : List Int) (H' : Hp), SameB l H H' → H b = none → H bl = none → H' b = some (.tup [.int many, .ref bl]) → H' bl = some (.lst (bs.map V.int)) → H' l = some (.lst (ds'.map V.int)) → D31 ds' → BookOk many bs most am → Q (.ref b) H'

/-! ### least ones -/
theorem has_self (x : Int) (h : 0 ≤ x) : hasF x x = true := (has_iff h h).mpr fun _ z => z
theorem hasTr {x y z : Int} (hx : 0 ≤ x) (hy : 0 ≤ y) (hz : 0 ≤ z) (h1 : hasF x y = true) (h2 : hasF y z = true) : hasF x z = true :=
  (has_iff hx hz).mpr fun i hi => (has_iff hx hy).mp h1 i ((has_iff hy hz).mp h2 i hi)
theorem hasLe {x y : Int} (hx : 0 ≤ x) (hy : 0 ≤ y) (h : hasF x y = true) : y ≤ x := by
  unfold hasF at h
  rw [beq_iff_eq, PyProof.Rows.bitAnd_pp hx hy] at h
  have : x.toNat &&& y.toNat ≤ x.toNat := Nat.and_le_left
  omega
theorem andC {x y : Int} (hx : 0 ≤ x) (hy : 0 ≤ y) : Builtin.bitAnd x y = Builtin.bitAnd y x := by
  rw [PyProof.Rows.bitAnd_pp hx hy, PyProof.Rows.bitAnd_pp hy hx, Nat.and_comm]
structure LeastOf (ns T : List Int) : Prop where
  rise : T.Pairwise (· < ·)
  mem : ∀ x, x ∈ T ↔ x ∈ ns ∧ ∀ y ∈ ns, hasF x y = true → y = x
  len : T.length ≤ ns.length
  below : ∀ y ∈ ns, ∃ t ∈ T, hasF y t = true
noncomputable def stepLe (T : List Int) (x : Int) : List Int := if (T.any fun t => hasF x t) = true then T else T ++ [x]
noncomputable def leastF (ns : List Int) : List Int := ns.foldl stepLe []
theorem leastF_succ {ns : List Int} {i : Nat} (h : i < ns.length) : leastF (ns.take (i + 1)) = stepLe (leastF (ns.take i)) (ns.getD i 0) := by
  unfold leastF
  rw [take_get h, List.foldl_append]; rfl
theorem stepLe_len (T : List Int) (x : Int) : (stepLe T x).length ≤ T.length + 1 := by
  unfold stepLe
  split
  · omega
  · rw [List.length_append]; exact Nat.le_refl _
theorem leastF_len (ns : List Int) : ∀ i, i ≤ ns.length → (leastF (ns.take i)).length ≤ i
  | 0, _ => by simp [leastF]
  | i + 1, h => by
    rw [leastF_succ (by omega)]
    have := leastF_len ns i (by omega)
    have := stepLe_len (leastF (ns.take i)) (ns.getD i 0)
    omega
theorem least_snoc {ns T : List Int} {z : Int} (L : LeastOf ns T) (hn : ∀ x ∈ ns, 0 ≤ x ∧ x ≤ z) (hz : 0 ≤ z) : LeastOf (ns ++ [z]) (stepLe T z) := by
  have tn : ∀ t ∈ T, t ∈ ns := fun t ht => ((L.mem t).mp ht).1
  unfold stepLe
  by_cases c : (T.any fun t => hasF z t) = true
  · rw [if_pos c]
    obtain ⟨t, ht, hzt⟩ := List.any_eq_true.mp c
    refine ⟨L.rise, fun x => ?_, by rw [List.length_append]; exact Nat.le_trans L.len (Nat.le_add_right _ _), fun y hy => ?_⟩
    · constructor
      · intro hx
        obtain ⟨h1, h2⟩ := (L.mem x).mp hx
        refine ⟨List.mem_append_left _ h1, fun y hy hh => ?_⟩
        rcases List.mem_append.mp hy with q | q
        · exact h2 y q hh
        · have e : y = z := by simpa using q
          subst e
          exact Int.le_antisymm (hasLe (hn x h1).1 hz hh) (hn x h1).2
      · rintro ⟨h1, h2⟩
        rcases List.mem_append.mp h1 with q | q
        · exact (L.mem x).mpr ⟨q, fun y hy => h2 y (List.mem_append_left _ hy)⟩
        · have e : x = z := by simpa using q
          subst e
          rw [← h2 t (List.mem_append_left _ (tn t ht)) hzt]; exact ht
    · rcases List.mem_append.mp hy with q | q
      · exact L.below y q
      · have e : y = z := by simpa using q
        subst e
        exact ⟨t, ht, hzt⟩
  · rw [if_neg c]
    have no : ∀ y ∈ ns, ¬ hasF z y = true := fun y hy hh => by
      obtain ⟨t, ht, hyt⟩ := L.below y hy
      exact c (List.any_eq_true.mpr ⟨t, ht, hasTr hz (hn y hy).1 (hn t (tn t ht)).1 hh hyt⟩)
    refine ⟨?_, fun x => ?_, ?_, fun y hy => ?_⟩
    · refine List.pairwise_append.mpr ⟨L.rise, List.pairwise_singleton _ _, fun a ha b hb => ?_⟩
      have e : b = z := by simpa using hb
      subst e
      have h1 := hn a (tn a ha)
      have : a ≠ b := fun e => no a (tn a ha) (by rw [e]; exact has_self b hz)
      omega
    · constructor
      · intro hx
        rcases List.mem_append.mp hx with q | q
        · obtain ⟨h1, h2⟩ := (L.mem x).mp q
          refine ⟨List.mem_append_left _ h1, fun y hy hh => ?_⟩
          rcases List.mem_append.mp hy with q | q
          · exact h2 y q hh
          · have e : y = z := by simpa using q
            subst e
            exact Int.le_antisymm (hasLe (hn x h1).1 hz hh) (hn x h1).2
        · have e : x = z := by simpa using q
          subst e
          refine ⟨List.mem_append_right _ (by simp), fun y hy hh => ?_⟩
          rcases List.mem_append.mp hy with q | q
          · exact absurd hh (no y q)
          · simpa using q
      · rintro ⟨h1, h2⟩
        rcases List.mem_append.mp h1 with q | q
        · exact List.mem_append_left _ ((L.mem x).mpr ⟨q, fun y hy => h2 y (List.mem_append_left _ hy)⟩)
        · exact List.mem_append_right _ q
    · rw [List.length_append, List.length_append]; exact Nat.add_le_add_right L.len _
    · rcases List.mem_append.mp hy with q | q
      · obtain ⟨t, ht, h⟩ := L.below y q
        exact ⟨t, List.mem_append_left _ ht, h⟩
      · have e : y = z := by simpa using q
        subst e
        exact ⟨y, List.mem_append_right _ (by simp), has_self y hz⟩
theorem LeastOf.nil : LeastOf [] [] := ⟨.nil, fun x => ⟨fun h => absurd h List.not_mem_nil, fun h => absurd h.1 List.not_mem_nil⟩, Nat.le_refl _, fun y h => absurd h List.not_mem_nil⟩
theorem least_ok {ns : List Int} (hs : ns.Pairwise (· ≤ ·)) (h0 : ∀ x ∈ ns, 0 ≤ x) : LeastOf ns (leastF ns) := by
  have go : ∀ i, i ≤ ns.length → LeastOf (ns.take i) (leastF (ns.take i)) := by
    intro i
    induction i with
    | zero => intro _; rw [List.take_zero]; exact .nil
    | succ i ih =>
      intro h
      have hi : i < ns.length := h
      rw [leastF_succ hi, take_get hi]
      refine least_snoc (ih (by omega)) (fun x hx => ⟨h0 x (List.mem_of_mem_take hx), ?_⟩) (h0 _ (getD_mem hi))
      obtain ⟨j, hj, e⟩ := List.mem_iff_getElem.mp hx
      have hj' : j < i := by rw [List.length_take] at hj; omega
      rw [List.getElem_take] at e
      rw [← e, List.getD_eq_getElem?_getD, List.getElem?_eq_getElem hi]
      exact List.pairwise_iff_getElem.mp hs j i (by omega) hi hj'
  have := go ns.length (Nat.le_refl _)
  rwa [List.take_length] at this
theorem rise_ext {l1 l2 : List Int} (h1 : l1.Pairwise (· < ·)) (h2 : l2.Pairwise (· < ·)) (h : ∀ x, x ∈ l1 ↔ x ∈ l2) : l1 = l2 := by
  have n1 : l1.Nodup := h1.imp fun {a b} z => Int.ne_of_lt z
  have n2 : l2.Nodup := h2.imp fun {a b} z => Int.ne_of_lt z
  have p : l1.Perm l2 := (List.perm_ext_iff_of_nodup n1 n2).mpr h
  exact List.Perm.eq_of_pairwise (le := (· < ·)) (fun a b _ _ h3 h4 => absurd h3 (Int.lt_asymm h4)) h1 h2 p
theorem LeastOf.sub {ns T : List Int} (h : LeastOf ns T) {x : Int} (hx : x ∈ T) : x ∈ ns := ((h.mem x).mp hx).1
/-! ### crossings -/
noncomputable def crossB (ls : List Int) (x : Int) : Bool := ls.all fun o => decide (0 < Builtin.bitAnd x o)
noncomputable def crossL (many : Int) (ls : List Int) : List Int := (rangeI (2 ^ many.toNat)).filter (crossB ls)
theorem powC (many : Int) : ((2 ^ many.toNat : Nat) : Int) = 2 ^ many.toNat := by push_cast; rfl
theorem mem_rangeI {n : Nat} {x : Int} : x ∈ rangeI n ↔ 0 ≤ x ∧ x < n := by
  unfold rangeI
  rw [List.mem_map]
  constructor
  · rintro ⟨i, hi, rfl⟩
    have := List.mem_range.mp hi
    omega
  · rintro ⟨h0, h1⟩
    exact ⟨x.toNat, List.mem_range.mpr (by omega), by omega⟩
theorem mem_range_InB {many x : Int} : x ∈ rangeI (2 ^ many.toNat) ↔ InB many x := by
  rw [mem_rangeI, powC]; exact Iff.rfl
theorem rangeI_rise (n : Nat) : (rangeI n).Pairwise (· < ·) := by
  unfold rangeI
  rw [List.pairwise_map]
  exact List.pairwise_lt_range.imp fun {a b} h => by omega
/-- the things outside -/
noncomputable def outF (many x : Int) : Int := (((2 ^ many.toNat - 1) ^^^ (x.toNat % 2 ^ many.toNat) : Nat) : Int)
/-! ### promises -/
noncomputable def spLeastA (K : PySem.W.Frag) : Sp := fun vs H Q _ => ∃ (l : Addr) (ns : List Int), vs = [.ref l] ∧ SqL K H l (ns.map V.int) ∧ ns.length ≤ 5000 ∧ ns.Pairwise (· ≤ ·) ∧ (∀ x ∈ ns, 0 ≤ x) ∧
  ∀ (r : Addr) (T : List Int) (H' : Hp), Same H H' → H r = none → H' r = some (.lst (T.map V.int)) → LeastOf ns T → Q (.ref r) H'
noncomputable def spLeastL (K : PySem.W.Frag) : Sp := fun vs H Q _ => ∃ (l : Addr) (ns : List Int), vs = [.ref l] ∧ SqL K H l (ns.map V.int) ∧ ns.length ≤ 5000 ∧ (∀ x ∈ ns, 0 ≤ x) ∧
  ∀ (r : Addr) (T : List Int) (H' : Hp), Same H H' → H r = none → H' r = some (.lst (T.map V.int)) → LeastOf ns T → Q (.ref r) H'
noncomputable def spCrossAll (K : PySem.W.Frag) : Sp := fun vs H Q _ => ∃ (l : Addr) (x : Int) (ls : List Int), vs = [.int x, .ref l] ∧ SqL K H l (ls.map V.int) ∧ ls.length ≤ 1000 ∧ ∀ H', Same H H' → Q (.bl (crossB ls x)) H'
noncomputable def spCross (K : PySem.W.Frag) : Sp := fun vs H Q _ => ∃ (l : Addr) (many : Int) (ls : List Int), vs = [.int many, .ref l] ∧ 0 ≤ many ∧ many ≤ 12 ∧ SqL K H l (ls.map V.int) ∧ ls.length ≤ 1000 ∧
  ∀ (r : Addr) (T : List Int) (H' : Hp), Same H H' → H r = none → H' r = some (.lst (T.map V.int)) → LeastOf (crossL many ls) T → Q (.ref r) H'
end OL

/-! comprehensions by a list of what is walked, a choice and what comes of each -/
namespace OL
open PySem L2
noncomputable def LookE (t : TE) (σ : St) (H : Hp) (v : V) : Prop := ∀ Q : VK, (∀ H', Same H H' → Q v H') → t σ H Q
theorem LookE.pure {t : TE} {σ : St} {H : Hp} {v : V} (h : ∀ Q : VK, Q v H → t σ H Q) : LookE t σ H v := fun Q q => h Q (q H (Same.refl H))
/-- what a turn must do -/
noncomputable def CTurn (m : Nat) (js : List Nat) (g : TG) (c : TT) (te : TE) (σ : St) (v : V) (H2 : Hp) (b : Bool) (R : Hp → V → Prop) : Prop :=
  ∀ (PUT : V → Hp → Prop) (SKIP : Hp → Prop), (b = true → ∀ y H', Same H2 H' → R H' y → PUT y H') → (b = false → ∀ H', Same H2 H' → SKIP H') →
    g v (pick m js σ) H2 fun σ2 H3 => Wk (pick m js σ) σ2 ∧ c σ2 H3 fun k H4 => if k = true then te σ2 H4 fun y H5 => PUT y H5 else SKIP H4
section
variable {K : PySem.W.Frag} {m : Nat} {js : List Nat} {g : TG} {c : TT} {te : TE} {σ : St} {H1 : Hp} {Q : VK} {α : Type}
theorem paired_take {F : V → α → Prop} {xs : List V} {as : List α} (h : Paired F xs as) {i : Nat} {v : V} (hv : xs[i]? = some v) : ∃ x, as[i]? = some x ∧ F v x := by
  induction h generalizing i with
  | nil => simp at hv
  | cons z r ih =>
    cases i with
    | zero => simp at hv; subst hv; exact ⟨_, rfl, z⟩
    | succ i => simpa using ih (by simpa using hv)
theorem take_at {as : List α} {i : Nat} {x : α} (h : as[i]? = some x) : as.take (i + 1) = as.take i ++ [x] := by
  obtain ⟨hi, e⟩ := List.getElem?_eq_some_iff.mp h
  rw [← e]; exact List.take_succ_eq_append_getElem hi
theorem filt_len {p : α → Bool} {as : List α} {i : Nat} : ((as.take i).filter p).length ≤ as.length := Nat.le_trans (List.length_filter_le _ _) (by rw [List.length_take]; exact Nat.min_le_right _ _)
theorem filt_yes {p : α → Bool} {as : List α} {i : Nat} {x : α} (h : as[i]? = some x) (c : p x = true) : (as.take (i + 1)).filter p = (as.take i).filter p ++ [x] := by
  rw [take_at h, List.filter_append, List.filter_cons, if_pos c]; rfl
theorem filt_no {p : α → Bool} {as : List α} {i : Nat} {x : α} (h : as[i]? = some x) (c : p x = false) : (as.take (i + 1)).filter p = (as.take i).filter p := by
  rw [take_at h, List.filter_append, List.filter_cons, if_neg (by rw [c]; decide)]; simp
/-- over a list -/
theorem compA_list {a : Addr} {xs : List V} {as : List α} {Re : V → α → Prop} (hx : SqL K H1 a xs) (hp : Paired Re xs as) (p : α → Bool) (Rl : Hp → V → α → Prop) (hst : ∀ H H' y x, TSame H H' → Rl H y x → Rl H' y x) (hz : as.length ≤ 65000)
    (turn : ∀ x v H2, x ∈ as → Re v x → Same H1 H2 → CTurn m js g c te σ v H2 (p x) fun H' y => Rl H' y x)
    (hQ : ∀ acc ys H', H1 acc = none → Same H1 H' → H' acc = some (.lst ys) → Paired (Rl H') ys (as.filter p) → Q (.ref acc) H') : tCompR m js g c te (Itl K a) σ H1 Q := by
  intro acc hacc
  have hl := Paired.length hp
  refine ⟨CW xs.length acc (fun i ys H => Same H1 H ∧ Paired (Rl H) ys ((as.take i).filter p)), ⟨_, rfl, Nat.zero_le _, [], upd_same, same_new hacc _, .nil⟩, ?_⟩
  rintro i m' H ⟨rfl, hi, ys, h0, S, hR⟩
  have q := S.seq hx
  by_cases hlt : i < xs.length
  · refine .inr ⟨⟨xs, xs[i], q, by simp [hlt]⟩, fun v H' y => ?_⟩
    obtain ⟨e, y⟩ := y
    subst e
    obtain ⟨x, hxa, hre⟩ := paired_take hp (y xs q)
    have hyl := Paired.length hR
    have hfl : ((as.take i).filter p).length ≤ as.length := filt_len
    refine turn x v _ (List.mem_of_getElem? hxa) hre S _ _ (fun cc y' H5 s r => ?_) (fun cc H4 s => ?_)
    · refine ⟨ys, s acc _ h0, big5 (by omega), xs.length - (i + 1), by omega, rfl, hlt, ys ++ [y'], upd_same, fun b o z => ?_, ?_⟩
      · rw [upd_ne (ne_of_none z hacc)]; exact s b o (S b o z)
      · have ts : TSame H5 (upd H5 acc (.lst (ys ++ [y']))) := tsame_upd (s acc _ h0)
        rw [filt_yes hxa cc]
        exact Paired.snoc (Paired.imp' (fun _ _ z => hst _ _ _ _ ts (hst _ _ _ _ s.t z)) hR) (hst _ _ _ _ ts r)
    · refine ⟨xs.length - (i + 1), by omega, rfl, hlt, ys, s acc _ h0, S.trans s, ?_⟩
      rw [filt_no hxa cc]
      exact Paired.imp' (fun _ _ z => hst _ _ _ _ s.t z) hR
  · have e : i = xs.length := by omega
    subst e
    rw [hl, List.take_length] at hR
    exact .inl ⟨⟨xs, q, Nat.le_refl _⟩, hQ acc ys H hacc S h0 hR⟩
/-- over a range -/
theorem compA_range {lo : Int} {n : Nat} (p : Nat → Bool) (Rl : Hp → V → Nat → Prop) (hst : ∀ H H' y x, TSame H H' → Rl H y x → Rl H' y x) (hz : n ≤ 65000)
    (turn : ∀ x H2, x < n → Same H1 H2 → CTurn m js g c te σ (.int (lo + (x : Nat))) H2 (p x) fun H' y => Rl H' y x)
    (hQ : ∀ acc ys H', H1 acc = none → Same H1 H' → H' acc = some (.lst ys) → Paired (Rl H') ys ((List.range n).filter p) → Q (.ref acc) H') : tCompR m js g c te (Itr lo n) σ H1 Q := by
  intro acc hacc
  refine ⟨CW n acc (fun i ys H => Same H1 H ∧ Paired (Rl H) ys ((List.range i).filter p)), ⟨_, rfl, Nat.zero_le _, [], upd_same, same_new hacc _, .nil⟩, ?_⟩
  rintro i m' H ⟨rfl, hi, ys, h0, S, hR⟩
  by_cases hlt : i < n
  · refine .inr ⟨hlt, fun v H' y => ?_⟩
    obtain ⟨e, y⟩ := y
    subst e y
    have hyl := Paired.length hR
    have hfl : ((List.range i).filter p).length ≤ i := Nat.le_trans (List.length_filter_le _ _) (by simp)
    refine turn i _ hlt S _ _ (fun cc y' H5 s r => ?_) (fun cc H4 s => ?_)
    · refine ⟨ys, s acc _ h0, big5 (by omega), n - (i + 1), by omega, rfl, hlt, ys ++ [y'], upd_same, fun b o z => ?_, ?_⟩
      · rw [upd_ne (ne_of_none z hacc)]; exact s b o (S b o z)
      · have ts : TSame H5 (upd H5 acc (.lst (ys ++ [y']))) := tsame_upd (s acc _ h0)
        rw [List.range_succ, List.filter_append, List.filter_cons, if_pos cc]
        exact Paired.snoc (Paired.imp' (fun _ _ z => hst _ _ _ _ ts (hst _ _ _ _ s.t z)) hR) (hst _ _ _ _ ts r)
    · refine ⟨n - (i + 1), by omega, rfl, hlt, ys, s acc _ h0, S.trans s, ?_⟩
      rw [List.range_succ, List.filter_append, List.filter_cons, if_neg (by rw [cc]; decide), List.filter_nil, List.append_nil]
      exact Paired.imp' (fun _ _ z => hst _ _ _ _ s.t z) hR
  · have e : i = n := by omega
    subst e
    exact .inl ⟨Nat.le_refl _, hQ acc ys H hacc S h0 hR⟩
theorem paired_map {β : Type} {f : β → V} : ∀ {ys : List V} {as : List β}, Paired (fun y x => y = f x) ys as → ys = as.map f
  | _, _, .nil => rfl
  | _, _, .cons h r => by rw [h, paired_map r]; rfl
theorem paired_ints : ∀ ns : List Int, Paired (fun v (n : Int) => v = V.int n) (ns.map V.int) ns
  | [] => .nil
  | n :: r => .cons rfl (paired_ints r)
/-- ints in, values out -/
theorem compV_list {a : Addr} {ns : List Int} (hx : SqL K H1 a (ns.map V.int)) (p : Int → Bool) (f : Int → V) (hz : ns.length ≤ 65000)
    (turn : ∀ x H2, x ∈ ns → Same H1 H2 → CTurn m js g c te σ (.int x) H2 (p x) fun _ y => y = f x)
    (hQ : ∀ acc H', H1 acc = none → Same H1 H' → H' acc = some (.lst ((ns.filter p).map f)) → Q (.ref acc) H') : tCompR m js g c te (Itl K a) σ H1 Q :=
  compA_list hx (paired_ints ns) p (fun _ y x => y = f x) (fun _ _ _ _ _ z => z) hz (fun x v H2 hm e S => e ▸ turn x H2 hm S) fun acc ys H' h0 S h1 hp => hQ acc H' h0 S (by rw [h1, paired_map hp])
theorem compV_range {n : Nat} (p : Nat → Bool) (f : Nat → V) (hz : n ≤ 65000)
    (turn : ∀ x H2, x < n → Same H1 H2 → CTurn m js g c te σ (.int (x : Nat)) H2 (p x) fun _ y => y = f x)
    (hQ : ∀ acc H', H1 acc = none → Same H1 H' → H' acc = some (.lst (((List.range n).filter p).map f)) → Q (.ref acc) H') : tCompR m js g c te (Itr 0 n) σ H1 Q :=
  compA_range p (fun _ y x => y = f x) (fun _ _ _ _ _ z => z) hz (fun x H2 hm S => by rw [Int.zero_add]; exact turn x H2 hm S) fun acc ys H' h0 S h1 hp => hQ acc H' h0 S (by rw [h1, paired_map hp])
end
/-- a turn with one plain name and a test that looks, giving the name's own int -/
theorem turn_pick {js : List Nat} {c : TT} {te : TE} {σ : St} {v y : V} {H2 : Hp} {b : Bool} {R : Hp → V → Prop} (hc : LookT c ((pick 1 js σ).set 0 (some v)) H2 b) (he : b = true → ∀ H3, Same H2 H3 → LookE te ((pick 1 js σ).set 0 (some v)) H3 y) (hR : b = true → ∀ H3, Same H2 H3 → R H3 y) : CTurn 1 js (gName 0) c te σ v H2 b R := by
  intro PUT SKIP h1 h2
  refine ⟨(Wk.refl _).set (by decide), hc _ fun H3 S3 => ?_⟩
  cases b with
  | true => exact iteT (he rfl H3 S3 _ fun H4 S4 => h1 rfl _ _ (S3.trans S4) (hR rfl _ (S3.trans S4)))
  | false => exact iteF (h2 rfl _ S3)
theorem look_yes {σ : St} {H : Hp} : LookT tYes σ H true := .pure fun Q h => h
theorem filter_true {α : Type} (l : List α) : l.filter (fun _ => true) = l := by simp
end OL

namespace OL
open PySem L2
/-! ### what can be shown by str -/
structure Sho (d : PyData) (n k : Nat) : Prop where
  show' : d.showable = true
  nodict : d.hasDict = false
  short : d.leavesShort 13 = true
  bulk : d.bulk ≤ n
  depth : d.depth ≤ k
  lay : d.canLay0 = true
structure ShoAll (ds : List PyData) (n k : Nat) : Prop where
  show' : PyData.showableAll ds = true
  nodict : PyData.hasDictAll ds = false
  short : PyData.leavesShortAll 13 ds = true
  bulk : PyData.bulkAll ds ≤ n
  depth : PyData.depthAll ds ≤ k
  lay : PyData.canLayAll0 ds = true
theorem Sho.int {i : Int} (h : i.natAbs < 10 ^ 12) : Sho (.int i) 0 0 := by
  refine ⟨?_, rfl, ?_, Nat.le_refl _, Nat.le_refl _, rfl⟩
  · show decide (i.natAbs.log2 < 1920) = true
    refine decide_eq_true ?_
    by_cases e : i.natAbs = 0
    · rw [e]; decide
    · rw [Nat.log2_lt e]
      exact Nat.lt_trans h (Nat.lt_of_lt_of_le (by decide : 10 ^ 12 < 2 ^ 40) (Nat.pow_le_pow_right (by decide) (by decide)))
  · show decide ((PyData.int i).shown.length ≤ 13) = true
    exact decide_eq_true (PyData.shown_int_le h)
theorem ShoAll.nil : ShoAll [] 0 0 := ⟨rfl, rfl, rfl, Nat.le_refl _, Nat.le_refl _, rfl⟩
theorem ShoAll.cons {d : PyData} {ds : List PyData} {n m k j : Nat} (h : Sho d n k) (t : ShoAll ds m j) : ShoAll (d :: ds) (n + 1 + m) (max k j) := by
  refine ⟨?_, ?_, ?_, ?_, ?_, ?_⟩
  · show (d.showable && PyData.showableAll ds) = true
    rw [h.show', t.show']; rfl
  · show (d.hasDict || PyData.hasDictAll ds) = false
    rw [h.nodict, t.nodict]; rfl
  · show (d.leavesShort 13 && PyData.leavesShortAll 13 ds) = true
    rw [h.short, t.short]; rfl
  · show d.bulk + 1 + PyData.bulkAll ds ≤ _
    have := h.bulk; have := t.bulk; omega
  · show max d.depth (PyData.depthAll ds) ≤ _
    have := h.depth; have := t.depth; omega
  · show (d.canLay0 && PyData.canLayAll0 ds) = true
    rw [h.lay, t.lay]; rfl
theorem Sho.list {ds : List PyData} {n k : Nat} (h : ShoAll ds n k) : Sho (.list ds) n (k + 1) := by
  refine ⟨h.show', h.nodict, h.short, h.bulk, ?_, h.lay⟩
  show PyData.depthAll ds + 1 ≤ _
  have := h.depth; omega
theorem Sho.tuple {ds : List PyData} {n k : Nat} (h : ShoAll ds n k) : Sho (.tuple ds) n (k + 1) := by
  refine ⟨h.show', h.nodict, h.short, h.bulk, ?_, h.lay⟩
  show PyData.depthAll ds + 1 ≤ _
  have := h.depth; omega
theorem Sho.mono {d : PyData} {n k n' k' : Nat} (h : Sho d n k) (h1 : n ≤ n') (h2 : k ≤ k') : Sho d n' k' := ⟨h.show', h.nodict, h.short, Nat.le_trans h.bulk h1, Nat.le_trans h.depth h2, h.lay⟩
theorem ShoAll.mono {d : List PyData} {n k n' k' : Nat} (h : ShoAll d n k) (h1 : n ≤ n') (h2 : k ≤ k') : ShoAll d n' k' := ⟨h.show', h.nodict, h.short, Nat.le_trans h.bulk h1, Nat.le_trans h.depth h2, h.lay⟩
/-- many alike -/
theorem ShoAll.map {α : Type} {f : α → PyData} {n k : Nat} : ∀ {as : List α}, (∀ x ∈ as, Sho (f x) n k) → ShoAll (as.map f) ((n + 1) * as.length) k
  | [], _ => ⟨rfl, rfl, rfl, Nat.zero_le _, Nat.zero_le _, rfl⟩
  | a :: as, h => by
    have h1 := ShoAll.cons (h a List.mem_cons_self) (ShoAll.map (as := as) fun x hx => h x (List.mem_cons_of_mem _ hx))
    refine h1.mono ?_ (by omega)
    rw [List.length_cons, Nat.mul_add]; omega
theorem Sho.ints {ns : List Int} (h : ∀ x ∈ ns, 0 ≤ x ∧ x < 1000000000000) : Sho (.list (ns.map PyData.int)) ns.length 1 := by
  refine (Sho.list (ShoAll.map (n := 0) (k := 0) fun x hx => Sho.int ?_)).mono (by omega) (Nat.le_refl _)
  have := h x hx
  have e : (10 : Nat) ^ 12 = 1000000000000 := by decide
  omega
theorem Sho.bk {many : Int} {bs : List Int} (h0 : 0 ≤ many ∧ many < 1000000000000) (h : ∀ x ∈ bs, 0 ≤ x ∧ x < 1000000000000) : Sho (.tuple [.int many, .list (bs.map PyData.int)]) (bs.length + 2) 2 := by
  have e : (10 : Nat) ^ 12 = 1000000000000 := by decide
  exact (Sho.tuple (ShoAll.cons (Sho.int (by omega)) (ShoAll.cons (Sho.ints h) .nil))).mono (by omega) (by decide)
theorem Sho.fits {d : PyData} {n k : Nat} (h : Sho d n k) (hn : n ≤ 1000000) : d.shown.length ≤ sizeLine := PyData.shown_fits_bulk (B := 13) (by decide) (by decide) h.short (Nat.le_trans h.bulk (Nat.le_trans hn (by decide)))
/-- str(x) != str(y), of the same data -/
theorem ne_str {d : PyData} {H : Hp} {Q : Bool → Hp → Prop} (q : Q false H) : rNe (.str d.shown) (.str d.shown) H fun x H' => ∃ k, x = .bl k ∧ Q k H' := by
  refine ⟨rfl, _, rfl, ?_⟩
  rw [show decide (V.str d.shown = V.str d.shown) = true from decide_eq_true rfl]; exact q
theorem ne_str' {z : Str} {H : Hp} {Q : Bool → Hp → Prop} (q : Q false H) : rNe (.str z) (.str z) H fun x H' => ∃ k, x = .bl k ∧ Q k H' := by
  refine ⟨rfl, _, rfl, ?_⟩
  rw [show decide (V.str z = V.str z) = true from decide_eq_true rfl]; exact q
theorem ne_ints {K : PySem.W.Frag} {H : Hp} {a b : Addr} {ns ms : List Int} {Q : VK} (ha : SqL K H a (ns.map V.int)) (hb : SqL K H b (ms.map V.int)) (q : Q (.bl (!decide (ns = ms))) H) : rEqD K true (.ref a) (.ref b) H Q := by
  refine ⟨_, _, .lst ha (DRs.ints _), .lst hb (DRs.ints _), shaped_ints _, shaped_ints _, ?_⟩
  have e : PyData.eqv (.list (ns.map PyData.int)) (.list (ms.map PyData.int)) = decide (ns = ms) := eqv_ints ns ms
  rw [e]; exact q
theorem ne_nil' {K : PySem.W.Frag} {H : Hp} {a : Addr} {ns : List Int} {Q : VK} (ha : H a = some (.lst (ns.map V.int))) (q : ∀ H', Same H H' → Q (.bl (!ns.isEmpty)) H') : ([] : List V).length ≤ sizeLine ∧ ∀ p, H p = none → rEqD K true (.ref a) (.ref p) (upd H p (.lst [])) Q := by
  refine ⟨(by show 0 ≤ sizeLine; decide), fun p hp => ?_⟩
  refine ne_ints (ns := ns) (ms := []) (SqL.of (same_new hp _ _ _ ha)) (SqL.of upd_same) ?_
  rw [show decide (ns = []) = ns.isEmpty by cases ns <;> rfl]
  exact q _ (same_new hp _)
theorem nil_len : ([] : List V).length ≤ sizeLine := by show 0 ≤ sizeLine; decide
noncomputable def rStrD (K : PySem.W.Frag) : List V → Hp → VK → Prop := fun xs H Q => ∃ p d, xs = [.ref p] ∧ DR K H (.ref p) d ∧ d.showable = true ∧ d.hasDict = false ∧ d.depth ≤ 60 ∧ d.shown.length ≤ sizeLine ∧ Q (.str d.shown) H
/-- a value that is had without a change -/
noncomputable def IsE (t : TE) (σ : St) (H : Hp) (v : V) : Prop := ∀ Q : VK, Q v H → t σ H Q
end OL

namespace L2
open PySem PySem.Spec PyProof.Rows
section
variable {X : Cx}
/-! ### any(xs), xs a list of truths; max of a list -/
noncomputable def rAny (K : PySem.W.Frag) : List V → Hp → VK → Prop := fun xs H Q => ∃ (p : Addr) (bs : List Bool), xs = [.ref p] ∧ SqL K H p (bs.map V.bl) ∧ Q (.bl (bs.any id)) H
end
end L2

namespace OL
open PySem L2
/-! ### greatest often lots -/
noncomputable def lackF (many lot : Int) : List Int := ((List.range many.toNat).filter fun t => !hasF lot (1 * 2 ^ t)).map fun (t : Nat) => (t : Int)
theorem has_th {lot : Int} (h : 0 ≤ lot) (t : Nat) : hasF lot (1 * 2 ^ t) = true ↔ Th lot t := by
  have p0 : (0 : Int) ≤ 1 * 2 ^ t := by
    have : (0 : Int) < 2 ^ t := Int.pow_pos (by decide)
    omega
  rw [has_iff h p0]
  constructor
  · exact fun z => z t ((th_pow t t).mpr rfl)
  · intro z i hi
    rw [(th_pow t i).mp hi]; exact z
noncomputable def leadB (many : Int) (rs : List (Int × Int)) (lot : Int) : Bool := (lackF many lot).any fun t => inR rs (wt lot t.toNat)
noncomputable def greatR (many : Int) (bs : List Int) (least : Int) : List (Int × Int) := (oftenR bs least (2 ^ many.toNat)).filter fun r => !leadB many (oftenR bs least (2 ^ many.toNat)) r.1
theorem count_mono {many : Int} {bs : List Int} (hb : ∀ x ∈ bs, InB many x) {x y : Int} (hx : 0 ≤ x) (hy : 0 ≤ y) (h : hasF y x = true) : countF bs y ≤ countF bs x := by
  unfold countF
  rw [hold_length, hold_length]
  have : (bs.filter fun b => hasF b y).length ≤ (bs.filter fun b => hasF b x).length := by
    rw [← List.countP_eq_length_filter, ← List.countP_eq_length_filter]
    exact List.countP_mono_left fun b hm hh => hasTr (hb b hm).1 hy hx hh h
  omega
/-! ### outside -/
noncomputable def spLack : Sp := fun vs H Q _ => ∃ many lot : Int, vs = [.int many, .int lot] ∧ 0 ≤ many ∧ many ≤ 12 ∧ ∀ (r : Addr) (H' : Hp), Same H H' → H r = none → H' r = some (.lst ((lackF many lot).map V.int)) → Q (.ref r) H'
noncomputable def spLead : Sp := fun vs H Q _ => ∃ (d : Addr) (many lot : Int) (rs : List (Int × Int)), vs = [.int many, .int lot, .ref d] ∧ 0 ≤ many ∧ many ≤ 12 ∧ H d = some (.dK (tabR rs)) ∧ ∀ H', Same H H' → Q (.bl (leadB many rs lot)) H'
noncomputable def spGreatest (K : PySem.W.Frag) : Sp := fun vs H Q _ => ∃ (b : Addr) (many : Int) (bs : List Int) (least : Int), vs = [.ref b, .int least] ∧ Bk K H b many bs ∧ bs.length ≤ 500 ∧ 0 ≤ many ∧ many ≤ 12 ∧ (∀ x ∈ bs, InB many x) ∧
  ∀ (r : Addr) (xs : List V) (H' : Hp), Same H H' → H r = none → H' r = some (.lst xs) → Rows H' xs (greatR many bs least) → Q (.ref r) H'
noncomputable def spOut : Sp := fun vs H Q _ => ∃ many lot : Int, vs = [.int many, .int lot] ∧ 0 ≤ many ∧ many ≤ 12 ∧ 0 ≤ lot ∧ ∀ H', Same H H' → Q (.int (outF many lot)) H'
end OL

namespace OL
open PySem L2
theorem at_P {ns : List Int} {k : Int} {P : Int → Prop} (h0 : 0 ≤ k) (h1 : k < ns.length) (h : ∀ x ∈ ns, P x) : ∃ y, atI (ns.map V.int) k = some (.int y) ∧ P y :=
  ⟨_, atI_int h0 h1, h _ (getD_mem (by omega))⟩
theorem InB.small {many x : Int} (h : InB many x) (hm : many ≤ 12) : 0 ≤ x ∧ x < 1000000000000 := by
  have h1 := pow12 hm
  have h2 := powC many
  exact ⟨h.1, by have := h.2; omega⟩
theorem snoc_all {P : Int → Prop} {bs : List Int} {x : Int} (h : ∀ b ∈ bs, P b) (hx : P x) : ∀ b ∈ bs ++ [x], P b := fun b hb => by
  rcases List.mem_append.mp hb with z | z
  · exact h b z
  · rw [List.mem_singleton.mp z]; exact hx
theorem Sho.four {d : PyData} {n k : Nat} {Q : Prop} (h : Sho d n k) (hn : n ≤ 1000000) (hk : k ≤ 60) (q : Q) : d.showable = true ∧ d.hasDict = false ∧ d.depth ≤ 60 ∧ d.shown.length ≤ sizeLine ∧ Q := ⟨h.show', h.nodict, Nat.le_trans h.depth hk, h.fits hn, q⟩
end OL

namespace OL
open PySem L2
/-! ### the border and the greatest ones, led into one another -/
noncomputable def smallL (many : Int) (bs : List Int) (least : Int) : List Int := (bordR bs least (2 ^ many.toNat)).map Prod.fst
noncomputable def greatL (many : Int) (bs : List Int) (least : Int) : List Int := (greatR many bs least).map Prod.fst
theorem few_sub {many x : Int} (hx : InB many x) {f : Int} (hf : f ∈ fewF x) : InB many f ∧ hasF x f = true ∧ f < x := by
  obtain ⟨n, rfl⟩ : ∃ n : Nat, x = (n : Int) := ⟨x.toNat, by have := hx.1; omega⟩
  obtain ⟨t, ht, rfl⟩ := mem_few.mp hf
  have e := (sub_th ht).1
  have hlt : n - 2 ^ t < n := Nat.sub_lt (Nat.pos_of_ne_zero fun z => by rw [z] at ht; simp at ht) (Nat.pow_pos (by decide))
  refine ⟨⟨Int.natCast_nonneg _, by have := hx.2; omega⟩, (has_iff hx.1 (Int.natCast_nonneg _)).mpr fun i hi => ?_, by omega⟩
  unfold Th at *
  rw [Int.toNat_natCast] at *
  rw [e, Nat.testBit_xor, Nat.testBit_two_pow] at hi
  by_cases c : t = i
  · subst c; exact ht
  · simpa [c] using hi
section
variable {many : Int} {bs : List Int} {least : Int} (hb : ∀ x ∈ bs, InB many x)
include hb
omit hb in
omit hb in
noncomputable def partB (many : Int) (gs ss : List Int) : Bool := (List.range (2 ^ many.toNat)).all fun (x : Nat) => !decide (V.bl (gs.any fun g => hasF g (x : Int)) = V.bl (ss.any fun t => hasF (x : Int) t))
end
noncomputable def spPartAll (K : PySem.W.Frag) : Sp := fun vs H Q _ => ∃ (g s : Addr) (many : Int) (gs ss : List Int), vs = [.int many, .ref g, .ref s] ∧ 0 ≤ many ∧ many ≤ 12 ∧ SqL K H g (gs.map V.int) ∧ SqL K H s (ss.map V.int) ∧ ∀ H', Same H H' → Q (.bl (partB many gs ss)) H'
end OL

namespace L2
open PySem PySem.Spec PyProof.Rows
section
variable {K : PySem.W.Frag} {m : Nat} {js : List Nat} {g : TG} {c : TT} {te : TE} {σ : St} {H1 : Hp} {Q : VK}
/-- a comprehension over a list whose turns change what they say -/
theorem comp_listG {a : Addr} {xs : List V} (Pv : Addr → Nat → List V → Hp → Prop) (hS : ∀ acc i ys H, H1 acc = none → Pv acc i ys H → SqL K H a xs) (h0 : ∀ acc, H1 acc = none → Pv acc 0 [] (upd H1 acc (.lst [])))
    (turn : ∀ acc i x ys H, H1 acc = none → i < xs.length → xs[i]? = some x → H acc = some (.lst ys) → Pv acc i ys H → g x (pick m js σ) H fun σ2 H2 => Wk (pick m js σ) σ2 ∧ c σ2 H2 fun b H3 => if b = true then te σ2 H3 fun y H4 => CPut xs.length acc (Pv acc) i y H4 else CSkip xs.length acc (Pv acc) i H3)
    (hQ : ∀ acc ys H, H1 acc = none → H acc = some (.lst ys) → Pv acc xs.length ys H → Q (.ref acc) H) : tCompR m js g c te (Itl K a) σ H1 Q := by
  intro acc hacc
  refine ⟨CW xs.length acc (Pv acc), ⟨_, rfl, Nat.zero_le _, [], upd_same, h0 acc hacc⟩, ?_⟩
  rintro i m' H ⟨rfl, hi, ys, hy, p⟩
  have q := hS acc i ys H hacc p
  by_cases hlt : i < xs.length
  · refine .inr ⟨⟨xs, xs[i], q, by simp [hlt]⟩, fun x H' y => ?_⟩
    obtain ⟨e, y⟩ := y
    subst e
    exact turn acc i x ys _ hacc hlt (y xs q) hy p
  · have e : i = xs.length := by omega
    subst e
    exact .inl ⟨⟨xs, q, Nat.le_refl _⟩, hQ acc ys H hacc hy p⟩
end
end L2

namespace OL
open PySem L2
/-! ### two books apart -/
noncomputable def partsB (as bs : List Int) (lot : Int) : Bool := decide (0 < countF as lot) && decide (countF bs lot = 0)
noncomputable def partL (many : Int) (as bs : List Int) : List Int := (rangeI (2 ^ many.toNat)).filter (partsB as bs)
theorem count_pos {bs : List Int} {lot : Int} : 0 < countF bs lot ↔ ∃ b ∈ bs, hasF b lot = true := by
  unfold countF
  rw [hold_length]
  constructor
  · intro h
    have : 0 < (bs.filter fun b => hasF b lot).length := by omega
    obtain ⟨b, hb⟩ := List.exists_mem_of_length_pos this
    exact ⟨b, (List.mem_filter.mp hb).1, (List.mem_filter.mp hb).2⟩
  · rintro ⟨b, h1, h2⟩
    have := List.length_pos_of_mem (List.mem_filter.mpr ⟨h1, h2⟩ : b ∈ bs.filter fun b => hasF b lot)
    omega
theorem mem_partL {many : Int} {as bs : List Int} {x : Int} : x ∈ partL many as bs ↔ InB many x ∧ partsB as bs x = true := by
  unfold partL
  rw [List.mem_filter, mem_range_InB]
theorem partL_rise (many : Int) (as bs : List Int) : (partL many as bs).Pairwise (· < ·) := (rangeI_rise _).filter _
theorem partL_len (many : Int) (as bs : List Int) : (partL many as bs).length ≤ 2 ^ many.toNat := Nat.le_trans (List.length_filter_le _ _) (by rw [rangeI_length]; exact Nat.le_refl _)
/-- the things of the one that the other lacks -/
theorem minus_th {x y : Int} (hx : 0 ≤ x) (hy : 0 ≤ y) : 0 ≤ x - Builtin.bitAnd x y ∧ ∀ i, Th (x - Builtin.bitAnd x y) i ↔ Th x i ∧ ¬ Th y i := by
  have ha := and_nn hx hy
  obtain ⟨z, hz⟩ : ∃ z : Int, z = ((x.toNat ^^^ (x.toNat &&& y.toNat) : Nat) : Int) := ⟨_, rfl⟩
  have z0 : 0 ≤ z := by rw [hz]; exact Int.natCast_nonneg _
  have tz : ∀ i, Th z i ↔ Th x i ∧ ¬ Th y i := fun i => by
    unfold Th
    rw [hz, Int.toNat_natCast, Nat.testBit_xor, Nat.testBit_and]
    cases x.toNat.testBit i <;> cases y.toNat.testBit i <;> simp
  have e1 : Builtin.bitOr z (Builtin.bitAnd x y) = x := th_ext (or_nn z0 ha) hx fun i => by
    rw [th_or z0 ha, tz, th_and hx hy]
    constructor
    · rintro (h | h)
      · exact h.1
      · exact h.1
    · intro h
      by_cases c : Th y i
      · exact .inr ⟨h, c⟩
      · exact .inl ⟨h, c⟩
  have e2 : Builtin.bitAnd z (Builtin.bitAnd x y) = 0 := th_ext (and_nn z0 ha) (by decide) fun i => by
    rw [th_and z0 ha, tz, th_and hx hy]
    constructor
    · rintro ⟨h1, h2⟩; exact absurd h2.2 h1.2
    · intro h; unfold Th at h; simp at h
  have e3 := PyProof.Rows.bitOr_and z (Builtin.bitAnd x y)
  have e4 : z = x - Builtin.bitAnd x y := by rw [e1, e2] at e3; omega
  rw [← e4]
  exact ⟨z0, tz⟩
noncomputable def lessL (b : Int) (bs : List Int) : List Int := bs.map fun o => b - Builtin.bitAnd b o
/-- a list made basket by basket -/
noncomputable def Made (many : Int) (bs : List Int) (M cs : List Int) : Prop := (∀ m ∈ M, ∃ b ∈ cs, ∃ T, LeastOf (crossL many (lessL b bs)) T ∧ m ∈ T) ∧ ∀ b ∈ cs, ∃ T, LeastOf (crossL many (lessL b bs)) T ∧ ∀ t ∈ T, t ∈ M
noncomputable def spPartsP (K : PySem.W.Frag) : Sp := fun vs H Q _ => ∃ (a b : Addr) (many : Int) (as bs : List Int) (lot : Int), vs = [.ref a, .ref b, .int lot] ∧ Bk K H a many as ∧ Bk K H b many bs ∧ as.length ≤ 500 ∧ bs.length ≤ 500 ∧ 0 ≤ many ∧ many ≤ 12 ∧ ∀ H', Same H H' → Q (.bl (partsB as bs lot)) H'
noncomputable def spLeastP (K : PySem.W.Frag) : Sp := fun vs H Q _ => ∃ (a b : Addr) (many : Int) (as bs : List Int), vs = [.ref a, .ref b] ∧ Bk K H a many as ∧ Bk K H b many bs ∧ as.length ≤ 500 ∧ bs.length ≤ 500 ∧ 0 ≤ many ∧ many ≤ 12 ∧
  ∀ (r : Addr) (xs : List V) (T : List Int) (H' : Hp), Same H H' → H r = none → H' r = some (.lst xs) → Rows H' xs (rowsC as T) → LeastOf (partL many as bs) T → Q (.ref r) H'
end OL

namespace OL
open PySem L2
/-! ### from a part -/
noncomputable def partS (bs ps : List Int) : List Int := ps.map fun p => bs.getD p.toNat 0
noncomputable def missR (many : Int) (bs : List Int) (least : Int) (ps : List Int) (lower : Int) : List (Int × Int) := (rowsC bs (smallL many (partS bs ps) lower)).filter (ofP least)
noncomputable def tellR (many : Int) (bs : List Int) (least : Int) (ps : List Int) (lower : Int) : List (Int × Int) := (rowsC bs ((oftenR (partS bs ps) lower (2 ^ many.toNat)).map Prod.fst)).filter (ofP least)
noncomputable def fromW (rs : List (Int × Int)) : Str := if rs.isEmpty = true then "whole" else "missed"
noncomputable def fromR (many : Int) (bs : List Int) (least : Int) (ps : List Int) (lower : Int) : List (Int × Int) := if (missR many bs least ps lower).isEmpty = true then tellR many bs least ps lower else missR many bs least ps lower
noncomputable def fromD (many : Int) (bs : List Int) (least : Int) (ps : List Int) (lower : Int) : PyData := .tuple [.str (fromW (missR many bs least ps lower)), .list ((fromR many bs least ps lower).map dRow)]
noncomputable def PlOk (bs ps : List Int) : Prop := ∀ p ∈ ps, 0 ≤ p ∧ p < bs.length
/-- the least ones of the rare lots -/
noncomputable def rareL (many : Int) (bs : List Int) (least : Int) : List Int := (rangeI (2 ^ many.toNat)).filter fun x => !decide (least ≤ countF bs x)
noncomputable def spPartOf (K : PySem.W.Frag) : Sp := fun vs H Q _ => ∃ (b p : Addr) (many : Int) (bs ps : List Int), vs = [.ref b, .ref p] ∧ Bk K H b many bs ∧ SqL K H p (ps.map V.int) ∧ ps.length ≤ 500 ∧ PlOk bs ps ∧
  ∀ (t l : Addr) (H' : Hp), Same H H' → H t = none → H l = none → H' t = some (.tup [.int many, .ref l]) → H' l = some (.lst ((partS bs ps).map V.int)) → Q (.ref t) H'
noncomputable def spFrom (K : PySem.W.Frag) : Sp := fun vs H Q _ => ∃ (b p : Addr) (many : Int) (bs ps : List Int) (least lower : Int), vs = [.ref b, .int least, .ref p, .int lower] ∧ Bk K H b many bs ∧ SqL K H p (ps.map V.int) ∧ bs.length ≤ 500 ∧ ps.length ≤ 500 ∧ PlOk bs ps ∧ 0 ≤ many ∧ many ≤ 12 ∧ (∀ x ∈ bs, InB many x) ∧
  ∀ (t l : Addr) (xs : List V) (H' : Hp), Same H H' → H t = none → H l = none → H' t = some (.tup [.str (fromW (missR many bs least ps lower)), .ref l]) → H' l = some (.lst xs) → Rows H' xs (fromR many bs least ps lower) → Q (.ref t) H'
noncomputable def spPlaces84 : Sp := fun vs H Q _ => ∃ (r : Addr) (ds : List Int) (many : Int), vs = [.ref r, .int many] ∧ H r = some (.lst (ds.map V.int)) ∧ D31 ds ∧ 0 ≤ many ∧ many ≤ 200 ∧
  ∀ (p : Addr) (ps ds' : List Int) (H' : Hp), SameB r H H' → H p = none → H' p = some (.lst (ps.map V.int)) → H' r = some (.lst (ds'.map V.int)) → D31 ds' → (ps.length : Int) ≤ many → (∀ x ∈ ps, 0 ≤ x ∧ x < many) → Q (.ref p) H'
end OL

namespace L2
open PySem PySem.Spec PyProof.Rows
/-! ### zip over two lists, its pairs taken apart by the target -/
noncomputable def Itz (K : PySem.W.Frag) (a b : Addr) : It :=
  ⟨fun i H => ∃ xs ys x y, SqL K H a xs ∧ SqL K H b ys ∧ xs[i]? = some x ∧ ys[i]? = some y, fun i H x H' => ∃ p u v, x = .ref p ∧ H p = none ∧ H' = upd H p (.tup [u, v]) ∧ (∀ xs, SqL K H a xs → xs[i]? = some u) ∧ ∀ ys, SqL K H b ys → ys[i]? = some v, fun i H => ∃ xs ys, SqL K H a xs ∧ SqL K H b ys ∧ (xs.length ≤ i ∨ ys.length ≤ i)⟩
theorem turn_zip {P : Program} {w : World} {K : PySem.W.Frag} {es : List Expr} {k : _} {pos : Pos} {z TI TO i1 i2 l1 l2 : Addr} (D : ZipApart z TI TO i1 i2 l1 l2) : Turn P w K (.Tuple es k pos) (Itz K l1 l2) [z, TI, TO, i1, i2] z (fun i h => IsZip h z TI TO .none ∧ IsPair h TI (.ref i1) (.ref i2) ∧ (∃ a b, IsPair h TO a b) ∧ h.IsListIter i1 l1 i ∧ h.IsListIter i2 l2 i) where
  mem := by simp
  obj := fun i h st c hc => by
    obtain ⟨hz, hTI, ⟨a, b, hTO⟩, ⟨o1, e1, _, d1⟩, ⟨o2, e2, _, d2⟩⟩ := st
    simp only [List.mem_cons, List.not_mem_nil, or_false] at hc
    rcases hc with rfl | rfl | rfl | rfl | rfl
    · exact ⟨_, hz, fun v q => by have q' : Data.fields _ = Data.cell v := q; cases q'⟩
    · exact ⟨_, hTI, fun v q => by have q' : Data.seq _ _ = Data.cell v := q; cases q'⟩
    · exact ⟨_, hTO, fun v q => by have q' : Data.seq _ _ = Data.cell v := q; cases q'⟩
    · exact ⟨o1, e1, fun v q => by rw [d1] at q; cases q⟩
    · exact ⟨o2, e2, fun v q => by rw [d2] at q; cases q⟩
  keep := fun i h h' st k => by
    obtain ⟨hz, hTI, ⟨a, b, hTO⟩, h1, h2⟩ := st
    exact ⟨k z (by simp) _ hz, k TI (by simp) _ hTI, ⟨a, b, k TO (by simp) _ hTO⟩, h1.at fun o q => k i1 (by simp) o q, h2.at fun o q => k i2 (by simp) o q⟩
  item := by
    intro X hP hw hK hc i pins s σ H E I hf st hg
    subst hP hw hK
    obtain ⟨xs, ys, x, y, hqa, hqb, hx, hy⟩ := hg
    obtain ⟨its, rv, p, hz0⟩ := I.list hqa
    obtain ⟨jts, rw', p', hz1⟩ := I.list hqb
    obtain ⟨u, hu, ru⟩ := rv.get hx
    obtain ⟨v, hv, rv2⟩ := rw'.get hy
    obtain ⟨hz, hTI, ⟨a, b, hTO⟩, h1, h2⟩ := st
    refine wpAny_pyNext_zip_item D hz hTI hTO h1 h2 p.isList p'.isList (x := u) (y := v) (by simpa using hu) (by simpa using hv) fun h' hz' hTO' h1' h2' hT' hsz hk => ?_
    refine ⟨_, rfl, wpAny_letOwnedTupleGo_zip hz' fun h2h hz2 hs2 => ?_⟩
    have lt : ∀ c ∈ [z, TI, TO, i1, i2], c < s.heap.objs.size := fun c hc => by
      simp only [List.mem_cons, List.not_mem_nil, or_false] at hc
      rcases hc with rfl | rfl | rfl | rfl | rfl
      · exact Heap.lt_size hz
      · exact Heap.lt_size hTI
      · exact Heap.lt_size hTO
      · obtain ⟨o, e, _⟩ := h1; exact Heap.lt_size e
      · obtain ⟨o, e, _⟩ := h2; exact Heap.lt_size e
    have hTz : s.heap.objs.size ≠ z := Nat.ne_of_gt (lt z (by simp))
    have hk2 : ∀ c o, c ∉ [z, TI, TO, i1, i2] → s.heap.get? c = some o → h2h.get? c = some o := fun c o hc q => by
      simp only [List.mem_cons, List.not_mem_nil, or_false, not_or] at hc
      exact (hs2.2 c hc.1).trans (hk c o hc.1 hc.2.2.1 hc.2.2.2.1 hc.2.2.2.2 q)
    have hkA : ∀ c o, s.heap.get? c = some o → ∃ o', h2h.get? c = some o' := fun c o q => by
      have hlt := Heap.lt_size q
      have : c < h2h.objs.size := by rw [hs2.1, hsz]; exact Nat.lt_succ_of_lt hlt
      by_cases hc : c ∈ [z, TI, TO, i1, i2]
      · simp only [List.mem_cons, List.not_mem_nil, or_false] at hc
        rcases hc with rfl | rfl | rfl | rfl | rfl
        · exact ⟨_, hz2⟩
        · exact ⟨_, (hs2.2 _ D.TIz).trans (hk _ _ D.TIz D.TITO D.TIi1 D.TIi2 hTI)⟩
        · exact ⟨_, (hs2.2 _ D.TOz).trans hTO'⟩
        · obtain ⟨o', e', _⟩ := h1'; exact ⟨o', (hs2.2 _ D.i1z).trans e'⟩
        · obtain ⟨o', e', _⟩ := h2'; exact ⟨o', (hs2.2 _ D.i2z).trans e'⟩
      · exact ⟨o, hk2 c o hc q⟩
    have hT : h2h.get? s.heap.objs.size = some { cls := .type "tuple", data := .seq #[u, v] } := (hs2.2 _ hTz).trans hT'
    have hTn : H s.heap.objs.size = none := I.hok.fresh (Nat.le_refl _)
    have ne : ∀ c o, H c = some o → c ≠ s.heap.objs.size := fun c o q z => by rw [z, hTn] at q; cases q
    have nch : ∀ c o, H c = some o → c ∉ [z, TI, TO, i1, i2] := fun c o q z => by rw [(hf c z).1] at q; cases q
    have up : ∀ c o, H c = some o → upd H s.heap.objs.size (.tup [x, y]) c = some o := fun c o q => by rw [upd_ne (ne c o q)]; exact q
    have I1 : Inv X pins σ (upd H s.heap.objs.size (.tup [x, y])) { s with heap := h2h, toks := s.toks } := by
      refine I.step (g' := s.gens) (d' := s.drawn) (ch := [z, TI, TO, i1, i2]) (fun c hc => ?_) (fun c o _ _ hc q _ => hk2 c o hc q) (fun c o _ _ hc q _ => ⟨o.slots, hk2 c o hc q⟩) (fun c o hc q n => ?_) (fun c o hc q => ⟨o, hk2 c o hc q⟩)
        (fun c xs q => up c _ q) (fun c o u q => up c _ q) (fun c ps q => ⟨#[], by rw [up c _ q]; simp⟩) (fun m hm => ?_) (fun c u' q => ?_) I.bare
      · obtain ⟨f0, f1, f2, f3, f4, f5⟩ := hf c hc
        exact ⟨f3, f1, f4, f5⟩
      · rw [upd_ne (Nat.ne_of_lt (Heap.lt_size q))]; exact n
      · obtain ⟨o, es, ep, ho, r⟩ := hm
        exact ⟨o, es, ep, hk2 _ o (fun z => (hf _ z).2.1 rfl) ho, r⟩
      · by_cases hc : c = s.heap.objs.size
        · subst hc
          rw [upd_same] at q
          cases q
          exact ⟨by show 2 ≤ sizeLine; decide, [u, v], .cons ru (.cons rv2 .nil), _, hT, rfl, 0, rfl⟩
        · rw [upd_ne hc] at q
          refine (I.hok c u' q).stay (fun d v' hd q' => hk2 d v' ?_ q') (fun d q' => up d _ q') fun d xs q' => up d _ q'
          rcases hd with z' | z'
          · subst z'; exact nch _ _ q
          · exact nch _ _ z'
    refine ⟨.ref s.heap.objs.size, _, I1, rfl, ⟨_, x, y, rfl, hTn, rfl, fun ys' hy' => by rw [I.list_inj hy' hqa]; exact hx, fun ys' hy' => by rw [I.list_inj hy' hqb]; exact hy⟩, ⟨hz2, (hs2.2 _ D.TIz).trans (hk _ _ D.TIz D.TITO D.TIi1 D.TIi2 hTI), ⟨_, _, (hs2.2 _ D.TOz).trans hTO'⟩, h1'.extBut hs2.extBut D.i1z, h2'.extBut hs2.extBut D.i2z⟩, fun c hc => ?_⟩
    rw [upd_ne (Nat.ne_of_lt (lt c hc))]; exact (hf c hc).1
  done := by
    intro X hP hw hK hc i pins s σ H E I hf st hg
    subst hP hw hK
    obtain ⟨xs, ys, hqa, hqb, hx⟩ := hg
    obtain ⟨its, rv, p, hz0⟩ := I.list hqa
    obtain ⟨jts, rw', p', hz1⟩ := I.list hqb
    obtain ⟨hz, hTI, ⟨a, b, hTO⟩, h1, h2⟩ := st
    have hl := rv.length
    have hl' := rw'.length
    refine wpAny_pyNext_zip_end (I.ok.hd hc) D hz hTI hTO h1 h2 p.isList p'.isList (by simp; omega) fun h' hk => ⟨rfl, ?_⟩
    have hk2 : ∀ c o, c ∉ [z, TI, TO, i1, i2] → s.heap.get? c = some o → h'.get? c = some o := fun c o hc q => by
      simp only [List.mem_cons, List.not_mem_nil, or_false, not_or] at hc
      exact hk c o hc.1 hc.2.2.1 hc.2.2.2.1 hc.2.2.2.2 q
    have nch : ∀ c o, H c = some o → c ∉ [z, TI, TO, i1, i2] := fun c o q z => by rw [(hf c z).1] at q; cases q
    refine I.step (g' := s.gens) (d' := s.drawn) (t' := s.toks) (ch := [z, TI, TO, i1, i2]) (fun c hc => ?_) (fun c o _ _ hc q _ => hk2 c o hc q) (fun c o _ _ hc q _ => ⟨o.slots, hk2 c o hc q⟩) (fun c o hc q n => n) (fun c o hc q => ⟨o, hk2 c o hc q⟩)
        (fun c xs q => q) (fun c o u q => q) (fun c ps q => ⟨#[], by rw [q]; simp⟩) (fun m hm => ?_) (fun c u' q => ?_) I.bare
    · obtain ⟨f0, f1, f2, f3, f4, f5⟩ := hf c hc
      exact ⟨f3, f1, f4, f5⟩
    · obtain ⟨o, es, ep, ho, r⟩ := hm
      exact ⟨o, es, ep, hk2 _ o (fun z => (hf _ z).2.1 rfl) ho, r⟩
    · refine (I.hok c u' q).stay (fun d v' hd q' => hk2 d v' ?_ q') (fun d q' => q') fun d xs q' => q'
      rcases hd with z' | z'
      · subst z'; exact nch _ _ q
      · exact nch _ _ z'
  self := fun _ _ _ _ _ st h => by
    obtain ⟨hz, _⟩ := st
    exact wpAny_pyIter_zip hz h

section
variable {X : Cx}
noncomputable def iZip (K : PySem.W.Frag) (ta : TA) : TI := fun σ H R => ta σ H fun vs H1 => ∃ a b, vs = [.ref a, .ref b] ∧ (∃ xs, SqL K H1 a xs) ∧ (∃ ys, SqL K H1 b ys) ∧ R (Itz K a b) H1
theorem pi_zip {es : List Expr} {k : _} {tpos : Pos} {a b : Expr} {ta : TA} {p pos : Pos} (hg : Gl X "zip") (hm : X.mg "zip" = none) (ha : PA X [a, b] ta) (hs : starEach [a, b] X.env = [(false, eval a X.env), (false, eval b X.env)] := by rfl) (hs2 : starEach [b] X.env = [(false, eval b X.env)] := by rfl) : PI X (.Tuple es k tpos) (.Call (.Name "zip" p) [a, b] [] pos) (iZip X.K ta) := by
  intro pins s σ H R I h
  refine Call_ (ld_blt I hg hm boot_zip (PyProof.Rows.callWith_type1 (thn (ha pos pins s σ H _ I h) fun us s1 ⟨vs, H1, I1, r1, q1⟩ => ?_) (by rw [hs, hs2]) (by rw [hs2]; rfl)))
  obtain ⟨l1, l2, e, ⟨xs, hqa⟩, ⟨ys, hqb⟩, q⟩ := q1
  subst e
  obtain ⟨u, u', rfl, ru, ru'⟩ := vals2 r1
  cases ru
  cases ru'
  obtain ⟨its, rv, pl, hz⟩ := I1.list hqa
  obtain ⟨jts, rv', pl', hz'⟩ := I1.list hqb
  have lt1 : l1 < s1.heap.objs.size := by obtain ⟨o, e, _⟩ := pl.isList; exact Heap.lt_size e
  have lt2 : l2 < s1.heap.objs.size := by obtain ⟨o, e, _⟩ := pl'.isList; exact Heap.lt_size e
  refine call_zip_2 pl.isList pl'.isList fun h' hz hTI hTO h1 h2 hsz hk => wpAny_pyIter_zip hz ?_
  have I2 : Inv X pins σ H1 { s1 with heap := h' } := I1.kept (t' := s1.toks) hk
  refine ⟨_, _, _, _, H1, rfl, I2, turn_zip (zipApart_new lt1 lt2), ⟨hz, hTI, ⟨_, _, hTO⟩, h1, h2⟩, fun c hc => ?_, q⟩
  have hc' : s1.heap.objs.size ≤ c := by
    simp only [List.mem_cons, List.not_mem_nil, or_false] at hc
    rcases hc with rfl | rfl | rfl | rfl | rfl
    · exact Nat.le_add_right _ 4
    · exact Nat.le_add_right _ 2
    · exact Nat.le_add_right _ 3
    · exact Nat.le_refl _
    · exact Nat.le_add_right _ 1
  exact I1.fpOk hc' (I1.hok.fresh hc')
theorem for_zip {K : PySem.W.Frag} {a b : Addr} {xs ys : List V} {g : TG} {tb : TS} {D : Ends} {σ : St} {H : Hp} (Pv : Nat → St → Hp → Prop) (h0 : Pv 0 σ H) (hl : ∀ i σ H, i ≤ xs.length → Pv i σ H → SqL K H a xs ∧ SqL K H b ys) (he : xs.length = ys.length)
    (hs : ∀ i u v p σ H, xs[i]? = some u → ys[i]? = some v → H p = none → Pv i σ H → g (.ref p) σ (upd H p (.tup [u, v])) fun σ2 H2 => tb { D with nx := Pv (i + 1), ct := Pv (i + 1), bk := D.nx } σ2 H2) (hd : ∀ σ H, Pv xs.length σ H → D.nx σ H) :
    ∃ W : Nat → Nat → St → Hp → Prop, (∃ m, W 0 m σ H) ∧ ∀ i m σ H, W i m σ H →
      ((Itz K a b).stop i H ∧ D.nx σ H) ∨ ((Itz K a b).go i H ∧ ∃ N : St → Hp → Prop, (∀ σ' H', N σ' H' → ∃ m', m' < m ∧ W (i + 1) m' σ' H') ∧ ∀ x H', (Itz K a b).yld i H x H' → g x σ H' fun σ2 H2 => tb { D with nx := N, ct := N, bk := D.nx } σ2 H2) := by
  refine ⟨fun i m σ H => m = xs.length - i ∧ i ≤ xs.length ∧ Pv i σ H, ⟨xs.length, by simp, Nat.zero_le _, h0⟩, ?_⟩
  rintro i m σ H ⟨rfl, hi, p⟩
  obtain ⟨qa, qb⟩ := hl i σ H hi p
  by_cases hlt : i < xs.length
  · refine .inr ⟨⟨xs, ys, xs[i], ys[i]'(by omega), qa, qb, by simp [hlt], by simp [show i < ys.length by omega]⟩, Pv (i + 1), fun σ' H' p' => ⟨xs.length - (i + 1), by omega, rfl, hlt, p'⟩, fun x H' y => ?_⟩
    obtain ⟨pp, u, v, rfl, hp, rfl, y1, y2⟩ := y
    exact hs i u v pp σ _ (y1 xs qa) (y2 ys qb) hp p
  · have e : i = xs.length := by omega
    subst e
    exact .inl ⟨⟨xs, ys, qa, qb, .inl (Nat.le_refl _)⟩, hd σ H p⟩
end
end L2

namespace L2
open PySem PySem.Spec PyProof.Rows
section
variable {X : Cx}
end
end L2

/-! min(xs, default=e), e a whole number -/
namespace L2
open PySem PySem.Spec PyProof.Rows
section
variable {dv : Value} {prog : Program} {w : World} {A : Around} {R : Result → Shared → Prop} {it : Addr} {fp wr : List Addr} {n : Nat} {PP : Nat → Value → Prop} {St : Nat → Heap → Prop}
theorem dx_min_loop (W : Walks prog w A.in1 it fp wr n PP St) (bt : Nat → Nat → Bool) (cmp : CmpOf prog w A.in1 .Lt PP bt) (bs : Addr) (nf : bs ∉ fp) :
    ∀ (k j : Nat) (s : Shared) (vb : Value) (c : Nat), n - (j + 1) = k → j + 1 ≤ n → St (j + 1) s.heap → PP (argBest bt j) vb → s.heap.get? bs = some { cls := .type "list", data := .seq #[vb, vb] c } →
    (∀ v h' tk, PP (argBest bt (n - 1)) v → (∀ b o, b ∉ wr → b ≠ bs → s.heap.get? b = some o → h'.get? b = some o) → R (.ok (.ret v)) { s with heap := h', toks := tk }) →
    codeAny (model prog w) A (.builtin "min.loop" ⟨[.ref it, .none, .ref bs], [(Str.ofString "default", dv)]⟩) R s := by
  have nw : bs ∉ wr := fun h => nf (W.sub _ h)
  have nm : (toString "min" ++ toString ".loop" : String) = "min.loop" := by decide
  intro k
  induction k with
  | zero =>
    intro j s vb c hk hj st hb hB hR
    have hin : j + 1 = n := by omega
    refine codeAny_builtin F.entry_min_loop ?_; rw [Around.under_plainId F.plain_min_loop _]
    show wpAny _ A.in1 (seqItems? (.ref bs) >>= _) _ _ s
    refine wpAny_bind (wpAny_seqItems hB rfl ?_); show wpAny _ A.in1 (tryCatch (pyNext (.ref it)) _ >>= _) _ _ s
    refine wpAny_bind (wpAny_tryCatch (W.done s _ _ (hin ▸ st) fun h' tk kp => ?_))
    have hB' := kp bs _ nw hB
    show wpAny _ A.in1 (updateSeq bs (fun _ => #[]) >>= _) _ _ _
    refine wpAny_bind (wpAny_updateSeq hB' rfl (wpAny_bind (wpAny_letGo (wpAny_pure ?_))))
    exact hR vb _ tk (by rw [← hin]; exact hb) fun b o h1 h2 e => (Heap.get?_update_other _ _ (Ne.symm h2)).trans (kp b o h1 e)
  | succ k ih =>
    intro j s vb c hk hj st hb hB hR
    have lt : j + 1 < n := by omega
    refine codeAny_builtin F.entry_min_loop ?_; rw [Around.under_plainId F.plain_min_loop _]
    show wpAny _ A.in1 (seqItems? (.ref bs) >>= _) _ _ s
    refine wpAny_bind (wpAny_seqItems hB rfl ?_); show wpAny _ A.in1 (tryCatch (pyNext (.ref it)) _ >>= _) _ _ s
    refine wpAny_bind (wpAny_tryCatch (W.item (j + 1) s _ _ lt st fun v h' tk hv st' kp => ?_))
    have hB' := kp bs _ nw hB
    show wpAny _ A.in1 (tryCatch (holding [v, v] (richCompare .Lt v vb >>= _)) _ >>= _) _ _ _
    refine wpAny_bind (wpAny_tryCatch (wpAny_holding (wpAny_bind (cmp (j + 1) (argBest bt j) v vb _ _ _ hv hb ?_))))
    refine wpAny_bind (wpAny_holding (wpAny_truthy_bool (wpAny_bind (wpAny_letGo (wpAny_pure ?_)))))
    cases e0 : bt (j + 1) (argBest bt j) with
    | true =>
      simp only [if_true]
      refine wpAny_bind (wpAny_updateSeq hB' rfl (wpAny_bind (wpAny_letGo ?_)))
      rw [nm]
      refine wpAny_pure ⟨plainId_quiet F.plain_min_loop _, ih (j + 1) _ v _ (by omega) lt (W.frame _ _ _ st' fun b hf o e => ?_) (by simp only [argBest, e0, if_true]; exact hv) (Heap.get?_update_self _ hB' rfl) fun v' h2 tk2 hv' kp2 => ?_⟩
      · exact (Heap.get?_update_other _ _ (fun h : bs = b => nf (by rw [h]; exact hf))).trans e
      · exact hR v' h2 tk2 hv' fun b o h1 h3 e => kp2 b o h1 h3 ((Heap.get?_update_other _ _ (Ne.symm h3)).trans (kp b o h1 e))
    | false =>
      simp only [if_false, Bool.false_eq_true]
      refine wpAny_bind (wpAny_letGo ?_); rw [nm]
      refine wpAny_pure ⟨plainId_quiet F.plain_min_loop _, ih (j + 1) _ vb c (by omega) lt st' (by simp only [argBest, e0, if_false, Bool.false_eq_true]; exact hb) hB' fun v' h2 tk2 hv' kp2 => ?_⟩
      exact hR v' h2 tk2 hv' fun b o h1 h3 e => kp2 b o h1 h3 (kp b o h1 e)
theorem dx_min_first (W : Walks prog w A.in1 it fp wr n PP St) (bt : Nat → Nat → Bool) (cmp : CmpOf prog w A.in1 .Lt PP bt) (bs : Addr) (nf : bs ∉ fp) {s : Shared} {c : Nat} (st : St 0 s.heap) (hB : s.heap.get? bs = some { cls := .type "list", data := .seq #[] c })
    (hR : ∀ v h' tk, (0 < n → PP (argBest bt (n - 1)) v) → (n = 0 → v = dv) → (∀ b o, b ∉ wr → b ≠ bs → s.heap.get? b = some o → h'.get? b = some o) → R (.ok (.ret v)) { s with heap := h', toks := tk }) :
    codeAny (model prog w) A (.builtin "min.loop" ⟨[.ref it, .none, .ref bs], [(Str.ofString "default", dv)]⟩) R s := by
  have nw : bs ∉ wr := fun h => nf (W.sub _ h)
  have nm : (toString "min" ++ toString ".loop" : String) = "min.loop" := by decide
  refine codeAny_builtin F.entry_min_loop ?_; rw [Around.under_plainId F.plain_min_loop _]
  show wpAny _ A.in1 (seqItems? (.ref bs) >>= _) _ _ s
  refine wpAny_bind (wpAny_seqItems hB rfl ?_); show wpAny _ A.in1 (tryCatch (pyNext (.ref it)) _ >>= _) _ _ s
  by_cases hn : n = 0
  · subst hn
    refine wpAny_bind (wpAny_tryCatch (W.done s _ _ st fun h' tk kp => ?_))
    refine wpAny_bind (wpAny_rule ?_)
    exact wpAny_pure (hR dv h' tk (fun w => absurd w (Nat.lt_irrefl _)) (fun _ => rfl) fun b o h1 _ e => kp b o h1 e)
  refine wpAny_bind (wpAny_tryCatch (W.item 0 s _ _ (Nat.pos_of_ne_zero hn) st fun v h' tk hv st' kp => ?_))
  have hB' := kp bs _ nw hB
  show wpAny _ A.in1 (updateSeq bs (fun _ => #[v, v]) >>= _) _ _ _
  refine wpAny_bind (wpAny_updateSeq hB' rfl ?_); rw [nm]
  refine wpAny_pure ⟨plainId_quiet F.plain_min_loop _, dx_min_loop W bt cmp bs nf _ 0 _ v _ rfl (Nat.pos_of_ne_zero hn) (W.frame _ _ _ st' fun b hf o e => ?_) hv (Heap.get?_update_self _ hB' rfl) fun v' h2 tk2 hv' kp2 => ?_⟩
  · exact (Heap.get?_update_other _ _ (fun h : bs = b => nf (by rw [h]; exact hf))).trans e
  · exact hR v' h2 tk2 (fun _ => hv') (fun z => absurd z hn) fun b o h1 h3 e => kp2 b o h1 h3 ((Heap.get?_update_other _ _ (Ne.symm h3)).trans (kp b o h1 e))
end
section
variable {X : Cx}
noncomputable def valminD (ns : List Int) (d : Int) : V := if ns.length = 0 then .int d else .int (bstmin ns (ns.length - 1))
noncomputable def tDxmin (K : PySem.W.Frag) (ta : TA) (td : TE) : TE := fun σ H Q => ta σ H fun vs H1 => td σ H1 fun y H2 => ∃ a ns d, vs = [.ref a] ∧ y = .int d ∧ SqL K H2 a (ns.map V.int) ∧ Q (valminD ns d) H2
theorem pe_dxmin {a e : Expr} {ta : TA} {td : TE} {p pos kp : Pos} (hc : X.calm = true) (hg : Gl X "min") (hm : X.mg "min" = none) (ha : PA X [a] ta) (hd : PE X e td) (hs : starEach [a] X.env = [(false, eval a X.env)] := by rfl) :
    PE X (.Call (.Name "min" p) [a] [⟨some "default", e, kp⟩] pos) (tDxmin X.K ta td) := by
  intro pins s σ H Q I h
  refine wpAny_Call_Name_kw (ld_blt I hg hm boot_min ?_ (by decide) (by decide))
  refine callWith_kw (thn (ha pos pins s σ H _ I h) fun us s1 ⟨vs, H1, I1, r1, q1⟩ => ?_) (by rw [hs]; rfl) (by rw [hs]; rfl)
  refine kws_cons ?_
  refine thn (hd pins s1 σ H1 _ I1 q1) fun dv s2 ⟨x, H2, I2, r2, q2⟩ => ?_
  obtain ⟨l, ns, di, e, rfl, hq, q⟩ := q2
  subst e
  obtain ⟨u, rfl, ru⟩ := r1.one
  cases ru
  refine kws_nil ?_
  obtain ⟨its, rv, pl, hz⟩ := I2.list hq
  have hlen := rv.length
  rw [List.length_map] at hlen
  have hval : ∀ (i : Nat) (v : Value), its.toArray[i]? = some v → ∃ t, v = Value.int (ns.getD i 0) t := fun i v hv => by
    have hv' : its[i]? = some v := by simpa using hv
    have hi : i < ns.length := by have := (List.getElem?_eq_some_iff.mp hv').1; omega
    obtain ⟨u, hu, ru⟩ := rv.get (i := i) (x := V.int (ns.getD i 0)) (by rw [List.getElem?_map, List.getElem?_eq_getElem hi, List.getD_eq_getElem?_getD, List.getElem?_eq_getElem hi]; rfl)
    rw [hv'] at hu
    cases hu
    exact ru
  refine kmk_tree F.kind_min F.plain_min F.entry_min (dv_min_args _ _) ?_
  show wpAny _ X.A.in1 (Builtin.Builtins.bindParams "min" ["key", "default"] 0 ⟨[], [(Str.ofString "default", dv)]⟩ >>= _) _ _ _
  refine wpAny_bind (wpAny_of_eq (show Builtin.Builtins.bindParams "min" ["key", "default"] 0 ⟨[], [(Str.ofString "default", dv)]⟩ = pure [none, some dv] from rfl) (wpAny_bind (wpAny_pure ?_)))
  have hls : l < s2.heap.objs.size := by obtain ⟨o, ho, _⟩ := pl.isList; exact Heap.lt_size ho
  refine wpAny_bind (wpAny_pyIter_list pl.isList (wpAny_bind (wpAny_newObj_type ?_)))
  rw [show (toString "min" ++ toString ".loop" : String) = "min.loop" from by decide]
  have W := Walks.list (prog := X.prog) (w := X.w) (A := X.A.in1) (I2.ok.hd hc) s2.heap.objs.size l (Nat.ne_of_lt hls) its.toArray
  have sz : (s2.heap.push { cls := .type "list_iterator", data := .fields #[.ref l, .int 0 0] }).objs.size = s2.heap.objs.size + 1 := by simp [Heap.push]
  refine wpAny_pure ⟨plainId_quiet F.plain_min_loop _, dx_min_first W _ (CmpOf.ints_lt (fun i => ns.getD i 0) hval) _ ?_ ⟨⟨_, Heap.get?_push_of_some _ (Heap.get?_push_size _ rfl), rfl, rfl⟩, (pl.isList.push _).push _⟩ (Heap.get?_push_size _ rfl) fun v h' tk g1 g0 kp => ?_⟩
  · intro hm
    rcases List.mem_cons.mp hm with e | e
    · rw [sz] at e; exact absurd e (Nat.succ_ne_self _)
    · have e2 : (s2.heap.push { cls := .type "list_iterator", data := .fields #[.ref l, .int 0 0] }).objs.size = l := by simpa using e
      rw [sz] at e2
      exact absurd e2 (Nat.ne_of_gt (Nat.lt_succ_of_lt hls))
  have kept : ∀ b o, s2.heap.get? b = some o → h'.get? b = some o := fun b o e => kp b o (fun z => absurd (show b = s2.heap.objs.size by simpa using z) (Nat.ne_of_lt (Heap.lt_size e))) (by rw [sz]; exact Nat.ne_of_lt (Nat.lt_succ_of_lt (Heap.lt_size e))) (Heap.get?_push_of_some _ (Heap.get?_push_of_some _ e))
  refine ⟨valminD ns di, _, I2.kept kept, ?_, q⟩
  unfold valminD
  have en : its.toArray.size = ns.length := by simp; omega
  by_cases hn : ns.length = 0
  · rw [if_pos hn]; rw [g0 (by rw [en]; exact hn)]; exact r2
  · rw [if_neg hn]
    obtain ⟨t, ht⟩ := hval _ _ (g1 (by rw [en]; omega))
    rw [en] at ht
    rw [ht]
    exact ⟨t, by rw [dv_min_best]⟩
end
end L2

namespace L2
open PySem PySem.Spec PyProof.Rows
/-- rows with any second value, as a table -/
noncomputable def RowV (H : Hp) (x : V) (r : Int × V) : Prop := ∃ p, x = .ref p ∧ H p = some (.tup [.int r.1, r.2])
noncomputable def tabV (rs : List (Int × V)) : List (Key × V) := rs.map fun r => (.inl r.1, r.2)
section
variable {X : Cx}
end
end L2
namespace OL
open PySem L2
section
variable {K : PySem.W.Frag} {m : Nat} {js : List Nat} {g : TG} {c : TT} {te : TE} {σ : St} {H1 : Hp} {Q : VK} {α : Type}
end
end OL

namespace L2
open PySem PySem.Spec PyProof.Rows
section
variable {X : Cx} (K : PySem.W.Frag) (hK : X.K = K)
variable {o e : Expr} {es : List Expr} {to : TE} {t : TA} {name : Str} {apos cpos : Pos} {T id : String} {r : V → List V → Hp → VK → Prop}
include hK
end
end L2

namespace L2
open PySem PySem.Spec PyProof.Rows
/-! ### rows of tuples of whole numbers -/
noncomputable def RowT (H : Hp) (x : V) (r : List Int) : Prop := ∃ p, x = .ref p ∧ H p = some (.tup (r.map V.int))
noncomputable abbrev RowsT (H : Hp) (xs : List V) (rs : List (List Int)) : Prop := Paired (RowT H) xs rs
noncomputable def dRowT (r : List Int) : PyData := .tuple (r.map PyData.int)
end L2
namespace OL
open PySem L2
noncomputable def aheadF (n : Nat) : Nat := n - 2 ^ n.log2
noncomputable def goneRow (bs : List Int) (n : Nat) : List Int := [(n : Int), ((aheadF n : Nat) : Int), colF bs ((aheadF n : Nat) : Int) - colF bs (n : Int)]
noncomputable def goneR (bs : List Int) (least : Int) (n : Nat) : List (List Int) := (((List.range n).filter (ofB bs least)).filter fun i => decide (i ≠ 0)).map (goneRow bs)
section
variable {many : Int} {bs : List Int} (hb : ∀ x ∈ bs, InB many x)
include hb
end
noncomputable def bitB (lot : Int) (t : Int) : Bool := Builtin.bitAnd (lot / 2 ^ t.toNat) 1 == 1
noncomputable def spWithout : Sp := fun vs H Q _ => ∃ x y : Int, vs = [.int x, .int y] ∧ 0 ≤ x ∧ 0 ≤ y ∧ Q (.int (x - Builtin.bitAnd x y)) H
noncomputable def spGreat : Sp := fun vs H Q _ => ∃ n : Nat, vs = [.int (n : Int)] ∧ 0 < n ∧ n < 4096 ∧ Q (.int ((aheadF n : Nat) : Int)) H
noncomputable def spGoneRow : Sp := fun vs H Q _ => ∃ (d : Addr) (many : Int) (bs : List Int) (least : Int) (n N : Nat), vs = [.ref d, .int (n : Int)] ∧ Rd H d (.dK (oftenKV bs least N)) ∧ (∀ x ∈ bs, InB many x) ∧ 0 < n ∧ n < 4096 ∧ n ∈ (List.range N).filter (ofB bs least) ∧ ∀ (p : Addr) (H' : Hp), Same H H' → H p = none → H' p = some (.tup ((goneRow bs n).map V.int)) → Q (.ref p) H'
noncomputable def spGone (K : PySem.W.Frag) : Sp := fun vs H Q _ => ∃ (b : Addr) (many : Int) (bs : List Int) (least : Int), vs = [.ref b, .int least] ∧ Bk K H b many bs ∧ bs.length ≤ 500 ∧ 0 ≤ many ∧ many ≤ 10 ∧ (∀ x ∈ bs, InB many x) ∧ ∀ (r : Addr) (xs : List V) (H' : Hp), Same H H' → H r = none → H' r = some (.lst xs) → RowsT H' xs (goneR bs least (2 ^ many.toNat)) → Q (.ref r) H'
noncomputable def spThingsL : Sp := fun vs H Q _ => ∃ n : Nat, vs = [.int (n : Int)] ∧ 0 < n ∧ n < 4096 ∧ ∀ (r : Addr) (ys : List V) (H' : Hp), Same H H' → H r = none → H' r = some (.lst (ys ++ [.int ((n.log2 : Nat) : Int)])) → Q (.ref r) H'
end OL

namespace OL
open PySem L2
/-! ### papers of marks -/
noncomputable def MRow (H : Hp) (x : V) (m : Int × List Int) : Prop := ∃ p l, x = .ref p ∧ H p = some (.tup [.int m.1, .ref l]) ∧ H l = some (.lst (m.2.map V.int))
noncomputable def MRows (H : Hp) : List V → List (Int × List Int) → Prop := Paired (MRow H)
/-- marks rows whose lists are newer than a heap -/
noncomputable def MRowN (H0 H : Hp) (x : V) (m : Int × List Int) : Prop := ∃ p l, x = .ref p ∧ H0 l = none ∧ H p = some (.tup [.int m.1, .ref l]) ∧ H l = some (.lst (m.2.map V.int))
noncomputable def MRowsN (H0 H : Hp) : List V → List (Int × List Int) → Prop := Paired (MRowN H0 H)
/-- rows of which the first is known -/
noncomputable def FRow (H : Hp) (x : V) (k : Int) : Prop := ∃ p ys, x = .ref p ∧ H p = some (.tup (.int k :: ys))
noncomputable def riseFrom (top : Int) : Int → List Int → Bool
  | last, [] => decide (last ≤ top)
  | last, k :: ks => if k ≤ last then false else riseFrom top k ks
noncomputable def riseB (many : Int) (ks : List Int) : Bool := riseFrom (topF many) (-1) ks
theorem riseFrom_iff {top : Int} : ∀ {ks : List Int} {last : Int}, riseFrom top last ks = true ↔ ks.Pairwise (· < ·) ∧ (∀ k ∈ ks, last < k ∧ k ≤ top) ∧ last ≤ top
  | [], last => by simp [riseFrom]
  | k :: ks, last => by
    unfold riseFrom
    by_cases c : k ≤ last
    · rw [if_pos c]
      constructor
      · intro h; cases h
      · rintro ⟨_, h, _⟩
        have := h k List.mem_cons_self
        omega
    · rw [if_neg c, riseFrom_iff, List.pairwise_cons]
      constructor
      · rintro ⟨h1, h2, h3⟩
        refine ⟨⟨fun x hx => (h2 x hx).1, h1⟩, fun x hx => ?_, by omega⟩
        rcases List.mem_cons.mp hx with rfl | z
        · omega
        · have := h2 x z; omega
      · rintro ⟨⟨h0, h1⟩, h2, h3⟩
        refine ⟨h1, fun x hx => ⟨h0 x hx, (h2 x (List.mem_cons_of_mem _ hx)).2⟩, (h2 k List.mem_cons_self).2⟩
theorem rise_iff {many : Int} {ks : List Int} : riseB many ks = true ↔ ks.Pairwise (· < ·) ∧ ∀ k ∈ ks, InB many k := by
  unfold riseB
  rw [riseFrom_iff]
  have ht := top_nn many
  have e : topF many + 1 = 2 ^ many.toNat := by unfold topF; omega
  constructor
  · rintro ⟨h1, h2, _⟩
    exact ⟨h1, fun k hk => ⟨by have := (h2 k hk).1; omega, by have := (h2 k hk).2; omega⟩⟩
  · rintro ⟨h1, h2⟩
    exact ⟨h1, fun k hk => ⟨by have := (h2 k hk).1; omega, by have := (h2 k hk).2; omega⟩, by omega⟩
noncomputable def lackM (lot b : Int) : List Int := thingsF (lot - Builtin.bitAnd lot b)
noncomputable def markB (b lot mk : Int) : Bool := if mk = -1 then hasF b lot else (lackM lot b).any fun t => t == mk
noncomputable def marksFrom (lot : Int) : List Int → List Int → Bool
  | b :: bs, m :: ms => markB b lot m && marksFrom lot bs ms
  | _, _ => true
theorem marks_cons (lot b m : Int) (bs ms : List Int) : marksFrom lot (b :: bs) (m :: ms) = (markB b lot m && marksFrom lot bs ms) := rfl
theorem atI_zero {x : V} {ys : List V} : atI (x :: ys) 0 = some x := by
  unfold atI ixN
  rw [if_pos (by decide), if_pos (by rw [List.length_cons]; omega)]; rfl
theorem dec_len (a b : Nat) : decide (V.int (a : Int) = V.int (b : Int)) = decide (a = b) := by
  by_cases c : a = b
  · subst c; simp
  · rw [decide_eq_false c]; exact decide_eq_false fun e => c (by injection e with e; omega)
noncomputable def marksB (bs : List Int) (lot : Int) (ms : List Int) : Bool := decide (ms.length = bs.length) && marksFrom lot bs ms
noncomputable def cntM (ms : List Int) : Int := ((ms.countP fun y => y == -1 : Nat) : Int)
noncomputable def leadsB (many : Int) (lots rares : List Int) : Bool := (lots.any (fun x => x == 0) || rares.any fun x => x == 0) && lots.all fun l => (lackF many l).all fun t => lots.any (fun x => x == wt l t.toNat) || rares.any fun r => hasF (wt l t.toNat) r
noncomputable def wholeB (many : Int) (bs : List Int) (least : Int) (P R : List (Int × List Int)) : Bool :=
  riseB many (P.map Prod.fst) && riseB many (R.map Prod.fst) && (P.all fun m => marksB bs m.1 m.2 && !decide (cntM m.2 < least)) && (R.all fun m => marksB bs m.1 m.2 && !decide (least ≤ cntM m.2)) && leadsB many (P.map Prod.fst) (R.map Prod.fst)
noncomputable def spRise : Sp := fun vs H Q _ => ∃ (p : Addr) (many : Int) (xs : List V) (ks : List Int), vs = [.int many, .ref p] ∧ 0 ≤ many ∧ many ≤ 12 ∧ H p = some (.lst xs) ∧ Paired (FRow H) xs ks ∧ Q (.bl (riseB many ks)) H
noncomputable def spMarkR : Sp := fun vs H Q _ => ∃ b lot mk : Int, vs = [.int b, .int lot, .int mk] ∧ 0 ≤ b ∧ Sm lot ∧ ∀ H', Same H H' → Q (.bl (markB b lot mk)) H'
noncomputable def spMarksR (K : PySem.W.Frag) : Sp := fun vs H Q _ => ∃ (b r l : Addr) (many : Int) (bs : List Int) (lot : Int) (ms : List Int), vs = [.ref b, .ref r] ∧ Bk K H b many bs ∧ bs.length ≤ 500 ∧ (∀ x ∈ bs, 0 ≤ x) ∧ H r = some (.tup [.int lot, .ref l]) ∧ H l = some (.lst (ms.map V.int)) ∧ Sm lot ∧ ∀ H', Same H H' → Q (.bl (marksB bs lot ms)) H'
noncomputable def spLeadsOn (K : PySem.W.Frag) : Sp := fun vs H Q _ => ∃ (d r : Addr) (many : Int) (kvs : List (Int × V)) (rares : List Int), vs = [.int many, .ref d, .ref r] ∧ 0 ≤ many ∧ many ≤ 12 ∧ H d = some (.dK (tabV kvs)) ∧ H r = some (.lst (rares.map V.int)) ∧ (∀ k ∈ kvs, InB many k.1) ∧
  ∀ H', SameB d H H' → Q (.bl (leadsB many (kvs.map Prod.fst) rares)) H'
noncomputable def spWholeH (K : PySem.W.Frag) : Sp := fun vs H Q _ => ∃ (b pp p1 p2 : Addr) (many : Int) (bs : List Int) (least : Int) (xs ys : List V) (P R : List (Int × List Int)), vs = [.ref b, .int least, .ref pp] ∧ Bk K H b many bs ∧ bs.length ≤ 500 ∧ (∀ x ∈ bs, InB many x) ∧ 0 ≤ many ∧ many ≤ 12 ∧ H pp = some (.tup [.ref p1, .ref p2]) ∧ H p1 = some (.lst xs) ∧ H p2 = some (.lst ys) ∧ MRows H xs P ∧ MRows H ys R ∧ P.length ≤ 5000 ∧ R.length ≤ 5000 ∧
  ∀ H', Same H H' → Q (.bl (wholeB many bs least P R)) H'
theorem Sm.of {many x : Int} (h : InB many x) (hm : many ≤ 12) : Sm x := by
  have h1 := pow12 hm
  have h2 := powC many
  exact ⟨h.1, by have := h.2; omega⟩
noncomputable def markF (b lot : Int) : Int := if (lackM lot b).length = 0 then -1 else bstmin (lackM lot b) ((lackM lot b).length - 1)
noncomputable def markedF (bs : List Int) (rs : List (Int × Int)) : List (Int × List Int) := rs.map fun r => (r.1, bs.map fun b => markF b r.1)
noncomputable def spMarkFor : Sp := fun vs H Q _ => ∃ b lot : Int, vs = [.int b, .int lot] ∧ 0 ≤ b ∧ Sm lot ∧ ∀ H', Same H H' → Q (.int (markF b lot)) H'
noncomputable def spMarked (K : PySem.W.Frag) : Sp := fun vs H Q _ => ∃ (b r : Addr) (many : Int) (bs : List Int) (xs : List V) (rs : List (Int × Int)), vs = [.ref b, .ref r] ∧ Bk K H b many bs ∧ bs.length ≤ 500 ∧ (∀ x ∈ bs, 0 ≤ x) ∧ H r = some (.lst xs) ∧ Rows H xs rs ∧ rs.length ≤ 5000 ∧ (∀ r ∈ rs, Sm r.1) ∧
  ∀ (t : Addr) (ys : List V) (H' : Hp), Same H H' → H t = none → H' t = some (.lst ys) → MRowsN H H' ys (markedF bs rs) → Q (.ref t) H'
noncomputable def spWholeP (K : PySem.W.Frag) : Sp := fun vs H Q _ => ∃ (b : Addr) (many : Int) (bs : List Int) (least : Int), vs = [.ref b, .int least] ∧ Bk K H b many bs ∧ bs.length ≤ 500 ∧ 0 ≤ many ∧ many ≤ 12 ∧ (∀ x ∈ bs, InB many x) ∧
  ∀ (pp p1 p2 : Addr) (xs ys : List V) (H' : Hp), Same H H' → H pp = none → H p1 = none → H p2 = none → H' pp = some (.tup [.ref p1, .ref p2]) → H' p1 = some (.lst xs) → H' p2 = some (.lst ys) → MRowsN H H' xs (markedF bs (oftenR bs least (2 ^ many.toNat))) → MRowsN H H' ys (markedF bs (bordR bs least (2 ^ many.toNat))) → Q (.ref pp) H'
theorem lack_sm {lot b : Int} (h : Sm lot) (hb : 0 ≤ b) : Sm (lot - Builtin.bitAnd lot b) := by
  obtain ⟨h1, h2⟩ := minus_th h.1 hb
  have := and_nn h.1 hb
  exact ⟨h1, by have := h.2; omega⟩
end OL

namespace OL
open PySem L2
theorem mem_thingsF {lot : Int} (h : 0 ≤ lot) {x : Int} : x ∈ thingsF lot ↔ ∃ t : Nat, Th lot t ∧ x = (t : Int) := by
  unfold thingsF upto
  rw [List.mem_map]
  constructor
  · rintro ⟨t, ht, rfl⟩
    have this : hasF lot (1 * 2 ^ t) = true := (List.mem_filter.mp ht).2
    exact ⟨t, (has_th h t).mp this, rfl⟩
  · rintro ⟨t, ht, rfl⟩
    refine ⟨t, List.mem_filter.mpr ⟨List.mem_range.mpr ?_, ?_⟩, rfl⟩
    · obtain ⟨n, rfl⟩ : ∃ n : Nat, lot = (n : Int) := ⟨lot.toNat, by omega⟩
      have hlt := lt_bits n
      unfold Th at ht
      rw [Int.toNat_natCast] at ht
      apply Classical.byContradiction
      intro z
      have := Nat.testBit_lt_two_pow (Nat.lt_of_lt_of_le hlt (Nat.pow_le_pow_right (n := 2) (by decide) (Nat.le_of_not_lt z)))
      rw [this] at ht; cases ht
    · exact (has_th h t).mpr ht
theorem mem_lackM {lot b : Int} (hl : 0 ≤ lot) (hb : 0 ≤ b) {x : Int} : x ∈ lackM lot b ↔ ∃ t : Nat, Th lot t ∧ ¬ Th b t ∧ x = (t : Int) := by
  obtain ⟨h1, h2⟩ := minus_th hl hb
  unfold lackM
  rw [mem_thingsF h1]
  exact ⟨fun ⟨t, a, e⟩ => ⟨t, ((h2 t).mp a).1, ((h2 t).mp a).2, e⟩, fun ⟨t, a, c, e⟩ => ⟨t, (h2 t).mpr ⟨a, c⟩, e⟩⟩
theorem lackM_nil {lot b : Int} (hl : 0 ≤ lot) (hb : 0 ≤ b) : lackM lot b = [] ↔ hasF b lot = true := by
  rw [has_iff hb hl]
  constructor
  · intro h i hi
    apply Classical.byContradiction
    intro z
    have : (i : Int) ∈ lackM lot b := (mem_lackM hl hb).mpr ⟨i, hi, z, rfl⟩
    rw [h] at this; cases this
  · intro h
    cases e : lackM lot b with
    | nil => rfl
    | cons x r =>
      have : x ∈ lackM lot b := by rw [e]; exact List.mem_cons_self
      obtain ⟨t, a, c, _⟩ := (mem_lackM hl hb).mp this
      exact absurd (h t a) c
theorem bstmin_mem {ns : List Int} : ∀ {j : Nat}, j < ns.length → bstmin ns j ∈ ns
  | 0, h => getD_mem h
  | j + 1, h => by
    unfold bstmin
    split
    · exact getD_mem h
    · exact bstmin_mem (by omega)
theorem markF_cases {lot b : Int} (hl : 0 ≤ lot) (hb : 0 ≤ b) : (hasF b lot = true ∧ markF b lot = -1) ∨ (hasF b lot = false ∧ markF b lot ∈ lackM lot b ∧ 0 ≤ markF b lot) := by
  unfold markF
  by_cases c : (lackM lot b).length = 0
  · rw [if_pos c]
    exact .inl ⟨(lackM_nil hl hb).mp (List.eq_nil_of_length_eq_zero c), rfl⟩
  · rw [if_neg c]
    have hm : bstmin (lackM lot b) ((lackM lot b).length - 1) ∈ lackM lot b := bstmin_mem (by omega)
    refine .inr ⟨?_, hm, ?_⟩
    · rw [Bool.eq_false_iff]
      intro z
      rw [(lackM_nil hl hb).mpr z] at c
      exact c rfl
    · obtain ⟨t, _, _, e⟩ := (mem_lackM hl hb).mp hm
      rw [e]; exact Int.natCast_nonneg _
section
variable {many : Int} {bs : List Int} {least : Int} (hb : ∀ x ∈ bs, InB many x)
include hb
end
end OL

namespace L2
open PySem PySem.Spec PyProof.Rows
section
variable {X : Cx}
end
end L2

namespace OL.W41
open PySem L2 OL
/-! ### all the lots within a lot, by doubling -/
/-- a lot that holds the first things of another -/
noncomputable def Fst (lot : Int) (i : Nat) (x : Int) : Prop := 0 ≤ x ∧ ∀ j : Nat, Th x j ↔ (j : Int) ∈ (thingsF lot).take i
end OL.W41

namespace OL
open PySem L2 OL.W41
/-! ### a dict of whole numbers, as what it tells -/
noncomputable def DF (H : Hp) (d : Addr) (L : List Int) (f : Int → Int) (n : Nat) : Prop := ∃ kvs : List (Key × V), H d = some (.dK kvs) ∧ kvs.length ≤ n ∧ ∀ q ∈ L, valV kvs (Sum.inl q) = some (.int (f q))
/-! ### lots within a lot -/
noncomputable def lesserF (lot : Int) : List Int := (withinF lot).dropLast
noncomputable def oddB (lot : Int) : Bool := decide ((((thingsF lot).length : Nat) : Int) % 2 = 1)
noncomputable def belowF (lot : Int) : List Int := (lesserF lot).filter fun p => !oddB (lot - p)
noncomputable def aboveF (lot : Int) : List Int := (withinF lot).filter fun p => oddB (lot - p)
/-! ### the sums, thing by thing -/
noncomputable def cntOf (cs : List (Int × Int)) (q : Int) : Int := ((cs.find? fun r => decide (r.1 = q)).map Prod.snd).getD 0
noncomputable def sgnF (lot q c : Int) : Int := if oddB (lot - q) = true then c else -c
noncomputable def baseF (lot : Int) (cs : List (Int × Int)) (q : Int) : Int := if q = lot then 0 else sgnF lot q (cntOf cs q)
noncomputable def stepZ (t : Int) (f : Int → Int) (q : Int) : Int := if hasF q (1 * 2 ^ t.toNat) = true then f q else f q + f (wt q t.toNat)
noncomputable def zetaF (lot : Int) (cs : List (Int × Int)) : Int → Int := (thingsF lot).foldl (fun f t => stepZ t f) (baseF lot cs)
/-- sums over the lots between -/
noncomputable def sumL (L : List Int) (f : Int → Int) (p : Int → Bool) : Int := ((L.filter p).map f).sum
noncomputable def btw (ts : List Int) (lot q r : Int) : Bool := hasF r q && (thingsF lot).all fun t => hasF q (1 * 2 ^ t.toNat) || !hasF r (1 * 2 ^ t.toNat) || ts.any fun u => u == t
end OL

namespace OL
open PySem L2
/-! ### closed papers -/
noncomputable abbrev What := Int ⊕ List Int
noncomputable abbrev Rsn := Int × Str × What
noncomputable abbrev PRow := Int × Int × List Rsn
set_option synthInstance.maxSize 4000 in
instance decRsn : DecidableEq Rsn := fun a b => inferInstance
set_option synthInstance.maxSize 4000 in
instance decPRow : DecidableEq PRow := fun a b => inferInstance
noncomputable def dWhat : What → PyData
  | .inl n => .int n
  | .inr l => .list (l.map PyData.int)
noncomputable def dRsn (r : Rsn) : PyData := .tuple [.int r.1, .str r.2.1, dWhat r.2.2]
noncomputable def dPRow (r : PRow) : PyData := .tuple [.int r.1, .int r.2.1, .list (r.2.2.map dRsn)]
noncomputable def dPaper (P : List PRow) : PyData := .list (P.map dPRow)
/-! what such papers are like: their words are of four -/
noncomputable def Wds : List Str := ["leads", "rare", "", "Leads"]
noncomputable def RsnOk (r : Rsn) : Prop := r.2.1 ∈ Wds
noncomputable def PRowOk (r : PRow) : Prop := ∀ x ∈ r.2.2, RsnOk x
theorem layAll_map {α : Type} {d : α → PyData} : ∀ {l : List α}, (∀ x ∈ l, (d x).canLay0 = true) → PyData.canLayAll0 (l.map d) = true
  | [], _ => rfl
  | x :: l, h => by
    show ((d x).canLay0 && PyData.canLayAll0 (l.map d)) = true
    rw [h x List.mem_cons_self, layAll_map fun y hy => h y (List.mem_cons_of_mem _ hy)]; rfl
theorem depthAll_map {α : Type} {d : α → PyData} {k : Nat} : ∀ {l : List α}, (∀ x ∈ l, (d x).depth ≤ k) → PyData.depthAll (l.map d) ≤ k
  | [], _ => Nat.zero_le _
  | x :: l, h => by
    show max (d x).depth (PyData.depthAll (l.map d)) ≤ k
    have h1 := h x List.mem_cons_self
    have h2 := depthAll_map (l := l) fun y hy => h y (List.mem_cons_of_mem _ hy)
    omega
/-! as texts -/
structure RsnNice (r : Rsn) : Prop where
  wd : r.2.1 ∈ Wds
  lo : 0 ≤ r.1
  hi : r.1 < 1000000
  num : ∀ n, r.2.2 = .inl n → 0 ≤ n ∧ n < 1000000
  pls : ∀ l, r.2.2 = .inr l → l.length ≤ 30 ∧ ∀ x ∈ l, 0 ≤ x ∧ x < 1000000
structure PRowNice (r : PRow) : Prop where
  lo : 0 ≤ r.1 ∧ r.1 < 1000000
  cn : 0 ≤ r.2.1 ∧ r.2.1 < 1000000
  ln : r.2.2.length ≤ 12
  rs : ∀ x ∈ r.2.2, RsnNice x
/-! ### how they lie in the heap, with the lists that are theirs -/
inductive ListA {α : Type} (R : Hp → V → α → List Addr → Prop) (H : Hp) : List V → List α → List Addr → Prop
  | nil : ListA R H [] [] []
  | cons {v : V} {x : α} {a b : List Addr} {vs : List V} {xs : List α} : R H v x a → ListA R H vs xs b → ListA R H (v :: vs) (x :: xs) (a ++ b)
noncomputable def Kp (as : List Addr) (H H' : Hp) : Prop := TSame H H' ∧ ∀ a ∈ as, ∀ o, H a = some o → H' a = some o
theorem kp_of {H H' : Hp} (S : Same H H') (as : List Addr) : Kp as H H' := ⟨S.t, fun a _ o e => S a o e⟩
section
variable {α : Type} {R : Hp → V → α → List Addr → Prop} {H H' : Hp}
theorem ListA.kp (hR : ∀ H H' v x as, R H v x as → Kp as H H' → R H' v x as) {vs : List V} {xs : List α} {as : List Addr} (h : ListA R H vs xs as) (k : Kp as H H') : ListA R H' vs xs as := by
  induction h with
  | nil => exact .nil
  | cons r _ ih => exact .cons (hR _ _ _ _ _ r ⟨k.1, fun a ha => k.2 a (List.mem_append_left _ ha)⟩) (ih ⟨k.1, fun a ha => k.2 a (List.mem_append_right _ ha)⟩)
theorem ListA.len {vs : List V} {xs : List α} {as : List Addr} (h : ListA R H vs xs as) : vs.length = xs.length := by
  induction h with
  | nil => rfl
  | cons _ _ ih => rw [List.length_cons, List.length_cons, ih]
theorem ListA.snoc {vs : List V} {xs : List α} {as bs : List Addr} {v : V} {x : α} (h : ListA R H vs xs as) (r : R H v x bs) : ListA R H (vs ++ [v]) (xs ++ [x]) (as ++ bs) := by
  induction h with
  | nil => have := ListA.cons r (ListA.nil (R := R) (H := H)); rw [List.append_nil] at this; exact this
  | cons r' _ ih => rw [List.append_assoc]; exact .cons r' ih
theorem ListA.get {vs : List V} {xs : List α} {as : List Addr} (h : ListA R H vs xs as) {i : Nat} {v : V} (hv : vs[i]? = some v) : ∃ x bs, xs[i]? = some x ∧ R H v x bs ∧ ∀ a ∈ bs, a ∈ as := by
  induction h generalizing i with
  | nil => simp at hv
  | cons r _ ih =>
    cases i with
    | zero => simp at hv; subst hv; exact ⟨_, _, rfl, r, fun a ha => List.mem_append_left _ ha⟩
    | succ i =>
      obtain ⟨x, bs, h1, h2, h3⟩ := ih (i := i) (by simpa using hv)
      exact ⟨x, bs, by simpa using h1, h2, fun a ha => List.mem_append_right _ (h3 a ha)⟩
theorem ListA.paired {S : V → α → Prop} (hS : ∀ v x as, R H v x as → S v x) {vs : List V} {xs : List α} {as : List Addr} (h : ListA R H vs xs as) : Paired S vs xs := by
  induction h with
  | nil => exact .nil
  | cons r _ ih => exact .cons (hS _ _ _ r) ih
end
noncomputable def WhatA (H : Hp) (v : V) : What → List Addr → Prop
  | .inl n, as => v = .int n ∧ as = []
  | .inr l, as => ∃ a, v = .ref a ∧ H a = some (.lst (l.map V.int)) ∧ as = [a]
noncomputable def RsnA (H : Hp) (v : V) (r : Rsn) (as : List Addr) : Prop := ∃ a u, v = .ref a ∧ H a = some (.tup [.int r.1, .str r.2.1, u]) ∧ WhatA H u r.2.2 as
noncomputable def PRowA (H : Hp) (v : V) (r : PRow) (as : List Addr) : Prop := ∃ a l us bs, v = .ref a ∧ H a = some (.tup [.int r.1, .int r.2.1, .ref l]) ∧ H l = some (.lst us) ∧ ListA RsnA H us r.2.2 bs ∧ as = l :: bs
/-! ### the right paper -/
noncomputable def leadsW : Str := "leads"
noncomputable def rareW : Str := "rare"
noncomputable def rsnF (many : Int) (bs : List Int) (least lot t : Int) : Rsn :=
  if countF bs (Builtin.bitOr lot (1 * 2 ^ t.toNat)) < least then (t, "rare", .inr (holdF bs (Builtin.bitOr lot (1 * 2 ^ t.toNat)))) else (t, "leads", .inl (closeF many bs (Builtin.bitOr lot (1 * 2 ^ t.toNat))))
noncomputable def prowF (many : Int) (bs : List Int) (least lot : Int) : PRow := (lot, countF bs lot, (lackF many lot).map (rsnF many bs least lot))
noncomputable def paperF (many : Int) (bs : List Int) (least : Int) : List PRow := (rowsF many bs least).map fun r => prowF many bs least r.1
noncomputable def rightB (many : Int) (bs : List Int) (least : Int) (r : PRow) : Bool := decide (oftenV many bs least r.1 = V.int r.1) && decide (r = prowF many bs least r.1)
noncomputable def leadsP (ks : List Int) (r : Rsn) : Bool := match r.2.2 with
  | .inl n => !(decide (r.2.1 = "leads") && !ks.any fun k => k == n)
  | .inr _ => true
noncomputable def noneB (many : Int) (bs : List Int) (least : Int) (P : List PRow) : Bool :=
  (decide (countF bs 0 < least) || (P.map Prod.fst).any fun k => k == closeF many bs 0) && P.all fun r => r.2.2.all (leadsP (P.map Prod.fst))
section
variable {many : Int} {bs : List Int} (hb : ∀ x ∈ bs, InB many x)
include hb
end
/-! ### a comprehension whose things have lists of their own -/
section
variable {K : PySem.W.Frag} {m : Nat} {js : List Nat} {g : TG} {c : TT} {te : TE} {σ : St} {H1 : Hp} {Q : VK} {α β : Type}
theorem compO_list {a : Addr} {xs : List V} {as : List α} {Re : V → α → Prop} (hx : SqL K H1 a xs) (hp : Paired Re xs as) (R : Hp → V → β → List Addr → Prop) (hR : ∀ H H' v x as, R H v x as → Kp as H H' → R H' v x as) (f : α → β) (hz : as.length ≤ 65000)
    (turn : ∀ x v H2, x ∈ as → Re v x → Same H1 H2 → ∀ (PUT : V → Hp → Prop) (SKIP : Hp → Prop), (∀ y H' bs, Same H2 H' → R H' y (f x) bs → bs.Nodup → (∀ b ∈ bs, H2 b = none) → PUT y H') →
      g v (pick m js σ) H2 fun σ2 H3 => Wk (pick m js σ) σ2 ∧ c σ2 H3 fun k H4 => if k = true then te σ2 H4 fun y H5 => PUT y H5 else SKIP H4)
    (hlive : ∀ H v x as, R H v x as → ∀ b ∈ as, H b ≠ none)
    (hQ : ∀ acc ys H' bs, H1 acc = none → Same H1 H' → H' acc = some (.lst ys) → ListA R H' ys (as.map f) bs → bs.Nodup → (∀ b ∈ bs, H1 b = none ∧ b ≠ acc) → Q (.ref acc) H') : tCompR m js g c te (Itl K a) σ H1 Q := by
  have hl := Paired.length hp
  refine comp_listG (xs := xs) (fun acc i ys H => ∃ bs, Same H1 H ∧ ListA R H ys ((as.take i).map f) bs ∧ bs.Nodup ∧ ∀ b ∈ bs, H1 b = none ∧ b ≠ acc ∧ H b ≠ none) (fun acc i ys H _ h => by obtain ⟨_, S, _⟩ := h; exact S.seq hx) (fun acc hacc => ⟨[], same_new hacc _, .nil, List.nodup_nil, fun b hb => nomatch hb⟩) (fun acc i v ys H hacc hi hv hy h => ?_) (fun acc ys H hacc hy h => ?_)
  · obtain ⟨bs, S, hL, hn, hb⟩ := h
    obtain ⟨x, hxa, hre⟩ := paired_take hp hv
    have hyl := hL.len
    rw [List.length_map, List.length_take] at hyl
    refine turn x v H (List.mem_of_getElem? hxa) hre S _ _ fun y H' cs S' hr hcn hcf => ?_
    have accH' := S' _ _ hy
    have ts : TSame H' (upd H' acc (.lst (ys ++ [y]))) := tsame_upd accH'
    have hca : ∀ b ∈ cs, b ≠ acc := fun b hb' e => by rw [← e, hcf b hb'] at hy; cases hy
    refine ⟨ys, accH', big5 (by omega), xs.length - (i + 1), by omega, rfl, hi, ys ++ [y], upd_same, bs ++ cs, fun b o e => ?_, ?_, ?_, fun b hb' => ?_⟩
    · rw [upd_ne (ne_of_none e hacc)]; exact S' _ _ (S _ _ e)
    · rw [take_at hxa, List.map_append]
      refine ListA.snoc ?_ (hR _ _ _ _ _ hr ⟨ts, fun b hb' o e => by rw [upd_ne (hca b hb')]; exact e⟩)
      exact (hL.kp hR (kp_of S' bs)).kp hR ⟨ts, fun b hb' o e => by rw [upd_ne (hb b hb').2.1]; exact e⟩
    · exact List.nodup_append.mpr ⟨hn, hcn, fun x1 h1 x2 h2 e => by subst e; exact (hb x1 h1).2.2 (hcf x1 h2)⟩
    · rcases List.mem_append.mp hb' with z | z
      · obtain ⟨h1, h2, h3⟩ := hb b z
        refine ⟨h1, h2, ?_⟩
        rw [upd_ne h2]
        cases e : H b with
        | none => exact absurd e h3
        | some o => rw [S' _ _ e]; exact fun z => nomatch z
      · refine ⟨S.free (hcf b z), hca b z, ?_⟩
        rw [upd_ne (hca b z)]
        exact hlive _ _ _ _ hr b z
  · obtain ⟨bs, S, hL, hn, hb⟩ := h
    rw [hl, List.take_length] at hL
    exact hQ acc ys H bs hacc S hy hL hn fun b hb' => ⟨(hb b hb').1, (hb b hb').2.1⟩
end
theorem ListA.live {α : Type} {R : Hp → V → α → List Addr → Prop} {H : Hp} (hR : ∀ v x as, R H v x as → ∀ b ∈ as, H b ≠ none) {vs : List V} {xs : List α} {as : List Addr} (h : ListA R H vs xs as) : ∀ b ∈ as, H b ≠ none := by
  induction h with
  | nil => exact fun b hb => nomatch hb
  | cons r _ ih =>
    intro b hb
    rcases List.mem_append.mp hb with z | z
    · exact hR _ _ _ r b z
    · exact ih b z
noncomputable def spReason (K : PySem.W.Frag) : Sp := fun vs H Q _ => ∃ (b : Addr) (many : Int) (bs : List Int) (least lot t : Int), vs = [.ref b, .int least, .int lot, .int t] ∧ Bk K H b many bs ∧ bs.length ≤ 500 ∧ 0 ≤ many ∧ many ≤ 12 ∧ 0 ≤ t ∧ t ≤ 60 ∧
  ∀ (v : V) (H' : Hp) (as : List Addr), Same H H' → RsnA H' v (rsnF many bs least lot t) as → as.Nodup → (∀ a ∈ as, H a = none) → Q v H'
noncomputable def spPRow (K : PySem.W.Frag) : Sp := fun vs H Q _ => ∃ (b : Addr) (many : Int) (bs : List Int) (least lot : Int), vs = [.ref b, .int least, .int lot] ∧ Bk K H b many bs ∧ bs.length ≤ 500 ∧ 0 ≤ many ∧ many ≤ 12 ∧
  ∀ (v : V) (H' : Hp) (as : List Addr), Same H H' → PRowA H' v (prowF many bs least lot) as → as.Nodup → (∀ a ∈ as, H a = none) → Q v H'
noncomputable def spCPaper (K : PySem.W.Frag) : Sp := fun vs H Q _ => ∃ (b : Addr) (many : Int) (bs : List Int) (least : Int), vs = [.ref b, .int least] ∧ Bk K H b many bs ∧ bs.length ≤ 500 ∧ 0 ≤ many ∧ many ≤ 12 ∧
  ∀ (p : Addr) (ys : List V) (H' : Hp) (as : List Addr), Same H H' → H p = none → H' p = some (.lst ys) → ListA PRowA H' ys (paperF many bs least) as → as.Nodup → (∀ a ∈ as, H a = none ∧ a ≠ p) → Q (.ref p) H'
noncomputable def spRowR (K : PySem.W.Frag) : Sp := fun vs H Q _ => ∃ (b : Addr) (many : Int) (bs : List Int) (least : Int) (v : V) (r : PRow) (as : List Addr), vs = [.ref b, .int least, v] ∧ Bk K H b many bs ∧ bs.length ≤ 500 ∧ 0 ≤ many ∧ many ≤ 12 ∧ PRowA H v r as ∧ PRowOk r ∧
  ∀ (H' : Hp), Same H H' → Q (.bl (rightB many bs least r)) H'
noncomputable def spNoneM (K : PySem.W.Frag) : Sp := fun vs H Q _ => ∃ (b p : Addr) (many : Int) (bs : List Int) (least : Int) (ys : List V) (P : List PRow) (as : List Addr), vs = [.ref b, .int least, .ref p] ∧ Bk K H b many bs ∧ bs.length ≤ 500 ∧ 0 ≤ many ∧ many ≤ 12 ∧ H p = some (.lst ys) ∧ ListA PRowA H ys P as ∧ P.length ≤ 60000 ∧ (∀ r ∈ P, r = prowF many bs least r.1) ∧
  ∀ (H' : Hp), Same H H' → Q (.bl (noneB many bs least P)) H'
noncomputable def spCHolds (K : PySem.W.Frag) : Sp := fun vs H Q _ => ∃ (b p : Addr) (many : Int) (bs : List Int) (least : Int) (ys : List V) (P : List PRow) (as : List Addr), vs = [.ref b, .int least, .ref p] ∧ Bk K H b many bs ∧ bs.length ≤ 500 ∧ 0 ≤ many ∧ many ≤ 12 ∧ (∀ x ∈ bs, InB many x) ∧ H p = some (.lst ys) ∧ ListA PRowA H ys P as ∧ P.length ≤ 60000 ∧ (∀ r ∈ P, PRowOk r) ∧
  ∀ (H' : Hp), Same H H' → Q (.bl (decide (P = paperF many bs least))) H'
noncomputable def spReasons (K : PySem.W.Frag) : Sp := fun vs H Q _ => ∃ (b : Addr) (many : Int) (bs : List Int) (least lot : Int), vs = [.ref b, .int least, .int lot] ∧ Bk K H b many bs ∧ bs.length ≤ 500 ∧ 0 ≤ many ∧ many ≤ 12 ∧ (∀ x ∈ bs, InB many x) ∧ 0 ≤ lot ∧
  ∀ (r : Addr) (us : List V) (H' : Hp) (as : List Addr), Same H H' → H r = none → H' r = some (.lst us) → ListA RsnA H' us ((lackF many lot).map (rsnF many bs least lot)) as → (∀ a ∈ as, H a = none ∧ a ≠ r) → Q (.ref r) H'
end OL

namespace L2
open PySem PySem.Spec PyProof.Rows
open Builtin.Int (intBits)
section
variable {X : Cx}
/-! ### big numbers -/
noncomputable def CMulW (i j : Int) : Prop := ∃ a b : Nat, intBits i ≤ a ∧ intBits j ≤ b ∧ a + b ≤ 134217728
noncomputable def CDivW (_ j : Int) : Prop := 0 < j ∧ intBits j ≤ 9000
end
section
variable {K : PySem.W.Frag} {m : Nat} {js : List Nat} {g : TG} {c : TT} {te : TE} {σ : St} {H1 : Hp} {Q : VK}
end
end L2
namespace OL
open PySem L2
open Builtin.Int (intBits)
/-! ### what can be shown by str, with big numbers in it -/
structure ShB (d : PyData) (n k : Nat) : Prop where
  show' : d.showable = true
  nodict : d.hasDict = false
  short : d.leavesShort 800 = true
  bulk : d.bulk ≤ n
  depth : d.depth ≤ k
  lay : d.canLay0 = true
structure ShBAll (ds : List PyData) (n k : Nat) : Prop where
  show' : PyData.showableAll ds = true
  nodict : PyData.hasDictAll ds = false
  short : PyData.leavesShortAll 800 ds = true
  bulk : PyData.bulkAll ds ≤ n
  depth : PyData.depthAll ds ≤ k
  lay : PyData.canLayAll0 ds = true
theorem ShB.int {i : Int} (h : intBits i ≤ 799) : ShB (.int i) 0 0 := by
  have h := intBits_le_iff.mp h
  refine ⟨?_, rfl, ?_, Nat.le_refl _, Nat.le_refl _, rfl⟩
  · show decide (i.natAbs.log2 < 1920) = true
    refine decide_eq_true ?_
    by_cases e : i.natAbs = 0
    · rw [e]; decide
    · rw [Nat.log2_lt e]
      exact Nat.lt_of_lt_of_le h (Nat.pow_le_pow_right (by decide) (by decide))
  · show decide ((PyData.int i).shown.length ≤ 800) = true
    have e := int_text_length_le10 (k := 799) (by decide) (Nat.lt_of_lt_of_le h (Nat.pow_le_pow_left (by decide) _))
    refine decide_eq_true ?_
    show (Str.ofString (toString i)).length ≤ 800
    rw [ofString_length]; exact e
theorem ShBAll.nil : ShBAll [] 0 0 := ⟨rfl, rfl, rfl, Nat.le_refl _, Nat.le_refl _, rfl⟩
theorem ShBAll.cons {d : PyData} {ds : List PyData} {n m k j : Nat} (h : ShB d n k) (t : ShBAll ds m j) : ShBAll (d :: ds) (n + 1 + m) (max k j) := by
  refine ⟨?_, ?_, ?_, ?_, ?_, ?_⟩
  · show (d.showable && PyData.showableAll ds) = true
    rw [h.show', t.show']; rfl
  · show (d.hasDict || PyData.hasDictAll ds) = false
    rw [h.nodict, t.nodict]; rfl
  · show (d.leavesShort 800 && PyData.leavesShortAll 800 ds) = true
    rw [h.short, t.short]; rfl
  · show d.bulk + 1 + PyData.bulkAll ds ≤ _
    have := h.bulk; have := t.bulk; omega
  · show max d.depth (PyData.depthAll ds) ≤ _
    have := h.depth; have := t.depth; omega
  · show (d.canLay0 && PyData.canLayAll0 ds) = true
    rw [h.lay, t.lay]; rfl
theorem ShB.list {ds : List PyData} {n k : Nat} (h : ShBAll ds n k) : ShB (.list ds) n (k + 1) := by
  refine ⟨h.show', h.nodict, h.short, h.bulk, ?_, h.lay⟩
  show PyData.depthAll ds + 1 ≤ _
  have := h.depth; omega
theorem ShB.tuple {ds : List PyData} {n k : Nat} (h : ShBAll ds n k) : ShB (.tuple ds) n (k + 1) := by
  refine ⟨h.show', h.nodict, h.short, h.bulk, ?_, h.lay⟩
  show PyData.depthAll ds + 1 ≤ _
  have := h.depth; omega
theorem ShB.mono {d : PyData} {n k n' k' : Nat} (h : ShB d n k) (h1 : n ≤ n') (h2 : k ≤ k') : ShB d n' k' := ⟨h.show', h.nodict, h.short, Nat.le_trans h.bulk h1, Nat.le_trans h.depth h2, h.lay⟩
theorem ShBAll.map {α : Type} {f : α → PyData} {n k : Nat} : ∀ {as : List α}, (∀ x ∈ as, ShB (f x) n k) → ShBAll (as.map f) ((n + 1) * as.length) k
  | [], _ => ⟨rfl, rfl, rfl, Nat.zero_le _, Nat.zero_le _, rfl⟩
  | a :: as, h => by
    have t := ShBAll.map (as := as) fun x hx => h x (.tail _ hx)
    have c := ShBAll.cons (h a (.head _)) t
    refine ⟨c.show', c.nodict, c.short, Nat.le_trans c.bulk ?_, Nat.le_trans c.depth (by omega), c.lay⟩
    rw [List.length_cons, Nat.mul_succ]; omega
theorem ShB.shaped {d : PyData} {n k : Nat} (h : ShB d n k) (hk : k ≤ 60) : PySem.SeqAt.shaped d = true := by
  unfold PySem.SeqAt.shaped
  rw [h.lay, Bool.true_and]
  exact decide_eq_true (by have := h.depth; omega)
section
variable {K : PySem.W.Frag} {m : Nat} {js : List Nat} {g : TG} {c : TT} {te : TE} {σ : St} {H1 : Hp} {Q : VK}
end
end OL

namespace Tim
open PySem PyProof.Rows PySem.W
section
variable {prog : Program} {w : World} {A : Around} {E : Value → Shared → Prop} {s : Shared}
/-! ### tuples told apart by whole numbers at their head -/
open Classical in
@[reducible] noncomputable def preK (vs : List Value) (f : Value → List Int) : KeyKind where
  α := List Int
  blt a b := decide (a < b)
  irrefl a := by simpa using List.lt_irrefl a
  trans a b c h1 h2 := by simp only [decide_eq_true_eq] at *; exact List.lt_trans h1 h2
  negTrans a b c h := by
    simp only [decide_eq_true_eq] at *
    by_cases hab : a < b
    · exact .inl hab
    · exact .inr (List.lt_of_le_of_lt (List.not_lt.mp hab) h)
  total a b h1 h2 := by simp only [decide_eq_false_iff_not] at *; exact List.le_antisymm (List.not_lt.mp h2) (List.not_lt.mp h1)
  keyOf v := if v ∈ vs then some (f v) else none
  dflt := []
end
end Tim

namespace L2
open PySem PySem.Spec PyProof.Rows
section
variable {X : Cx}
/-! ### sorted of tuples told apart by the whole numbers at their head -/
noncomputable def itemsOf (h : Heap) : Value → List Value
  | .ref a => match h.get? a with
    | some o => match o.data with
      | .seq xs _ => xs.toList
      | _ => []
    | none => []
  | _ => []
noncomputable def TupP (K : PySem.W.Frag) {α : Type} (key : α → List Int) (H : Hp) (x : V) (r : α) : Prop := ∃ p rest, x = .ref p ∧ SqT K H p ((key r).map V.int ++ rest)
noncomputable def rSortP (K : PySem.W.Frag) {α : Type} (key : α → List Int) (R : Hp → V → α → Prop) : List V → Hp → VK → Prop := fun xs H Q => ∃ (p : Addr) (ys : List V) (rs : List α) (m : Nat), xs = [.ref p] ∧ SqL K H p ys ∧ Paired (R H) ys rs ∧ (∀ r ∈ rs, (key r).length = m + 1) ∧ (rs.map key).Nodup ∧
  ∀ (l : Addr) (zs : List V) (rs' : List α), H l = none → rs'.Perm rs → rs'.Pairwise (fun a b => ¬ key b < key a) → Paired (R H) zs rs' → Q (.ref l) (upd H l (.lst zs))
end
end L2

namespace Tim
open PySem PyProof.Rows PySem.W
open PySem.AutoSeq1 (wpAny_loadPart')
open PySem.MeetsSeq PySem.MeetsSeq2 PySem.MeetsSeq3 PySem.SeqAt
end Tim

namespace Tim
open PySem PyProof.Rows PySem.W
/-- what sorting asks of the state and the place it is done in -/
structure SortsA (prog : Program) (w : World) (A : Around) (s : Shared) (κ : KeyKind) (kd : SortKind) (vs : List Value) : Prop where
  cmp : CmpOk prog w A s κ kd
  kind : 2 ≤ vs.length → ∀ (A : Around) (E : Value → Shared → Prop) (Q : SortKind → Shared → Prop), Q kd s → wpAny (model prog w) A (keyKind' vs.toArray) Q E s
  keys : ∀ v ∈ vs, ∃ a, κ.keyOf v = some a
section
variable {prog : Program} {w : World} {A : Around} {E : Value → Shared → Prop} {s : Shared}
/-! ### whole numbers -/
end
end Tim

namespace Tim
open PySem PyProof.Rows PySem.W PySem.SeqAt
section
variable {prog : Program} {w : World} {A : Around} {E : Value → Shared → Prop} {s : Shared}
/-! ### tuples of a whole number and a list of whole numbers -/
end
end Tim

namespace L2
open PySem PySem.Spec PyProof.Rows
section
variable {X : Cx}
/-! ### sorted of tuples of a whole number and a list of whole numbers -/
noncomputable def RowM (H : Hp) (x : V) (r : Int × List Int) : Prop := ∃ p l, x = .ref p ∧ H p = some (.tup [.int r.1, .ref l]) ∧ H l = some (.lst (r.2.map V.int))
noncomputable def key5 (r : Int × List Int) : List Int := r.1 :: r.2
noncomputable def rSortM (K : PySem.W.Frag) : List V → Hp → VK → Prop := fun xs H Q => ∃ (p : Addr) (ys : List V) (rs : List (Int × List Int)), xs = [.ref p] ∧ SqL K H p ys ∧ Paired (RowM H) ys rs ∧
  ∀ (l : Addr) (zs : List V) (rs' : List (Int × List Int)), H l = none → rs'.Perm rs → rs'.Pairwise (fun a b => ¬ key5 b < key5 a) → Paired (RowM H) zs rs' → Q (.ref l) (upd H l (.lst zs))
noncomputable def keyM (h : Heap) (v : Value) : List Int := match itemsOf h v with
  | [x, y] => numOf x :: (itemsOf h y).map numOf
  | _ => []
end
end L2

namespace Tim
open PySem PyProof.Rows PySem.W PySem.SeqAt
section
variable {prog : Program} {w : World} {A : Around} {E : Value → Shared → Prop} {s : Shared}
/-! ### lists of whole numbers held against each other by a sort that knows them all to be lists -/
end
end Tim

namespace L2
open PySem PySem.Spec PyProof.Rows
section
variable {X : Cx}
/-! ### sorted of tuples with a list of whole numbers at their head, all unlike -/
noncomputable def RowRL (H : Hp) (x : V) (r : List Int × Int) : Prop := ∃ p l, x = .ref p ∧ H p = some (.tup [.ref l, .int r.2]) ∧ H l = some (.lst (r.1.map V.int))
noncomputable def key6 (r : List Int × Int) : List Int := r.1
noncomputable def rSortRL (K : PySem.W.Frag) : List V → Hp → VK → Prop := fun xs H Q => ∃ (p : Addr) (ys : List V) (rs : List (List Int × Int)), xs = [.ref p] ∧ SqL K H p ys ∧ Paired (RowRL H) ys rs ∧ (rs.map key6).Nodup ∧
  ∀ (l : Addr) (zs : List V) (rs' : List (List Int × Int)), H l = none → rs'.Perm rs → rs'.Pairwise (fun a b => ¬ key6 b < key6 a) → Paired (RowRL H) zs rs' → Q (.ref l) (upd H l (.lst zs))
noncomputable def keyRL (h : Heap) (v : Value) : List Int := match itemsOf h v with
  | y :: _ => (itemsOf h y).map numOf
  | _ => []
/-! ### sorted of lists of whole numbers -/
noncomputable def LstI (H : Hp) (x : V) (r : List Int) : Prop := ∃ l, x = .ref l ∧ H l = some (.lst (r.map V.int))
noncomputable def rSortLI (K : PySem.W.Frag) : List V → Hp → VK → Prop := fun xs H Q => ∃ (p : Addr) (ys : List V) (rs : List (List Int)), xs = [.ref p] ∧ SqL K H p ys ∧ Paired (LstI H) ys rs ∧
  ∀ (l : Addr) (zs : List V) (rs' : List (List Int)), H l = none → rs'.Perm rs → rs'.Pairwise (fun a b => ¬ b < a) → Paired (LstI H) zs rs' → Q (.ref l) (upd H l (.lst zs))
end
end L2

/-! rows over days: fits, counts, growing (k43 to k49) -/
namespace OL
open PySem L2
open Builtin.Int (intBits)
noncomputable def subB : List Int → List Int → Bool
  | _, [] => true
  | [], _ :: _ => false
  | v :: vs, l :: ls => if hasF v l then subB vs ls else subB vs (l :: ls)
noncomputable def fpN (vs row : List Int) : Nat → List Int
  | 0 => []
  | n + 1 => if (fpN vs row n).length < row.length ∧ hasF (vs.getD n 0) (row.getD (fpN vs row n).length 0) = true then fpN vs row n ++ [(n : Int)] else fpN vs row n
noncomputable def fpF (vs row : List Int) : List Int := fpN vs row vs.length
/-- counts -/
noncomputable def rcF (B : List (List Int)) (row : List Int) : Int := (((B.filter fun b => subB b row).length : Nat) : Int)
noncomputable def buyN (B : List (List Int)) (row : List Int) (n : Nat) : List Int := ((List.range n).filter fun i => subB (B.getD i []) row).map fun (i : Nat) => (i : Int)
noncomputable def buyersF (B : List (List Int)) (row : List Int) : List Int := buyN B row B.length
/-- rows, weights, growing -/
noncomputable def VR (m : Nat) (row : List Int) : Prop := ∀ l ∈ row, 0 < l ∧ l < 2 ^ m
noncomputable def wtR (row : List Int) : Nat := (row.map fun l => popc l.toNat).sum
/-- a lot without its greatest thing -/
noncomputable def cutT (x : Int) : Int := x - 2 ^ x.toNat.log2
noncomputable def lesR (row : List Int) : List Int := match row.getLast? with
  | none => []
  | some x => if cutT x = 0 then row.dropLast else row.dropLast ++ [cutT x]
noncomputable def growF (m : Nat) (row : List Int) : List (List Int) := ((List.range m).map fun (t : Nat) => row ++ [(2 : Int) ^ t]) ++ match row.getLast? with
  | none => []
  | some x => (List.range (m - intBits x)).map fun (i : Nat) => row.dropLast ++ [x + 2 ^ (intBits x + i)]
/-- the row lists of a weight, in order -/
structure IsS (m w : Nat) (rows : List (List Int)) : Prop where
  nd : rows.Nodup
  mem : ∀ r, r ∈ rows ↔ VR m r ∧ wtR r = w
  ord : rows.Pairwise fun a b => ¬ b < a
noncomputable def lvlR (m : Nat) : Nat → List (List Int)
  | 0 => [[]]
  | n + 1 => (lvlR m n).flatMap (growF m)
noncomputable def srt (m w : Nat) : List (List Int) := (lvlR m w).mergeSort fun a b => decide (¬ b < a)
end OL

/-! rows over days: levels, what stands on the heap, promises (k44, k46) -/
namespace OL
open PySem L2
/-- plain data: can be laid, not deep, alike to itself -/
noncomputable def PlD (n : Nat) (d : PyData) : Prop := PyData.canLay0 d = true ∧ PyData.depth d ≤ n ∧ PyData.eqv d d = true
noncomputable def dL (b : List Int) : PyData := .list (b.map PyData.int)
noncomputable def dHs (many : Int) (B : List (List Int)) : PyData := .tuple [.int many, .list (B.map dL)]
noncomputable def dRL (r : List Int × Int) : PyData := .tuple [dL r.1, .int r.2]
/-- lists of lists, new ones -/
noncomputable def LstN (H0 H : Hp) (x : V) (r : List Int) : Prop := ∃ l, x = .ref l ∧ H0 l = none ∧ H l = some (.lst (r.map V.int))
noncomputable def RowN (H0 H : Hp) (x : V) (r : List Int × Int) : Prop := ∃ p l, x = .ref p ∧ H0 l = none ∧ H p = some (.tup [.ref l, .int r.2]) ∧ H l = some (.lst (r.1.map V.int))
/-- a history -/
noncomputable def Hs (H : Hp) (h : Addr) (many : Int) (B : List (List Int)) : Prop := ∃ l us, H h = some (.tup [.int many, .ref l]) ∧ H l = some (.lst us) ∧ Paired (LstI H) us B
noncomputable def BOk (many : Int) (B : List (List Int)) : Prop := B.length ≤ 10 ∧ ∀ b ∈ B, b.length ≤ 10 ∧ ∀ v ∈ b, 0 ≤ v ∧ v < 2 ^ many.toNat
/-- the often ones of a list of rows -/
noncomputable def oaF (B : List (List Int)) (least : Int) (rows : List (List Int)) : List (List Int × Int) := (rows.filter fun r => decide (rcF B r ≥ least)).map fun r => (r, rcF B r)
noncomputable def levW (m : Nat) (B : List (List Int)) (least : Int) (w : Nat) : List (List Int × Int) := oaF B least (srt m w)
noncomputable def tldF (m : Nat) (B : List (List Int)) (least : Int) (n : Nat) : List (List Int × Int) := (List.range (n + 1)).flatMap (levW m B least)
/-! promises -/
noncomputable def spFP (K : PySem.W.Frag) : Sp := fun vs H Q _ => ∃ (v r : Addr) (xs row : List Int), vs = [.ref v, .ref r] ∧ SqL K H v (xs.map V.int) ∧ SqL K H r (row.map V.int) ∧ xs.length ≤ 1000 ∧ ∀ (p : Addr) (H' : Hp), Same H H' → H p = none → H' p = some (.lst ((fpF xs row).map V.int)) → Q (.ref p) H'
noncomputable def fitF (xs row : List Int) : Option (List Int) := if (fpF xs row).length < row.length then none else some (fpF xs row)
noncomputable def OptL (H H' : Hp) (u : V) : Option (List Int) → Prop
  | none => u = .non
  | some ns => ∃ p, u = .ref p ∧ H p = none ∧ H' p = some (.lst (ns.map V.int))
noncomputable def spFF (K : PySem.W.Frag) : Sp := fun vs H Q _ => ∃ (v r : Addr) (xs row : List Int), vs = [.ref v, .ref r] ∧ SqL K H v (xs.map V.int) ∧ SqL K H r (row.map V.int) ∧ xs.length ≤ 1000 ∧ ∀ (u : V) (H' : Hp), Same H H' → OptL H H' u (fitF xs row) → Q u H'
noncomputable def spLies (K : PySem.W.Frag) : Sp := fun vs H Q _ => ∃ (v r : Addr) (xs row : List Int), vs = [.ref r, .ref v] ∧ SqL K H v (xs.map V.int) ∧ SqL K H r (row.map V.int) ∧ xs.length ≤ 1000 ∧ ∀ (H' : Hp), Same H H' → Q (.bl (subB xs row)) H'
noncomputable def spBuyers (K : PySem.W.Frag) : Sp := fun vs H Q _ => ∃ (h r : Addr) (many : Int) (B : List (List Int)) (row : List Int), vs = [.ref h, .ref r] ∧ Hs H h many B ∧ BOk many B ∧ SqL K H r (row.map V.int) ∧ ∀ (p : Addr) (H' : Hp), Same H H' → H p = none → H' p = some (.lst ((buyersF B row).map V.int)) → Q (.ref p) H'
noncomputable def spRC (K : PySem.W.Frag) : Sp := fun vs H Q _ => ∃ (h r : Addr) (many : Int) (B : List (List Int)) (row : List Int), vs = [.ref h, .ref r] ∧ Hs H h many B ∧ BOk many B ∧ SqL K H r (row.map V.int) ∧ ∀ (H' : Hp), Same H H' → Q (.int (rcF B row)) H'
noncomputable def spOA : Sp := fun vs H Q _ => ∃ (h l : Addr) (many least : Int) (B : List (List Int)) (us : List V) (rows : List (List Int)) (H0 : Hp), vs = [.ref h, .int least, .ref l] ∧ Hs H h many B ∧ BOk many B ∧ H l = some (.lst us) ∧ Paired (LstN H0 H) us rows ∧ rows.length ≤ 5000 ∧
  ∀ (t : Addr) (zs : List V) (H' : Hp), Same H H' → H t = none → H' t = some (.lst zs) → Paired (RowN H0 H') zs (oaF B least rows) → Q (.ref t) H'
noncomputable def spGF : Sp := fun vs H Q _ => ∃ (r : Addr) (many : Int) (row : List Int), vs = [.int many, .ref r] ∧ H r = some (.lst (row.map V.int)) ∧ 0 ≤ many ∧ many ≤ 12 ∧ VR many.toNat row ∧ row.length ≤ 10 ∧
  ∀ (t : Addr) (zs : List V) (H' : Hp), Same H H' → H t = none → H' t = some (.lst zs) → Paired (LstN H H') zs (growF many.toNat row) → Q (.ref t) H'
noncomputable def spGR : Sp := fun vs H Q _ => ∃ (l : Addr) (many : Int) (us : List V) (rs : List (List Int × Int)), vs = [.int many, .ref l] ∧ H l = some (.lst us) ∧ Paired (RowRL H) us rs ∧ 0 ≤ many ∧ many ≤ 12 ∧ (∀ r ∈ rs, VR many.toNat r.1 ∧ r.1.length ≤ 10) ∧ rs.length ≤ 4096 ∧
  ∀ (t : Addr) (zs : List V) (rows : List (List Int)) (H' : Hp), Same H H' → H t = none → H' t = some (.lst zs) → Paired (LstN H H') zs rows → rows.Perm ((rs.map Prod.fst).flatMap (growF many.toNat)) → (rows.Pairwise fun a b => ¬ b < a) → Q (.ref t) H'
noncomputable def spOR : Sp := fun vs H Q _ => ∃ (h : Addr) (many least most : Int) (B : List (List Int)), vs = [.ref h, .int least, .int most] ∧ Hs H h many B ∧ BOk many B ∧ 1 ≤ many ∧ many ≤ 12 ∧ 0 ≤ most ∧ most ≤ 6 ∧ (2 * many.toNat) ^ most.toNat ≤ 4096 ∧
  ∀ (t : Addr) (zs : List V) (H' : Hp), Same H H' → H t = none → H' t = some (.lst zs) → Paired (RowN H H') zs (tldF many.toNat B least most.toNat) → Q (.ref t) H'
end OL

namespace L2
open PySem PySem.Spec PyProof.Rows
section
variable {X : Cx}
/-- the same, with whatever is known of each of them -/
noncomputable def rSortLR (K : PySem.W.Frag) : List V → Hp → VK → Prop := fun xs H Q => ∃ (R : V → List Int → Prop) (p : Addr) (ys : List V) (rs : List (List Int)), xs = [.ref p] ∧ SqL K H p ys ∧ (∀ x r, R x r → LstI H x r) ∧ Paired R ys rs ∧
  ∀ (l : Addr) (zs : List V) (rs' : List (List Int)), H l = none → rs'.Perm rs → rs'.Pairwise (fun a b => ¬ b < a) → Paired R zs rs' → Q (.ref l) (upd H l (.lst zs))
end
end L2

/-! comprehensions that come to new lists -/
namespace OL
open PySem L2
section
variable {K : PySem.W.Frag} {m : Nat} {js : List Nat} {g : TG} {c : TT} {te : TE} {σ : St} {H1 : Hp} {Q : VK} {α : Type}
/-- a new list that is not the one that gathers -/
noncomputable def LstG (H1 : Hp) (acc : Addr) (H : Hp) (y : V) (r : List Int) : Prop := ∃ l, y = .ref l ∧ l ≠ acc ∧ H1 l = none ∧ H l = some (.lst (r.map V.int))
/-- tuples of a list and a number, the list there ahead or new -/
noncomputable def RowG (H0 : Hp) (acc : Addr) (H : Hp) (y : V) (r : List Int × Int) : Prop := ∃ p l, y = .ref p ∧ l ≠ acc ∧ H0 l = none ∧ H p = some (.tup [.ref l, .int r.2]) ∧ H l = some (.lst (r.1.map V.int))
/-- what a turn comes to by a look at its value -/
theorem turn_is {js : List Nat} {c : TT} {te : TE} {σ : St} {v : V} {H2 : Hp} {b : Bool} {R : Hp → V → Prop} (hc : LookT c ((pick 1 js σ).set 0 (some v)) H2 b) (he : b = true → ∀ H3, Same H2 H3 → ∀ Q : VK, (∀ y H', Same H2 H' → R H' y → Q y H') → te ((pick 1 js σ).set 0 (some v)) H3 Q) : CTurn 1 js (gName 0) c te σ v H2 b R := by
  intro PUT SKIP h1 h2
  refine ⟨(Wk.refl _).set (by decide), hc _ fun H3 S3 => ?_⟩
  cases b with
  | true => exact iteT (he rfl H3 S3 _ fun y H' S r => h1 rfl _ _ S r)
  | false => exact iteF (h2 rfl _ S3)
end
end OL

/-! parting papers -/
namespace OL
open PySem L2
noncomputable abbrev QRow := Int × Int × List Int × List Int
noncomputable abbrev Lead := Str × Int
noncomputable def hd0 (bs : List Int) (lot : Int) : Int := (holdF bs lot).getD 0 0
noncomputable def rowQ (as bs : List Int) (lot : Int) : QRow := (lot, hd0 as lot, bs.map (fun b => markF b lot), (fewF lot).map (hd0 bs))
noncomputable def leadF (T bs : List Int) (b : Int) : Lead := match T.findIdx? (fun t => hasF b t) with
  | some i => ("by", (i : Int))
  | none => ("in", hd0 bs b)
noncomputable def placeB (bs : List Int) (p lot : Int) : Bool := decide (0 ≤ p) && decide (p < (bs.length : Int)) && hasF (bs.getD p.toNat 0) lot
noncomputable def backsB (bs : List Int) (lot : Int) (ps : List Int) : Bool := decide (ps.length = (fewF lot).length) && ((fewF lot).zip ps).all fun x => placeB bs x.2 x.1
noncomputable def rowQB (as bs : List Int) (r : QRow) : Bool := placeB as r.2.1 r.1 && (!(r.2.2.1.any fun m => m == -1) && (marksB bs r.1 r.2.2.1 && backsB bs r.1 r.2.2.2))
noncomputable def leadQB (rows : List QRow) (bs : List Int) (b : Int) (l : Lead) : Bool := if l.1 = "by" then decide (0 ≤ l.2) && decide (l.2 < (rows.length : Int)) && hasF b (rows.getD l.2.toNat (0, 0, [], [])).1 else decide (l.1 = "in") && placeB bs l.2 b
noncomputable def holdsQ (many : Int) (as bs : List Int) (rows : List QRow) (leads : List Lead) : Bool := riseB many (rows.map Prod.fst) && decide (leads.length = as.length) && (rows.all (rowQB as bs) && (as.zip leads).all fun x => leadQB rows bs x.1 x.2)
/-! things, two ways -/
theorem upto_rise (p : Int → Bool) (n : Nat) : (upto p n).Pairwise (· < ·) := by
  unfold upto
  refine List.pairwise_map.mpr (List.Pairwise.imp (fun {a b : Nat} (z : a < b) => ?_) (List.pairwise_lt_range.filter _))
  show (a : Int) < (b : Int)
  omega
theorem upto_iff {p : Int → Bool} {n : Nat} {x : Int} : x ∈ upto p n ↔ ∃ i : Nat, i < n ∧ x = (i : Int) ∧ p x = true := by
  constructor
  · exact upto_mem
  · rintro ⟨i, h1, rfl, h2⟩
    exact List.mem_map.mpr ⟨i, List.mem_filter.mpr ⟨List.mem_range.mpr h1, h2⟩, rfl⟩
theorem th12_eq {n : Nat} (h : n < 4096) : th12 n = thingsF (n : Int) := by
  refine rise_ext (upto_rise _ _) (upto_rise _ _) fun x => ?_
  show x ∈ th12 n ↔ x ∈ thingsF (n : Int)
  rw [mem_thingsF (Int.natCast_nonneg n)]
  unfold th12
  rw [upto_iff]
  constructor
  · rintro ⟨i, h1, rfl, h2⟩
    exact ⟨i, by unfold Th; rw [Int.toNat_natCast]; exact (b12_iff n i).mp h2, rfl⟩
  · rintro ⟨t, h1, rfl⟩
    unfold Th at h1
    rw [Int.toNat_natCast] at h1
    refine ⟨t, ?_, rfl, (b12_iff n t).mpr h1⟩
    refine Nat.lt_of_not_le fun hz => ?_
    have := Nat.testBit_lt_two_pow (x := n) (i := t) (Nat.lt_of_lt_of_le (show n < 2 ^ 12 by omega) (Nat.pow_le_pow_right (by decide) hz))
    rw [this] at h1; cases h1
theorem hold_ne {bs : List Int} {lot : Int} (h : 0 < countF bs lot) : holdF bs lot ≠ [] := fun e => by
  unfold countF at h
  rw [e] at h
  exact absurd h (by decide)
theorem hold_at {bs : List Int} {lot : Int} (h : 0 < countF bs lot) : atI ((holdF bs lot).map V.int) 0 = some (.int (hd0 bs lot)) := by
  obtain ⟨x, xs, e⟩ := List.exists_cons_of_ne_nil (hold_ne h)
  unfold hd0
  rw [e]
  exact atI_zero
/-! the told paper is right -/
section
variable {many : Int} {as bs T : List Int} (ha : ∀ x ∈ as, InB many x) (hb : ∀ x ∈ bs, InB many x) (hT : LeastOf (partL many as bs) T)
include ha hb hT
theorem partT_in {t : Int} (ht : t ∈ T) : InB many t ∧ 0 < countF as t ∧ countF bs t = 0 := by
  obtain ⟨h1, h2⟩ := mem_partL.mp (hT.sub ht)
  unfold partsB at h2
  obtain ⟨h3, h4⟩ := Bool.and_eq_true_iff.mp h2
  exact ⟨h1, of_decide_eq_true h3, of_decide_eq_true h4⟩
theorem part_few {t : Int} (ht : t ∈ T) {f : Int} (hf : f ∈ fewF t) : 0 < countF bs f := by
  obtain ⟨tI, t1, t2⟩ := partT_in ha hb hT ht
  obtain ⟨fI, hh, hlt⟩ := few_sub tI hf
  have h1 := count_mono ha fI.1 tI.1 hh
  have h0 : 0 ≤ countF bs f := by unfold countF; exact Int.natCast_nonneg _
  refine Classical.byContradiction fun hz => ?_
  have hp : f ∈ partL many as bs := mem_partL.mpr ⟨fI, by unfold partsB; rw [decide_eq_true (show 0 < countF as f by omega), decide_eq_true (show countF bs f = 0 by omega)]; rfl⟩
  have := ((hT.mem t).mp ht).2 f hp hh
  omega
theorem part_lead {b : Int} (hm : b ∈ as) : (∃ t ∈ T, hasF b t = true) ∨ 0 < countF bs b := by
  have h0 : 0 ≤ countF bs b := by unfold countF; exact Int.natCast_nonneg _
  by_cases c : countF bs b = 0
  · refine .inl ?_
    have h1 : 0 < countF as b := count_pos.mpr ⟨b, hm, has_self b (ha b hm).1⟩
    exact hT.below b (mem_partL.mpr ⟨ha b hm, by unfold partsB; rw [decide_eq_true h1, decide_eq_true c]; rfl⟩)
  · exact .inr (by omega)
end
/-! as the law looks at it -/
noncomputable def bitI (b m : Int) : Bool := Builtin.bitAnd (b / 2 ^ m.toNat) 1 == 1
noncomputable def marksL (bs : List Int) (lot : Int) (ms : List Int) : Bool := decide (ms.length = bs.length) && (bs.zip ms).all fun x => (thingsF lot).any (fun t => t == x.2) && !bitI x.1 x.2
theorem bitI_iff {b : Int} (h : 0 ≤ b) (t : Nat) : bitI b (t : Int) = true ↔ Th b t := by
  have : b = ((b.toNat : Nat) : Int) := by omega
  unfold Th bitI
  rw [Int.toNat_natCast]
  have h2 := b12_iff b.toNat t
  unfold b12 at h2
  rw [← this, Int.toNat_natCast] at h2
  exact h2
theorem mark_two {b lot m : Int} (hb : 0 ≤ b) (hl : 0 ≤ lot) : ((thingsF lot).any (fun t => t == m) && !bitI b m) = (!(m == -1) && markB b lot m) := by
  rw [Bool.eq_iff_iff, Bool.and_eq_true, Bool.and_eq_true, List.any_eq_true]
  constructor
  · rintro ⟨⟨t, ht, e⟩, h2⟩
    have e := beq_iff_eq.mp e
    subst e
    obtain ⟨n, h1, rfl⟩ := (mem_thingsF hl).mp ht
    have hne : ((n : Int) == -1) = false := by rw [beq_eq_false_iff_ne]; omega
    refine ⟨by rw [hne]; rfl, ?_⟩
    unfold markB
    rw [if_neg (by omega), List.any_eq_true]
    refine ⟨(n : Int), (mem_lackM hl hb).mpr ⟨n, h1, fun z => ?_, rfl⟩, beq_iff_eq.mpr rfl⟩
    rw [(bitI_iff hb n).mpr z] at h2; cases h2
  · rintro ⟨h1, h2⟩
    have h1 : m ≠ -1 := by simpa using h1
    unfold markB at h2
    rw [if_neg h1, List.any_eq_true] at h2
    obtain ⟨t, ht, e⟩ := h2
    have e := beq_iff_eq.mp e
    subst e
    obtain ⟨n, h3, h4, rfl⟩ := (mem_lackM hl hb).mp ht
    refine ⟨⟨_, (mem_thingsF hl).mpr ⟨n, h3, rfl⟩, beq_iff_eq.mpr rfl⟩, ?_⟩
    rw [Bool.not_eq_true', Bool.eq_false_iff]
    exact fun z => h4 ((bitI_iff hb n).mp z)
theorem marks_two {lot : Int} (hl : 0 ≤ lot) : ∀ {bs ms : List Int}, (∀ b ∈ bs, 0 ≤ b) → ms.length = bs.length → ((bs.zip ms).all fun x => (thingsF lot).any (fun t => t == x.2) && !bitI x.1 x.2) = (!(ms.any fun m => m == -1) && marksFrom lot bs ms)
  | [], [], _, _ => rfl
  | b :: bs, m :: ms, h, hn => by
    rw [List.zip_cons_cons, List.all_cons, marks_two hl (fun c hc => h c (List.mem_cons_of_mem _ hc)) (by simpa using hn), mark_two (h b List.mem_cons_self) hl, List.any_cons, marks_cons]
    cases (m == -1) <;> cases markB b lot m <;> cases (ms.any fun m => m == -1) <;> cases marksFrom lot bs ms <;> rfl
theorem marksL_eq {lot : Int} (hl : 0 ≤ lot) {bs ms : List Int} (h : ∀ b ∈ bs, 0 ≤ b) : marksL bs lot ms = (!(ms.any fun m => m == -1) && marksB bs lot ms) := by
  unfold marksL marksB
  by_cases c : ms.length = bs.length
  · rw [decide_eq_true c, Bool.true_and, Bool.true_and, marks_two hl h c]
  · rw [decide_eq_false c, Bool.false_and, Bool.false_and, Bool.and_false]
noncomputable def rowL (many : Int) (as bs : List Int) (r : QRow) : Bool := (decide (0 ≤ r.1) && decide (r.1 < 2 ^ many.toNat)) && rowQB as bs r
/-! walking along -/
theorem all_stop {α : Type} {l : List α} {f : α → Bool} {i : Nat} {x : α} (h : l[i]? = some x) (c : f x = false) : l.all f = false := by
  rw [Bool.eq_false_iff]
  intro z
  rw [List.all_eq_true.mp z x (List.mem_of_getElem? h)] at c
  cases c
theorem all_go {α : Type} {l : List α} {f : α → Bool} {i : Nat} {x : α} (h : l[i]? = some x) (c : f x = true) (ht : (l.take i).all f = true) : (l.take (i + 1)).all f = true := by
  rw [take_at h, List.all_append, ht, List.all_cons, c]; rfl
theorem all_end {α : Type} {l : List α} {f : α → Bool} {n : Nat} (hn : n = l.length) (ht : (l.take n).all f = true) : l.all f = true := by
  rw [hn, List.take_length] at ht; exact ht
theorem zip_get {α β : Type} {xs : List α} {ys : List β} {i : Nat} {x : α} {y : β} (h1 : xs[i]? = some x) (h2 : ys[i]? = some y) : (xs.zip ys)[i]? = some (x, y) := List.getElem?_zip_eq_some.mpr ⟨h1, h2⟩
/-! ### in the heap -/
noncomputable def QRowA (H : Hp) (v : V) (r : QRow) (as : List Addr) : Prop := ∃ a lm lb, v = .ref a ∧ H a = some (.tup [.int r.1, .int r.2.1, .ref lm, .ref lb]) ∧ H lm = some (.lst (r.2.2.1.map V.int)) ∧ H lb = some (.lst (r.2.2.2.map V.int)) ∧ as = [lm, lb]
noncomputable def QRowS (H : Hp) (v : V) (r : QRow) : Prop := ∃ a lm lb, v = .ref a ∧ H a = some (.tup [.int r.1, .int r.2.1, .ref lm, .ref lb]) ∧ H lm = some (.lst (r.2.2.1.map V.int)) ∧ H lb = some (.lst (r.2.2.2.map V.int))
noncomputable def LeadS (H : Hp) (v : V) (l : Lead) : Prop := ∃ a, v = .ref a ∧ H a = some (.tup [.str l.1, .int l.2])
theorem QRowA.kp (H H' : Hp) (v : V) (x : QRow) (as : List Addr) (h : QRowA H v x as) (k : Kp as H H') : QRowA H' v x as := by
  obtain ⟨a, lm, lb, h1, h2, h3, h4, rfl⟩ := h
  exact ⟨a, lm, lb, h1, k.1 _ _ h2, k.2 lm (.head _) _ h3, k.2 lb (.tail _ (.head _)) _ h4, rfl⟩
theorem QRowA.live (H : Hp) (v : V) (x : QRow) (as : List Addr) (h : QRowA H v x as) : ∀ b ∈ as, H b ≠ none := by
  obtain ⟨a, lm, lb, _, _, h3, h4, rfl⟩ := h
  intro b hb
  rcases List.mem_cons.mp hb with z | z
  · rw [z, h3]; exact fun z => nomatch z
  · rw [List.mem_singleton.mp z, h4]; exact fun z => nomatch z
theorem QRowA.s {H : Hp} {v : V} {x : QRow} {as : List Addr} (h : QRowA H v x as) : QRowS H v x := by
  obtain ⟨a, lm, lb, h1, h2, h3, h4, _⟩ := h
  exact ⟨a, lm, lb, h1, h2, h3, h4⟩
theorem QRowS.same {H H' : Hp} (S : Same H H') {v : V} {x : QRow} (h : QRowS H v x) : QRowS H' v x := by
  obtain ⟨a, lm, lb, h1, h2, h3, h4⟩ := h
  exact ⟨a, lm, lb, h1, S _ _ h2, S _ _ h3, S _ _ h4⟩
theorem LeadS.t {H H' : Hp} (S : TSame H H') {v : V} {x : Lead} (h : LeadS H v x) : LeadS H' v x := by
  obtain ⟨a, h1, h2⟩ := h
  exact ⟨a, h1, S _ _ h2⟩
theorem QRowS.f {H : Hp} {v : V} {x : QRow} (h : QRowS H v x) : FRow H v x.1 := by
  obtain ⟨a, lm, lb, h1, h2, _⟩ := h
  exact ⟨a, _, h1, h2⟩
theorem qrows_f {H : Hp} : ∀ {vs : List V} {rs : List QRow}, Paired (QRowS H) vs rs → Paired (FRow H) vs (rs.map Prod.fst)
  | _, _, .nil => .nil
  | _, _, .cons h t => .cons h.f (qrows_f t)
noncomputable def dQRow (r : QRow) : PyData := .tuple [.int r.1, .int r.2.1, .list (r.2.2.1.map PyData.int), .list (r.2.2.2.map PyData.int)]
noncomputable def dLead (l : Lead) : PyData := .tuple [.str l.1, .int l.2]
noncomputable def dQ (R : List QRow) (L : List Lead) : PyData := .tuple [.list (R.map dQRow), .list (L.map dLead)]
theorem QRowS.dr {K : PySem.W.Frag} {H : Hp} {v : V} {x : QRow} (h : QRowS H v x) : DR K H v (dQRow x) := by
  obtain ⟨a, lm, lb, rfl, h2, h3, h4⟩ := h
  exact .tup (SqT.of h2) (.cons (.int _) (.cons (.int _) (.cons (.lst (SqL.of h3) (DRs.ints _)) (.cons (.lst (SqL.of h4) (DRs.ints _)) .nil))))
theorem LeadS.dr {K : PySem.W.Frag} {H : Hp} {v : V} {x : Lead} (h : LeadS H v x) : DR K H v (dLead x) := by
  obtain ⟨a, rfl, h2⟩ := h
  exact .tup (SqT.of h2) (.cons (.str _) (.cons (.int _) .nil))
theorem pdrs {K : PySem.W.Frag} {H : Hp} {α : Type} {S : V → α → Prop} {d : α → PyData} (f : ∀ v x, S v x → DR K H v (d x)) : ∀ {vs : List V} {xs : List α}, Paired S vs xs → DRs K H vs (xs.map d)
  | _, _, .nil => .nil
  | _, _, .cons r t => .cons (f _ _ r) (pdrs f t)
/-- a paper, all of it -/
noncomputable def PapS (H : Hp) (v : V) (R : List QRow) (L : List Lead) : Prop := ∃ a rl ll ys zs, v = .ref a ∧ H a = some (.tup [.ref rl, .ref ll]) ∧ H rl = some (.lst ys) ∧ Paired (QRowS H) ys R ∧ H ll = some (.lst zs) ∧ Paired (LeadS H) zs L
theorem PapS.same {H H' : Hp} (S : Same H H') {v : V} {R : List QRow} {L : List Lead} (h : PapS H v R L) : PapS H' v R L := by
  obtain ⟨a, rl, ll, ys, zs, h1, h2, h3, h4, h5, h6⟩ := h
  exact ⟨a, rl, ll, ys, zs, h1, S _ _ h2, S _ _ h3, Paired.imp' (fun _ _ z => z.same S) h4, S _ _ h5, Paired.imp' (fun _ _ z => z.t S.t) h6⟩
theorem PapS.dr {K : PySem.W.Frag} {H : Hp} {v : V} {R : List QRow} {L : List Lead} (h : PapS H v R L) : DR K H v (dQ R L) := by
  obtain ⟨a, rl, ll, ys, zs, rfl, h2, h3, h4, h5, h6⟩ := h
  exact .tup (SqT.of h2) (.cons (.lst (SqL.of h3) (pdrs (fun _ _ z => z.dr) h4)) (.cons (.lst (SqL.of h5) (pdrs (fun _ _ z => z.dr) h6)) .nil))
/-! specs -/
noncomputable def spIsPl8 (K : PySem.W.Frag) : Sp := fun vs H Q _ => ∃ (a : Addr) (xs : List V) (p : Int), vs = [.ref a, .int p] ∧ SqL K H a xs ∧ Q (.bl (decide (0 ≤ p) && decide (p < (xs.length : Int)))) H
noncomputable def spPlaceH (K : PySem.W.Frag) : Sp := fun vs H Q _ => ∃ (l : Addr) (bs : List Int) (p lot : Int), vs = [.ref l, .int p, .int lot] ∧ SqL K H l (bs.map V.int) ∧ Q (.bl (placeB bs p lot)) H
noncomputable def spBacksR (K : PySem.W.Frag) : Sp := fun vs H Q _ => ∃ (b l : Addr) (many : Int) (bs : List Int) (lot : Int) (ps : List Int), vs = [.ref b, .int lot, .ref l] ∧ Bk K H b many bs ∧ Sm lot ∧ H l = some (.lst (ps.map V.int)) ∧ ∀ H', Same H H' → Q (.bl (backsB bs lot ps)) H'
noncomputable def spQRowR (K : PySem.W.Frag) : Sp := fun vs H Q _ => ∃ (a b : Addr) (v : V) (many : Int) (as bs : List Int) (r : QRow), vs = [.ref a, .ref b, v] ∧ Bk K H a many as ∧ Bk K H b many bs ∧ bs.length ≤ 500 ∧ (∀ x ∈ bs, 0 ≤ x) ∧ QRowS H v r ∧ Sm r.1 ∧ ∀ H', Same H H' → Q (.bl (rowQB as bs r)) H'
noncomputable def spLeadR (K : PySem.W.Frag) : Sp := fun vs H Q _ => ∃ (rl b : Addr) (v : V) (many : Int) (bs : List Int) (ys : List V) (R : List QRow) (x : Int) (l : Lead), vs = [.ref rl, .ref b, .int x, v] ∧ H rl = some (.lst ys) ∧ Paired (QRowS H) ys R ∧ Bk K H b many bs ∧ LeadS H v l ∧ ∀ H', Same H H' → Q (.bl (leadQB R bs x l)) H'
noncomputable def spPHolds (K : PySem.W.Frag) : Sp := fun vs H Q _ => ∃ (a b : Addr) (v : V) (many : Int) (as bs : List Int) (R : List QRow) (L : List Lead), vs = [.ref a, .ref b, v] ∧ Bk K H a many as ∧ Bk K H b many bs ∧ bs.length ≤ 500 ∧ (∀ x ∈ bs, 0 ≤ x) ∧ 0 ≤ many ∧ many ≤ 12 ∧ PapS H v R L ∧ ∀ H', Same H H' → Q (.bl (holdsQ many as bs R L)) H'
noncomputable def spPRowQ (K : PySem.W.Frag) : Sp := fun vs H Q _ => ∃ (a b : Addr) (many : Int) (as bs : List Int) (lot : Int), vs = [.ref a, .ref b, .int lot] ∧ Bk K H a many as ∧ Bk K H b many bs ∧ as.length ≤ 500 ∧ bs.length ≤ 500 ∧ (∀ x ∈ bs, 0 ≤ x) ∧ Sm lot ∧ 0 < countF as lot ∧ (∀ f ∈ fewF lot, 0 < countF bs f) ∧
  ∀ (v : V) (H' : Hp) (cs : List Addr), Same H H' → QRowA H' v (rowQ as bs lot) cs → cs.Nodup → (∀ c ∈ cs, H c = none) → Q v H'
noncomputable def spLeadQ (K : PySem.W.Frag) : Sp := fun vs H Q _ => ∃ (rl b : Addr) (many : Int) (bs : List Int) (ys : List V) (T : List Int) (x : Int), vs = [.ref rl, .ref b, .int x] ∧ H rl = some (.lst ys) ∧ Paired (FRow H) ys T ∧ T.length ≤ 5000 ∧ Bk K H b many bs ∧ bs.length ≤ 500 ∧ ((∃ t ∈ T, hasF x t = true) ∨ 0 < countF bs x) ∧ ∀ (v : V) (H' : Hp), Same H H' → LeadS H' v (leadF T bs x) → Q v H'
noncomputable def spPPaper (K : PySem.W.Frag) : Sp := fun vs H Q _ => ∃ (a b : Addr) (many : Int) (as bs : List Int), vs = [.ref a, .ref b] ∧ Bk K H a many as ∧ Bk K H b many bs ∧ as.length ≤ 500 ∧ bs.length ≤ 500 ∧ 0 ≤ many ∧ many ≤ 12 ∧ (∀ x ∈ as, InB many x) ∧ (∀ x ∈ bs, InB many x) ∧
  ∀ (t rl ll : Addr) (ys zs : List V) (T : List Int) (H' : Hp) (cs : List Addr), Same H H' → LeastOf (partL many as bs) T → H' t = some (.tup [.ref rl, .ref ll]) → H' rl = some (.lst ys) → ListA QRowA H' ys (T.map (rowQ as bs)) cs → H' ll = some (.lst zs) → Paired (LeadS H') zs (as.map (leadF T bs)) → cs.Nodup → (∀ c ∈ cs, H c = none ∧ c ≠ rl ∧ c ≠ ll) → H rl = none → H ll = none → rl ≠ ll → Q (.ref t) H'
/-! ### the law's looker -/
noncomputable def adjL (ls : List Int) : List Nat := (List.range (ls.length - 1)).filter fun i => decide (ls.getD (i + 1) 0 ≤ ls.getD i 0)
theorem adj_iff (ls : List Int) : (adjL ls).isEmpty = true ↔ ls.Pairwise (· < ·) := by
  unfold adjL
  rw [List.isEmpty_iff, List.filter_eq_nil_iff, List.pairwise_iff_getElem]
  have gd : ∀ i (h : i < ls.length), ls.getD i 0 = ls[i] := fun i h => by rw [List.getD_eq_getElem?_getD, List.getElem?_eq_getElem h]; rfl
  constructor
  · intro h i j hi hj hij
    obtain ⟨d, rfl⟩ : ∃ d, j = i + 1 + d := ⟨j - (i + 1), by omega⟩
    have st : ∀ k (hk : k + 1 < ls.length), ls[k] < ls[k + 1] := fun k hk => by
      have := h k (List.mem_range.mpr (by omega))
      rw [gd k (by omega), gd (k + 1) hk] at this
      simpa using this
    clear hij
    induction d with
    | zero => exact st i hj
    | succ d ih =>
      have h1 := ih (by omega) st
      have h2 := st (i + 1 + d) (by omega)
      exact Int.lt_trans h1 h2
  · intro h i hi
    have hi := List.mem_range.mp hi
    have := h i (i + 1) (by omega) (by omega) (by omega)
    rw [gd i (by omega), gd (i + 1) (by omega)]
    simpa using this
theorem law_holds (many : Int) (as bs : List Int) (R : List QRow) (L : List Lead) : holdsQ many as bs R L = (decide (L.length = as.length) && ((adjL (R.map Prod.fst)).isEmpty && (R.all (rowL many as bs) && (as.zip L).all fun x => leadQB R bs x.1 x.2))) := by
  unfold holdsQ
  rw [Bool.eq_iff_iff]
  simp only [Bool.and_eq_true, decide_eq_true_eq, rise_iff, adj_iff, List.all_eq_true]
  constructor
  · rintro ⟨⟨⟨h1, h2⟩, h3⟩, h4, h5⟩
    refine ⟨h3, h1, fun r hr => ?_, h5⟩
    have := h2 r.1 (List.mem_map_of_mem hr)
    unfold rowL
    rw [decide_eq_true this.1, decide_eq_true this.2, h4 r hr]; rfl
  · rintro ⟨h3, h1, h4, h5⟩
    refine ⟨⟨⟨h1, fun k hk => ?_⟩, h3⟩, fun r hr => ?_, h5⟩
    · obtain ⟨r, hr, rfl⟩ := List.mem_map.mp hk
      have := h4 r hr
      unfold rowL at this
      obtain ⟨h6, _⟩ := Bool.and_eq_true_iff.mp this
      obtain ⟨h7, h8⟩ := Bool.and_eq_true_iff.mp h6
      exact ⟨of_decide_eq_true h7, of_decide_eq_true h8⟩
    · have := h4 r hr
      unfold rowL at this
      exact (Bool.and_eq_true_iff.mp this).2
theorem rowL_in {many : Int} {as bs : List Int} {r : QRow} (h : rowL many as bs r = true) : InB many r.1 := by
  unfold rowL at h
  obtain ⟨h6, _⟩ := Bool.and_eq_true_iff.mp h
  obtain ⟨h7, h8⟩ := Bool.and_eq_true_iff.mp h6
  exact ⟨of_decide_eq_true h7, of_decide_eq_true h8⟩
theorem dQRow_lay (r : QRow) : (dQRow r).canLay0 = true := by
  show (true && (true && (PyData.canLayAll0 (r.2.2.1.map PyData.int) && (PyData.canLayAll0 (r.2.2.2.map PyData.int) && true)))) = true
  rw [lay_ints, lay_ints]; rfl
theorem dQRow_depth (r : QRow) : (dQRow r).depth ≤ 2 := by
  show max 0 (max 0 (max (PyData.depthAll (r.2.2.1.map PyData.int) + 1) (max (PyData.depthAll (r.2.2.2.map PyData.int) + 1) 0))) + 1 ≤ 2
  have h1 := depthAll_map (d := PyData.int) (k := 0) (l := r.2.2.1) fun _ _ => Nat.le_refl _
  have h2 := depthAll_map (d := PyData.int) (k := 0) (l := r.2.2.2) fun _ _ => Nat.le_refl _
  omega
theorem qrows_shaped (R : List QRow) : PySem.SeqAt.shaped (.list (R.map dQRow)) = true := by
  unfold PySem.SeqAt.shaped
  have h1 : (PyData.list (R.map dQRow)).canLay0 = true := layAll_map fun x _ => dQRow_lay x
  have h2 : (PyData.list (R.map dQRow)).depth ≤ 64 := by
    show PyData.depthAll (R.map dQRow) + 1 ≤ 64
    have := depthAll_map (d := dQRow) (k := 2) (l := R) fun y _ => dQRow_depth y
    omega
  rw [h1, Bool.true_and]
  exact decide_eq_true h2
theorem eq_nilD {K : PySem.W.Frag} {H : Hp} {neg : Bool} {a : Addr} {ys : List V} {ds : List PyData} {Q : VK} (ha : SqL K H a ys) (hd : ∀ H', Same H H' → DRs K H' ys ds) (hs : PySem.SeqAt.shaped (.list ds) = true) (q : ∀ H', Same H H' → Q (.bl (if neg then !ds.isEmpty else ds.isEmpty)) H') : ([] : List V).length ≤ sizeLine ∧ ∀ p, H p = none → rEqD K neg (.ref a) (.ref p) (upd H p (.lst [])) Q := by
  refine ⟨nil_len, fun p hp => ⟨_, _, .lst ((same_new hp _).seq ha) (hd _ (same_new hp _)), .lst (SqL.of upd_same) .nil, hs, rfl, ?_⟩⟩
  have e : PyData.eqv (.list ds) (.list []) = ds.isEmpty := by cases ds <;> rfl
  rw [e]
  exact q _ (same_new hp _)
noncomputable def spMarksRL (K : PySem.W.Frag) : Sp := fun vs H Q _ => ∃ (l m : Addr) (bs : List Int) (lot : Int) (ms : List Int), vs = [.ref l, .int lot, .ref m] ∧ SqL K H l (bs.map V.int) ∧ (∀ b ∈ bs, 0 ≤ b) ∧ Sm lot ∧ H m = some (.lst (ms.map V.int)) ∧ ∀ H', Same H H' → Q (.bl (marksL bs lot ms)) H'
noncomputable def spRowRL (K : PySem.W.Frag) : Sp := fun vs H Q _ => ∃ (a b : Addr) (v : V) (many : Int) (as bs : List Int) (r : QRow), vs = [.ref a, .ref b, v] ∧ Bk K H a many as ∧ Bk K H b many bs ∧ 0 ≤ many ∧ many ≤ 12 ∧ (∀ x ∈ bs, 0 ≤ x) ∧ QRowS H v r ∧ ∀ H', Same H H' → Q (.bl (rowL many as bs r)) H'
noncomputable def spRightL (K : PySem.W.Frag) : Sp := fun vs H Q _ => ∃ (a b : Addr) (v : V) (many : Int) (as bs : List Int) (R : List QRow) (L : List Lead), vs = [.ref a, .ref b, v] ∧ Bk K H a many as ∧ Bk K H b many bs ∧ 0 ≤ many ∧ many ≤ 12 ∧ (∀ x ∈ as, 0 ≤ x) ∧ (∀ x ∈ bs, 0 ≤ x) ∧ PapS H v R L ∧ R.length ≤ 60000 ∧ ∀ H', Same H H' → Q (.bl (holdsQ many as bs R L)) H'
end OL

/-! k82 -/
namespace OL
open PySem L2
noncomputable def extQ (r : QRow) : QRow := (r.1, r.2.1, r.2.2.1 ++ [0], r.2.2.2 ++ [9])
noncomputable def rowOf (R : List QRow) (lot : Int) : List Int := match R.find? (fun r => r.1 == lot) with
  | some r => r.2.2.1 ++ r.2.2.2
  | none => []
/-! how great a paper is -/
structure QSmall (r : QRow) : Prop where
  lot : r.1.natAbs < 1000000
  pl : r.2.1.natAbs < 1000000
  ms : ∀ m ∈ r.2.2.1, m.natAbs < 1000000
  ks : ∀ m ∈ r.2.2.2, m.natAbs < 1000000
  lm : r.2.2.1.length ≤ 50
  lk : r.2.2.2.length ≤ 50
noncomputable def Words : List Str := ["by", "in", "of"]
theorem hd0_small {bs : List Int} {lot : Int} (h : bs.length ≤ 100) : (hd0 bs lot).natAbs < 1000000 := by
  unfold hd0
  cases e : holdF bs lot with
  | nil => show (0 : Int).natAbs < 1000000; decide
  | cons x xs =>
    have hx : x ∈ holdF bs lot := by rw [e]; exact List.mem_cons_self
    have := hold_mem hx
    show x.natAbs < 1000000
    omega
theorem mark_small {b lot : Int} (hb : 0 ≤ b) (hl : Sm lot) : (markF b lot).natAbs < 1000000 := by
  rcases markF_cases hl.1 hb with ⟨_, h⟩ | ⟨_, h, _⟩
  · rw [h]; decide
  · obtain ⟨t, h1, _, e⟩ := (mem_lackM hl.1 hb).mp h
    have ht : t < 12 := InB.th (many := 12) (x := lot) ⟨hl.1, by have := hl.2; show lot < (2 : Int) ^ 12; omega⟩ h1
    rw [e]; omega
theorem rowQ_small {as bs : List Int} {t : Int} (hl : Sm t) (ha : as.length ≤ 50) (hb : bs.length ≤ 50) (hnn : ∀ x ∈ bs, 0 ≤ x) : QSmall (rowQ as bs t) := by
  refine ⟨?_, hd0_small (by omega), fun m hm => ?_, fun m hm => ?_, ?_, ?_⟩
  · show t.natAbs < 1000000; have := hl.1; have := hl.2; omega
  · obtain ⟨b, hbm, rfl⟩ := List.mem_map.mp (show m ∈ bs.map fun b => markF b t from hm)
    exact mark_small (hnn b hbm) hl
  · obtain ⟨f, _, rfl⟩ := List.mem_map.mp (show m ∈ (fewF t).map (hd0 bs) from hm)
    exact hd0_small (by omega)
  · show (bs.map fun b => markF b t).length ≤ 50
    rw [List.length_map]; exact hb
  · show ((fewF t).map (hd0 bs)).length ≤ 50
    rw [List.length_map]
    unfold fewF
    rw [List.length_map]
    have := few_len hl
    omega
theorem leadF_small {T bs : List Int} {b : Int} (hT : T.length ≤ 300) (hb : bs.length ≤ 50) : (leadF T bs b).1 ∈ Words ∧ (leadF T bs b).2.natAbs < 1000000 := by
  unfold leadF
  cases e : T.findIdx? fun t => hasF b t with
  | some i =>
    obtain ⟨hi, _⟩ := List.findIdx?_eq_some_iff_getElem.mp e
    exact ⟨.head _, by show ((i : Int)).natAbs < 1000000; omega⟩
  | none => exact ⟨.tail _ (.head _), hd0_small (by omega)⟩
noncomputable def spTold82 (K : PySem.W.Frag) : Sp := fun vs H Q _ => ∃ (v : V) (R : List QRow) (L : List Lead), vs = [v] ∧ PapS H v R L ∧ (∀ r ∈ R, QSmall r) ∧ (∀ l ∈ L, l.1 ∈ Words ∧ l.2.natAbs < 1000000) ∧ ∀ H', Same H H' → Q (.bl true) H'
noncomputable def spRowOf : Sp := fun vs H Q _ => ∃ (v : V) (R : List QRow) (L : List Lead) (lot : Int), vs = [v, .int lot] ∧ PapS H v R L ∧ (∀ r ∈ R, QSmall r) ∧ ∀ (r : Addr) (H' : Hp), Same H H' → H r = none → H' r = some (.lst ((rowOf R lot).map V.int)) → Q (.ref r) H'
end OL

/-! k83: parting papers bent, by membership -/
namespace OL
open PySem L2
/-- the heap without what lies at r -/
noncomputable def hide (r : Addr) (H : Hp) : Hp := fun a => if a = r then none else H a
theorem hide_un {r a : Addr} {H : Hp} {o : HO} (h : hide r H a = some o) : H a = some o := by
  unfold hide at h; split at h
  · cases h
  · exact h
theorem hide_ne {r a : Addr} {H : Hp} {o : HO} (h : hide r H a = some o) : a ≠ r := fun e => by
  unfold hide at h; rw [if_pos e] at h; cases h
theorem hide_of {r a : Addr} {H : Hp} {o : Option HO} (n : a ≠ r) (h : H a = o) : hide r H a = o := by unfold hide; rw [if_neg n]; exact h
theorem hide_same (r : Addr) (H : Hp) : Same (hide r H) H := fun _ _ h => hide_un h
theorem hideB {r : Addr} {H H' : Hp} (S : SameB r H H') : Same (OL.hide r H) (OL.hide r H') := fun b o e => hide_of (hide_ne e) (S b o (hide_ne e) (hide_un e))
theorem hideS {r : Addr} {H H' : Hp} (S : Same H H') : Same (OL.hide r H) (OL.hide r H') := hideB (Same.b S)
theorem hide_new {r p : Addr} {H : Hp} {x o : HO} (hr : H r = some x) (hp : H p = none) : OL.hide r (upd H p o) p = some o := hide_of (fun e => by rw [e, hr] at hp; cases hp) upd_same
noncomputable def BQ (t : Nat) (x : Int) : Prop := x.natAbs ≤ 10 ^ 39 + 1000000 + 7 * t
theorem BQ.up {t : Nat} {x : Int} (h : BQ t x) : BQ (t + 1) x := by unfold BQ at *; omega
theorem BQ.near {t : Nat} {x y : Int} (h : BQ t x) (e : y.natAbs ≤ x.natAbs + 7) : BQ (t + 1) y := by unfold BQ at *; omega
theorem BQ.big {t : Nat} {x : Int} (h : x.natAbs ≤ 10 ^ 39) : BQ t x := by unfold BQ; omega
theorem BQ.small {t : Nat} {x : Int} (h : x.natAbs ≤ 1000000) : BQ t x := by unfold BQ; omega
structure QB (t : Nat) (r : QRow) : Prop where
  lot : BQ t r.1
  pl : BQ t r.2.1
  ms : ∀ m ∈ r.2.2.1, BQ t m
  ks : ∀ m ∈ r.2.2.2, BQ t m
  lm : r.2.2.1.length ≤ 30 + t
  lk : r.2.2.2.length ≤ 30 + t
theorem QB.up {t : Nat} {r : QRow} (h : QB t r) : QB (t + 1) r := ⟨h.lot.up, h.pl.up, fun m hm => (h.ms m hm).up, fun m hm => (h.ks m hm).up, by have := h.lm; omega, by have := h.lk; omega⟩
noncomputable def RowV8 (t : Nat) (H : Hp) (v : V) : Prop := ∃ r, QRowS H v r ∧ QB t r
noncomputable def LeadV8 (t : Nat) (H : Hp) (v : V) : Prop := ∃ l, LeadS H v l ∧ l.1 ∈ Words ∧ BQ t l.2
theorem RowV8.same {t : Nat} {H H' : Hp} {v : V} (S : Same H H') (h : RowV8 t H v) : RowV8 t H' v := by
  obtain ⟨r, h1, h2⟩ := h; exact ⟨r, h1.same S, h2⟩
theorem RowV8.up {t : Nat} {H : Hp} {v : V} (h : RowV8 t H v) : RowV8 (t + 1) H v := by
  obtain ⟨r, h1, h2⟩ := h; exact ⟨r, h1, h2.up⟩
theorem LeadV8.same {t : Nat} {H H' : Hp} {v : V} (S : Same H H') (h : LeadV8 t H v) : LeadV8 t H' v := by
  obtain ⟨r, h1, h2⟩ := h; exact ⟨r, h1.t S.t, h2⟩
theorem LeadV8.up {t : Nat} {H : Hp} {v : V} (h : LeadV8 t H v) : LeadV8 (t + 1) H v := by
  obtain ⟨r, h1, h2, h3⟩ := h; exact ⟨r, h1, h2, h3.up⟩
noncomputable def PapV (t : Nat) (H : Hp) (v : V) : Prop := ∃ a rl ll ys zs, v = .ref a ∧ H a = some (.tup [.ref rl, .ref ll]) ∧ H rl = some (.lst ys) ∧ H ll = some (.lst zs) ∧ ys.length ≤ 256 + t ∧ zs.length ≤ 12 + t ∧ (∀ y ∈ ys, RowV8 t H y) ∧ (∀ z ∈ zs, LeadV8 t H z)
theorem PapV.same {t : Nat} {H H' : Hp} {v : V} (S : Same H H') (h : PapV t H v) : PapV t H' v := by
  obtain ⟨a, rl, ll, ys, zs, h1, h2, h3, h4, h5, h6, h7, h8⟩ := h
  exact ⟨a, rl, ll, ys, zs, h1, S _ _ h2, S _ _ h3, S _ _ h4, h5, h6, fun y hy => (h7 y hy).same S, fun z hz => (h8 z hz).same S⟩
theorem gather8 {α : Type} {S : V → α → Prop} {P : α → Prop} : ∀ {vs : List V}, (∀ v ∈ vs, ∃ r, S v r ∧ P r) → ∃ rs, Paired S vs rs ∧ ∀ r ∈ rs, P r
  | [], _ => ⟨[], .nil, fun _ h => nomatch h⟩
  | v :: vs, h => by
    obtain ⟨r, h1, h2⟩ := h v List.mem_cons_self
    obtain ⟨rs, h3, h4⟩ := gather8 (vs := vs) fun u hu => h u (List.mem_cons_of_mem _ hu)
    refine ⟨r :: rs, .cons h1 h3, fun x hx => ?_⟩
    rcases List.mem_cons.mp hx with z | z
    · rw [z]; exact h2
    · exact h4 x z
theorem PapV.out {t : Nat} {H : Hp} {v : V} (h : PapV t H v) : ∃ R L, PapS H v R L ∧ R.length ≤ 256 + t ∧ L.length ≤ 12 + t ∧ (∀ r ∈ R, QB t r) ∧ ∀ l ∈ L, l.1 ∈ Words ∧ BQ t l.2 := by
  obtain ⟨a, rl, ll, ys, zs, h1, h2, h3, h4, h5, h6, h7, h8⟩ := h
  obtain ⟨R, hR, hR2⟩ := gather8 h7
  obtain ⟨L, hL, hL2⟩ := gather8 h8
  have := Paired.length hR
  have := Paired.length hL
  exact ⟨R, L, ⟨a, rl, ll, ys, zs, h1, h2, h3, hR, h4, hL⟩, by omega, by omega, hR2, hL2⟩
/-! texts -/
theorem ShB.str {x : Str} (h : x.cps.all (fun c => decide (c < 0x110000)) = true) (h' : (PyData.str x).leavesShort 800 = true) : ShB (.str x) x.cps.size 0 := ⟨rfl, rfl, h', Nat.le_refl _, Nat.le_refl _, h⟩
theorem ShB.fitsW {d : PyData} {n k : Nat} (h : ShB d n k) (hn : n ≤ 20000) : d.shown.length ≤ sizeLine := by
  have h1 := PyData.shown_le_bulk 800 (by decide) d h.short
  have h2 := h.bulk
  have h3 : (800 + 2) * d.bulk ≤ 802 * 20000 := Nat.mul_le_mul (by decide) (by omega)
  rw [sizeLine_eq]
  omega
theorem ShB.fourW {d : PyData} {n k : Nat} {Q : Prop} (h : ShB d n k) (hn : n ≤ 20000) (hk : k ≤ 60) (q : Q) : d.showable = true ∧ d.hasDict = false ∧ d.depth ≤ 60 ∧ d.shown.length ≤ sizeLine ∧ Q := ⟨h.show', h.nodict, Nat.le_trans h.depth hk, h.fitsW hn, q⟩
theorem BQ.sh {t : Nat} {x : Int} (ht : t ≤ 10) (h : BQ t x) : ShB (.int x) 0 0 := by
  refine ShB.int (intBits_le_iff.mpr ?_)
  refine Nat.lt_of_le_of_lt h ?_
  have h2 : (10 : Nat) ^ 39 + 1000000 + 70 < 2 ^ 799 := Nat.lt_of_lt_of_le (show 10 ^ 39 + 1000000 + 70 < 2 ^ 140 by decide) (Nat.pow_le_pow_right (by decide) (by decide))
  refine Nat.lt_of_le_of_lt ?_ h2
  omega
theorem shB_ints {t : Nat} {ns : List Int} (ht : t ≤ 10) (h : ∀ x ∈ ns, BQ t x) : ShB (.list (ns.map PyData.int)) ns.length 1 := (ShB.list (ShBAll.map fun x hx => (h x hx).sh ht)).mono (by omega) (by decide)
theorem shB_word {w : Str} (h : w ∈ Words) : ShB (.str w) 5 0 := by
  unfold Words at h
  simp only [List.mem_cons, List.not_mem_nil, or_false] at h
  rcases h with rfl | rfl | rfl <;> exact (ShB.str (by decide +kernel) (by decide +kernel)).mono (by decide +kernel) (by decide)
theorem shB_row {t : Nat} {r : QRow} (ht : t ≤ 3) (h : QB t r) : ShB (dQRow r) 70 2 := by
  have h1 := h.lm
  have h2 := h.lk
  have t10 : t ≤ 10 := by omega
  exact (ShB.tuple (ShBAll.cons (h.lot.sh t10) (ShBAll.cons (h.pl.sh t10) (ShBAll.cons (shB_ints t10 h.ms) (ShBAll.cons (shB_ints t10 h.ks) .nil))))).mono (by omega) (by decide)
theorem shB_lead {t : Nat} {l : Lead} (ht : t ≤ 3) (h : l.1 ∈ Words) (h2 : BQ t l.2) : ShB (dLead l) 7 1 := (ShB.tuple (ShBAll.cons (shB_word h) (ShBAll.cons (h2.sh (by omega)) .nil))).mono (by decide) (by decide)
theorem shB_rows {t : Nat} {R : List QRow} (ht : t ≤ 3) (h : ∀ r ∈ R, QB t r) : ShB (.list (R.map dQRow)) (71 * R.length) 3 := ShB.list (ShBAll.map fun r hr => shB_row ht (h r hr))
theorem shB_leads {t : Nat} {L : List Lead} (ht : t ≤ 3) (h : ∀ l ∈ L, l.1 ∈ Words ∧ BQ t l.2) : ShB (.list (L.map dLead)) (8 * L.length) 2 := ShB.list (ShBAll.map fun r hr => shB_lead ht (h r hr).1 (h r hr).2)
theorem shB_paper {t : Nat} {R : List QRow} {L : List Lead} (ht : t ≤ 3) (h1 : R.length ≤ 256 + t) (h2 : L.length ≤ 12 + t) (hR : ∀ r ∈ R, QB t r) (hL : ∀ l ∈ L, l.1 ∈ Words ∧ BQ t l.2) : ShB (dQ R L) 19000 4 :=
  (ShB.tuple (ShBAll.cons (shB_rows ht hR) (ShBAll.cons (shB_leads ht hL) .nil))).mono (by omega) (by decide)
theorem rowQ_B {as bs : List Int} {t : Int} (hl : Sm t) (ha : as.length ≤ 30) (hb : bs.length ≤ 30) (hnn : ∀ x ∈ bs, 0 ≤ x) : QB 0 (rowQ as bs t) := by
  have h := rowQ_small hl (show as.length ≤ 50 by omega) (show bs.length ≤ 50 by omega) hnn
  have s : ∀ {x : Int}, x.natAbs < 1000000 → BQ 0 x := fun h => .small (by omega)
  refine ⟨s h.lot, s h.pl, fun m hm => s (h.ms m hm), fun m hm => s (h.ks m hm), ?_, ?_⟩
  · show (bs.map fun b => markF b t).length ≤ 30
    rw [List.length_map]; exact hb
  · show ((fewF t).map (hd0 bs)).length ≤ 30
    rw [List.length_map]
    unfold fewF
    rw [List.length_map]
    have := few_len hl
    omega
/-! specs -/
noncomputable def spNum83 : Sp := fun vs H Q _ => ∃ (n m : Int) (t : Nat), vs = [.int n, .int m] ∧ BQ t n ∧ ∀ (x : Int) (H' : Hp), Same H H' → BQ (t + 1) x → Q (.int x) H'
noncomputable def spInL83 : Sp := fun vs H Q _ => ∃ (l : Addr) (ns : List Int) (m : Int) (t : Nat), vs = [.ref l, .int m] ∧ H l = some (.lst (ns.map V.int)) ∧ (∀ x ∈ ns, BQ t x) ∧ ns.length ≤ 100 ∧
  ∀ (l' : Addr) (ns' : List Int) (H' : Hp), Same H H' → H l' = none → H' l' = some (.lst (ns'.map V.int)) → (∀ x ∈ ns', BQ (t + 1) x) → ns'.length ≤ ns.length + 1 → Q (.ref l') H'
noncomputable def spRowB83 : Sp := fun vs H Q _ => ∃ (v : V) (m : Int) (t : Nat) (r : Addr) (o : HO), vs = [v, .int m] ∧ RowV8 t (hide r H) v ∧ t ≤ 10 ∧ H r = some o ∧ ∀ (v' : V) (H' : Hp), Same H H' → RowV8 (t + 1) (hide r H') v' → Q v' H'
noncomputable def spMov83 : Sp := fun vs H Q _ => ∃ (w : Str) (p a m : Int) (t : Nat), vs = [.str w, .int p, .int a, .int m] ∧ BQ t p ∧ m ≤ 1000 ∧ ∀ x H', Same H H' → BQ t x → Q (.int x) H'
noncomputable def spBent83 : Sp := fun vs H Q _ => ∃ (v : V) (r : Addr) (ds : List Int) (t : Nat), vs = [v, .ref r] ∧ H r = some (.lst (ds.map V.int)) ∧ D31 ds ∧ PapV t (hide r H) v ∧ t ≤ 3 ∧
  ∀ (v' : V) (ds' : List Int) (H' : Hp), SameB r H H' → H' r = some (.lst (ds'.map V.int)) → D31 ds' → PapV (t + 1) (hide r H') v' → Q v' H'
end OL

namespace OL.Q83
open PySem L2 OL
noncomputable def top (i : Nat) : Stmt := PySem.Challenge.pw_oftenlots_k83_parting_papers_looked_at.main.body.getD i (.Pass ⟨0, 0, 0, 0⟩)
noncomputable abbrev sTop : Stmt := top 1
noncomputable abbrev sHas : Stmt := top 2
noncomputable abbrev sHasAny : Stmt := top 3
noncomputable abbrev sHasT : Stmt := top 4
noncomputable abbrev sWithout : Stmt := top 5
noncomputable abbrev sAll : Stmt := top 6
noncomputable abbrev sThings : Stmt := top 7
noncomputable abbrev s_least_among : Stmt := top 8
noncomputable abbrev sFewer : Stmt := top 9
noncomputable abbrev s_is_place : Stmt := top 10
noncomputable abbrev s_lots_rise : Stmt := top 11
noncomputable abbrev sCount : Stmt := top 13
noncomputable abbrev sHold : Stmt := top 14
noncomputable abbrev sCounted : Stmt := top 16
noncomputable abbrev s_mark_for : Stmt := top 17
noncomputable abbrev s_marks_are_right : Stmt := top 18
noncomputable abbrev s_mark_is_right : Stmt := top 19
noncomputable abbrev s_parts : Stmt := top 21
noncomputable abbrev s_least_parting : Stmt := top 22
noncomputable abbrev s_parting_paper : Stmt := top 23
noncomputable abbrev s_parting_row : Stmt := top 24
noncomputable abbrev s_lead_for : Stmt := top 25
noncomputable abbrev s_parting_holds : Stmt := top 26
noncomputable abbrev s_parting_row_is_right : Stmt := top 27
noncomputable abbrev s_backs_are_right : Stmt := top 28
noncomputable abbrev s_lead_is_right : Stmt := top 29
noncomputable abbrev s_place_has : Stmt := top 30
noncomputable abbrev s_L_mix : Stmt := top 32
noncomputable abbrev s_L_draws : Stmt := top 33
noncomputable abbrev s_L_pop : Stmt := top 34
noncomputable abbrev s_L_book : Stmt := top 35
noncomputable abbrev sThingsL : Stmt := top 36
noncomputable abbrev s_L_two : Stmt := top 37
noncomputable abbrev s_L_marks_right : Stmt := top 38
noncomputable abbrev s_L_at : Stmt := top 39
noncomputable abbrev s_L_row_right : Stmt := top 40
noncomputable abbrev s_L_right : Stmt := top 41
noncomputable abbrev s_L_number : Stmt := top 42
noncomputable abbrev s_L_in_list : Stmt := top 43
noncomputable abbrev s_L_row_bent : Stmt := top 44
noncomputable abbrev s_L_moved : Stmt := top 45
noncomputable abbrev s_L_bent : Stmt := top 46
noncomputable abbrev s_law : Stmt := top 47
section
variable {P : Program} {w : World} {K : PySem.W.Frag} {mg : Str → Option Value} {base : Heap} {f : Addr} {fd : FuncData} {k : Nat}
theorem ix_ok' {n : Nat} {k : Int} (h0 : 0 ≤ k) (h1 : k < n) : ixN n k = some k.toNat := by
  unfold ixN
  rw [if_pos h0, if_pos h1]
theorem cutI_le' (ds : List Int) (lo hi : Option Int) : (cutI ds lo hi).length ≤ ds.length := by
  unfold cutI
  rw [List.length_take, List.length_drop]; omega

noncomputable abbrev n_L_mix : List Str := ["_law_cell", "_law_turn", "_law_number_here"]
theorem sc_L_mix : FnScope n_L_mix ["_law_cell", "_law_turn"] (defScope s_L_mix) := ⟨rfl, rfl, rfl, by decide +kernel, rfl, by decide +kernel, by decide +kernel⟩
theorem ok_L_mix (F : Fun K "_law_mix" "_law_mix" s_L_mix f fd) (b : Binds K fd ["_law_cell", "_law_turn"] []) (m : mg "_law_mix" = some (.ref f))   : Dfn P w K mg base (k + 1) "_law_mix" ["_law_cell", "_law_turn"] spMix := by
  refine .of F b m sc_L_mix (fun vs H Q E h => ?_) (fun cdv A outer s H vs Q E hr h => ?_)
  · obtain ⟨c, t, rfl, t0, t1, q⟩ := h; rfl
  obtain ⟨c, t, rfl, t0, t1, q⟩ := h
  have nd := sc_L_mix.nd
  refine ⟨_, pss_cons (ps_set (i := 2) nd rfl (Or.inl rfl) (pe_op op_mod (pe_op op_mul (pe_op op_add (pe_op op_add (pe_op op_mod (pv 0) pe_int) (pe_op op_mul (pe_op op_mul (pv 1) (pv 1)) pe_int)) pe_int) pe_int) pe_int))
    (pss_one (ps_ret (pe_op op_mod (pe_op op_add (pe_op op_mul (pv 2) (pv 2)) (pe_op op_mul pe_int (pv 1))) pe_int))), ?_⟩
  refine ⟨_, rfl, _, _, rfl, rfl, (by show (0 : Int) < 2147483647; decide), _, rfl, _, rfl, _, _, rfl, rfl, .inl ⟨by omega, by omega⟩, _, _, rfl, rfl, .inr ⟨by decide, by decide⟩, _, _, rfl, rfl, _, _, rfl, rfl, _, _, rfl, rfl, .inr ⟨by decide, by decide⟩, _, _, rfl, rfl, (by show (0 : Int) < 2147483647; decide), ?_⟩
  refine ⟨_, rfl, _, rfl, _, _, rfl, rfl, .inl (mod_ok _ (by decide) (by decide)), _, rfl, _, _, rfl, rfl, .inl ⟨by decide, by decide⟩, _, _, rfl, rfl, _, _, rfl, rfl, (by show (0 : Int) < 2147483629; decide), ?_⟩
  exact q _ (mod31 _ (by decide) (by decide)).1 (mod31 _ (by decide) (by decide)).2
noncomputable abbrev n_L_draws : List Str := ["_law_script", "_law_turn", "_law_many", "_law_cells", "_law_lefts", "_law_found", "_law_k", "_law_at_here", "_law_number_here"]
theorem sc_L_draws : FnScope n_L_draws ["_law_script", "_law_turn", "_law_many"] (defScope s_L_draws) := ⟨rfl, rfl, rfl, by decide +kernel, rfl, by decide +kernel, by decide +kernel⟩
theorem nd_L_draws_0 : (["_law_cell"] : List Str).Nodup := by decide +kernel
set_option maxHeartbeats 1000000 in
theorem ok_L_draws (F : Fun K "_law_draws" "_law_draws" s_L_draws f fd) (b : Binds K fd ["_law_script", "_law_turn", "_law_many"] []) (m : mg "_law_draws" = some (.ref f)) (M_range : mg "range" = none) (M_len : mg "len" = none) (G_L_mix : Dfn P w K mg base k "_law_mix" ["_law_cell", "_law_turn"] spMix) : Dfn P w K mg base (k + 1) "_law_draws" ["_law_script", "_law_turn", "_law_many"] (spDr K) := by
  refine .of F b m sc_L_draws (fun vs H Q E h => ?_) (fun cdv A outer s H vs Q E hr h => ?_)
  · obtain ⟨a, ns, tn, mn, rfl, hS, h63, t0, t1, m0, m1, q⟩ := h; rfl
  obtain ⟨a, ns, tn, mn, rfl, hS, h63, t0, t1, m0, m1, q⟩ := h
  have nd := sc_L_draws.nd
  have le := Nat.le_refl k
  refine ⟨_, pss_cons (ps_set (i := 3) nd rfl (Or.inl rfl) (pe_op op_cat (pe_slice sl_list (pv 0) po_none (po_some pe_int)) (pe_lst (pa_cons (pv 1) pa_nil))))
    (pss_cons (ps_setCompC (i := 4) nd rfl rfl ["_law_cell"] [] (sc := defScope s_L_draws) (N := n_L_draws) (.inl rfl) rfl ⟨rfl, by decide +kernel, by decide +kernel, by decide +kernel, by decide +kernel⟩ rfl (pi_list (pv 3)) (fun cl s H C fp => (pg_name (i := 0) nd_L_draws_0 rfl (Or.inl rfl))) (fun cl s H C fp => pifs_nil) (fun cl s H C fp => (pe_op op_fdiv (pv 0) pe_int)) rfl)
    (pss_cons (ps_set (i := 5) nd rfl (Or.inl rfl) (pe_lst pa_nil))
    (pss_cons (ps_for PassesOwn.never rfl (pi_range1 rfl M_range (pa_cons (pe_op op_add (pv 1) (pv 2)) pa_nil)) (pg_name (i := 6) nd rfl (Or.inl rfl))
      (pss_cons (ps_set (i := 7) nd rfl (Or.inl rfl) (pe_op op_mod (pv 6) (pe_callB call_len_seq (by rfl) M_len PySem.boot_len (pa_cons (pv 3) pa_nil))))
      (pss_cons (ps_set (i := 8) nd rfl (Or.inl rfl) (pe_def G_L_mix hr le rfl (pa_cons (pe_ix ix_list (pv 3) (pv 7) (fun _ _ => rfl)) (pa_cons (pv 6) pa_nil))))
      (pss_cons (ps_set (i := 8) nd rfl (Or.inl rfl) (pe_op op_mod (pe_op op_add (pe_op op_mul (pv 8) (pv 8)) (pe_op op_mul pe_int (pv 6))) pe_int))
      (pss_mid (ps_if (PW.pt (pw_and (pt_cmpR op_ge (pe_ix ix_list (pv 3) (pv 7) (fun _ _ => rfl)) (pe_op op_pow pe_int pe_int) (nomark _)) (pw_and1 (pt_cmpR op_gt (pe_ix ix_list (pv 4) (pv 7) (fun _ _ => rfl)) pe_int (nomark _))))) (pss_cons (ps_set (i := 8) nd rfl (Or.inl rfl) (pe_op op_mod (pe_ix ix_list (pv 4) (pv 7) (fun _ _ => rfl)) pe_int))
        (pss_one (ps_asg (pe_op op_fdivB (pe_ix ix_list (pv 4) (pv 7) (fun _ _ => rfl)) pe_int) (pg_sub (pv 4) (pv 7) set_list)))) pss_nil)
      (pss_one (ps_expr (pe_bm PySem.F.plainAttrs_list PySem.F.slot_list_append PySem.F.type_list_append mt_append (pv 5) (pa_cons (pv 8) pa_nil)))))))))
    (pss_one (ps_ret (pe_slice sl_list (pv 5) (po_some (pv 1)) po_none)))))), ?_⟩
  refine ⟨_, rfl, _, rfl, a, _, rfl, hS, fun sl hsl => ⟨_, rfl, (by show 1 ≤ sizeLine; decide), fun tl htl => ?_⟩⟩
  rw [cut_ints] at htl ⊢
  have Sa := same_new hsl (.lst ((cutI ns none (some 63)).map V.int))
  have Sb := same_new htl (.lst [.int tn])
  have hcl := cutI_le' ns none (some 63)
  obtain ⟨cs, hcs⟩ : ∃ cs : List Int, cs = cutI ns none (some 63) ++ [tn] := ⟨_, rfl⟩
  have emap : (cutI ns none (some 63)).map V.int ++ [V.int tn] = cs.map V.int := by rw [hcs, List.map_append]; rfl
  have c1 : 1 ≤ cs.length := by rw [hcs, List.length_append]; show 1 ≤ _ + 1; omega
  have c2 : cs.length ≤ 64 := by rw [hcs, List.length_append]; show _ + 1 ≤ 64; omega
  refine ⟨sl, tl, _, _, rfl, rfl, Sb _ _ upd_same, upd_same, (by rw [List.length_map]; show _ + 1 ≤ sizeLine; exact Nat.le_of_lt (small1000 (by omega))), fun cl hcl0 => ?_⟩
  rw [emap]
  have Sc := same_new hcl0 (.lst (cs.map V.int))
  have S1 := Sa.trans (Sb.trans Sc)
  have hc1 : upd (upd (upd H sl (.lst ((cutI ns none (some 63)).map V.int))) tl (.lst [.int tn])) cl (.lst (cs.map V.int)) cl = some (.lst (cs.map V.int)) := upd_same
  generalize upd (upd (upd H sl (.lst ((cutI ns none (some 63)).map V.int))) tl (.lst [.int tn])) cl (.lst (cs.map V.int)) = H1 at S1 hc1 ⊢
  dsimp only
  refine ⟨_, rfl, cl, rfl, ⟨_, SqL.of hc1⟩, compV_list (ns := cs) (SqL.of hc1) (fun _ => true) (fun x => .int (x / 100000)) (by omega) (fun x H2 hm S => turn_pick (y := .int (x / 100000)) look_yes (fun _ H3 S3 => .pure fun Q h => ⟨_, rfl, _, _, rfl, rfl, ⟨by decide, by decide⟩, h⟩) fun _ _ _ => rfl) (fun lf H3 hlf S3 hl3 => ?_)⟩
  rw [filter_true] at hl3
  have hl3' : H3 lf = some (.lst ((cs.map fun x => x / 100000).map V.int)) := by rw [hl3, List.map_map]; rfl
  have hc3 := S3 _ _ hc1
  have S13 := S1.trans S3
  have hlfH : H lf = none := S1.free hlf
  have cllf : cl ≠ lf := fun e => by rw [← e, hc1] at hlf; cases hlf
  dsimp only
  refine ⟨nil_len, fun fo hfo => ?_⟩
  have hfH : H fo = none := S13.free hfo
  have S4 := S13.trans (same_new hfo (.lst []))
  have hc4 := same_new hfo (.lst []) _ _ hc3
  have hl4 := same_new hfo (.lst []) _ _ hl3'
  have hf4 : upd H3 fo (.lst []) fo = some (.lst []) := upd_same
  have cfo : cl ≠ fo := fun e => by rw [e] at hc3; rw [hc3] at hfo; cases hfo
  have lfo : lf ≠ fo := fun e => by rw [e] at hl3'; rw [hl3'] at hfo; cases hfo
  generalize upd H3 fo (.lst []) = H4 at S4 hc4 hl4 hf4 ⊢
  dsimp only
  refine ⟨_, rfl, _, rfl, _, _, rfl, rfl, _, rfl, by omega, by omega, for_range (fun i σ H' => ∃ (ls ds : List Int) (z6 z7 z8 : Option V), σ = [some (.ref a), some (.int tn), some (.int mn), some (.ref cl), some (.ref lf), some (.ref fo), z6, z7, z8] ∧ Same H H' ∧ H' cl = some (.lst (cs.map V.int)) ∧ H' lf = some (.lst (ls.map V.int)) ∧ ls.length = cs.length ∧ H' fo = some (.lst (ds.map V.int)) ∧ ds.length = i ∧ D31 ds) ⟨_, [], _, _, _, rfl, S4, hc4, hl4, by rw [List.length_map], hf4, rfl, D31.nil⟩ ?_ ?_⟩
  · rintro i σ H' hi ⟨ls, ds, z6, z7, z8, rfl, S, hc', hl', hll, hf', hdl, hd31⟩
    have hL : (0 : Int) < ((cs.map V.int).length : Nat) := by rw [List.length_map]; omega
    have a0 := Int.emod_nonneg (0 + (i : Int)) (show (((cs.map V.int).length : Nat) : Int) ≠ 0 by omega)
    have a1 := Int.emod_lt_of_pos (0 + (i : Int)) hL
    rw [List.length_map] at a0 a1
    have a2 : (0 + (i : Int)) % (cs.length : Int) < (ls.length : Int) := by omega
    refine ⟨_, rfl, _, rfl, cl, _, rfl, .inl (SqL.of hc'), _, _, rfl, rfl, hL, ?_⟩
    rw [List.length_map]
    dsimp only
    refine ⟨_, rfl, _, rfl, cl, _, _, _, rfl, rfl, SqL.of hc', atI_int a0 a1, _, rfl, _, _, rfl, by omega, by omega, fun y y0 y1 => ?_⟩
    dsimp only
    refine ⟨_, rfl, _, rfl, _, _, rfl, rfl, .inl ⟨by omega, by omega⟩, _, rfl, _, _, rfl, rfl, .inl ⟨by decide, by decide⟩, _, _, rfl, rfl, _, _, rfl, rfl, (by show (0 : Int) < 2147483587; decide), ?_⟩
    have hn := mod31 (y * y + 7 * (0 + (i : Int))) (m := 2147483587) (by decide) (by decide)
    dsimp only
    generalize (y * y + 7 * (0 + (i : Int))) % 2147483587 = nb at hn ⊢
    generalize hat : (0 + (i : Int)) % (cs.length : Int) = at' at a0 a1 a2 ⊢
    refine ⟨fun σ H4 => ∃ (ls' : List Int) (nb' : Int), σ = [some (.ref a), some (.int tn), some (.int mn), some (.ref cl), some (.ref lf), some (.ref fo), some (.int (0 + (i : Int))), some (.int at'), some (.int nb')] ∧ Same H H4 ∧ H4 cl = some (.lst (cs.map V.int)) ∧ H4 lf = some (.lst (ls'.map V.int)) ∧ ls'.length = cs.length ∧ H4 fo = some (.lst (ds.map V.int)) ∧ 0 ≤ nb' ∧ nb' < 2147483648, ?_, ?_⟩
    · refine one_if (b := decide (10 ^ 18 ≤ cs.getD at'.toNat 0) && decide (0 < ls.getD at'.toNat 0)) (lookAnd (c := decide (10 ^ 18 ≤ cs.getD at'.toNat 0)) (d := decide (0 < ls.getD at'.toNat 0)) (.pure fun Q h => ⟨_, rfl, _, rfl, cl, _, _, _, rfl, rfl, SqL.of hc', atI_int a0 a1, _, _, rfl, rfl, ⟨by decide, by decide, by decide⟩, _, _, rfl, rfl, _, rfl, h⟩)
        (fun _ H5 S5 => .pure fun Q h => ⟨_, rfl, _, rfl, lf, _, _, _, rfl, rfl, SqL.of (S5 _ _ hl'), atI_int a0 a2, _, _, rfl, rfl, _, rfl, h⟩)) fun H5 S5 => ?_
      refine ite2 (fun _ => ?_) (fun _ => ⟨ls, nb, rfl, S.trans S5, S5 _ _ hc', S5 _ _ hl', hll, S5 _ _ hf', hn.1, hn.2⟩)
      have hl5 := S5 _ _ hl'
      refine ⟨_, rfl, _, rfl, lf, _, _, _, rfl, rfl, SqL.of hl5, atI_int a0 a2, _, _, rfl, rfl, (by show (0 : Int) < 2147483587; decide), ?_⟩
      have hn' := mod31 (ls.getD at'.toNat 0) (m := 2147483587) (by decide) (by decide)
      dsimp only
      refine ⟨_, rfl, _, rfl, lf, _, _, _, rfl, rfl, SqL.of hl5, atI_int a0 a2, _, _, rfl, rfl, ⟨by decide, by decide⟩, _, rfl, _, rfl, lf, _, _, _, rfl, rfl, hl5, ix_ok' a0 (by rw [List.length_map]; exact a2), ?_⟩
      refine ⟨ls.set at'.toNat (ls.getD at'.toNat 0 / 2147483587), _, rfl, fun b o e => ?_, by rw [upd_ne cllf]; exact S5 _ _ hc', by rw [upd_same, List.map_set], by rw [List.length_set]; exact hll, by rw [upd_ne (Ne.symm lfo)]; exact S5 _ _ hf', hn'.1, hn'.2⟩
      rw [upd_ne (ne_of_none e hlfH)]; exact S5 _ _ (S b o e)
    rintro σ H5 ⟨ls', nb', rfl, S5, hc5, hl5, hll5, hf5, n0, n1⟩
    refine ⟨_, rfl, .inl ⟨rfl, _, SqL.of hf5⟩, _, rfl, fo, _, _, rfl, rfl, hf5, (by rw [List.length_map]; exact small4096 (by omega)), ?_⟩
    refine ⟨ls', ds ++ [nb'], _, _, _, rfl, fun b o e => ?_, by rw [upd_ne cfo]; exact hc5, by rw [upd_ne lfo]; exact hl5, hll5, by rw [upd_same, List.map_append]; rfl, by rw [List.length_append, hdl]; rfl, hd31.snoc n0 n1⟩
    rw [upd_ne (ne_of_none e hfH)]; exact S5 b o e
  · rintro σ H' ⟨ls, ds, z6, z7, z8, rfl, S, hc', hl', hll, hf', hdl, hd31⟩
    refine ⟨_, rfl, _, rfl, _, rfl, fo, _, rfl, SqL.of hf', fun r hr0 => ?_⟩
    rw [cut_ints]
    exact q r _ _ (S.trans (same_new hr0 _)) (S.free hr0) upd_same hd31.cut
noncomputable abbrev n_L_pop : List Str := ["_law_draws_here"]
theorem sc_L_pop : FnScope n_L_pop ["_law_draws_here"] (defScope s_L_pop) := ⟨rfl, rfl, rfl, by decide +kernel, rfl, by decide +kernel, by decide +kernel⟩
theorem ok_L_pop (F : Fun K "_law_pop" "_law_pop" s_L_pop f fd) (b : Binds K fd ["_law_draws_here"] []) (m : mg "_law_pop" = some (.ref f))   : Dfn P w K mg base (k + 1) "_law_pop" ["_law_draws_here"] spPop := by
  refine .of F b m sc_L_pop (fun vs H Q E h => ?_) (fun cdv A outer s H vs Q E hr h => ?_)
  · obtain ⟨l, ds, rfl, hl, hd, q⟩ := h; rfl
  obtain ⟨l, ds, rfl, hl, hd, q⟩ := h
  have nd := sc_L_pop.nd
  refine ⟨_, pss_cons (ps_if (pt_cmpR (op_eqD hr) (pv 0) (pe_lst pa_nil) (nomark _)) (pss_one (ps_ret pe_int)) pss_nil)
    (pss_one (ps_ret (pe_bm PySem.F.plainAttrs_list PySem.F.slot_list_pop PySem.F.type_list_pop mt_popAt (pv 0) (pa_cons pe_int pa_nil)))), ?_⟩
  refine ⟨_, rfl, nil_len, fun p hp => ⟨_, _, .lst (SqL.of (same_new hp _ _ _ hl)) (DRs.ints ds), .lst (SqL.of upd_same) .nil, shaped_ints ds, rfl, _, rfl, ?_⟩⟩
  have S1 := same_new hp (.lst [])
  have hl1 := S1 _ _ hl
  refine ite2 (fun c => ?_) (fun c => ?_)
  · exact q 0 ds _ (by decide) (by decide) S1.b hl1 hd
  · cases ds with
    | nil => exact absurd rfl c
    | cons d ds =>
      refine ⟨_, rfl, .inl ⟨rfl, _, SqL.of hl1⟩, l, _, 0, 0, .int d, rfl, rfl, hl1, by decide, by decide, by simp [seqIndex?], rfl, ?_⟩
      exact q d ds _ (hd d List.mem_cons_self).1 (hd d List.mem_cons_self).2 (S1.b.trans sameB_upd) upd_same hd.tail

noncomputable abbrev n_L_book : List Str := ["_law_draws_here", "_law_most", "_law_at_most", "_law_many", "_law_number_here", "_law_pool", "_law_baskets", "_law_k", "_law_more", "_law_basket", "_law_other", "_law_kind"]
theorem sc_L_book : FnScope n_L_book ["_law_draws_here", "_law_most", "_law_at_most"] (defScope s_L_book) := ⟨rfl, rfl, rfl, by decide +kernel, rfl, by decide +kernel, by decide +kernel⟩
theorem nd_L_book_0 : (["_law_k", "_law_draws_here", "_law_many"] : List Str).Nodup := by decide +kernel
set_option maxHeartbeats 1000000 in
theorem ok_L_book (F : Fun K "_law_book" "_law_book" s_L_book f fd) (b : Binds K fd ["_law_draws_here", "_law_most", "_law_at_most"] []) (m : mg "_law_book" = some (.ref f)) (M_range : mg "range" = none) (M_len : mg "len" = none) (G_L_pop : Dfn P w K mg base k "_law_pop" ["_law_draws_here"] spPop) : Dfn P w K mg base (k + 1) "_law_book" ["_law_draws_here", "_law_most", "_law_at_most"] spBk8 := by
  refine .of F b m sc_L_book (fun vs H Q E h => ?_) (fun cdv A outer s H vs Q E hr h => ?_)
  · obtain ⟨l, ds, most, am, rfl, hl, hd, o1, o2, am0, am1, q⟩ := h; rfl
  obtain ⟨l, ds, most, am, rfl, hl, hd, o1, o2, am0, am1, q⟩ := h
  have nd := sc_L_book.nd
  have le := Nat.le_refl k
  refine ⟨_, pss_cons (ps_set (i := 3) nd rfl (Or.inr rfl) (pe_op op_add pe_int (pe_op op_mod (pe_def G_L_pop hr le rfl (pa_cons (pv 0) pa_nil)) (pv 1))))
    (pss_cons (ps_set (i := 4) nd rfl (Or.inl rfl) (pe_def G_L_pop hr le rfl (pa_cons (pv 0) pa_nil)))
    (pss_cons (ps_setCompC (i := 5) nd rfl rfl ["_law_k"] [0, 3] (sc := defScope s_L_book) (N := n_L_book) (.inl rfl) rfl ⟨rfl, by decide +kernel, by decide +kernel, by decide +kernel, by decide +kernel⟩ rfl (pi_range1 rfl M_range (pa_cons (pe_op op_add pe_int (pe_op op_mod (pv 4) pe_int)) pa_nil)) (fun cl s H C fp => (pg_name (i := 0) nd_L_book_0 rfl (Or.inl rfl))) (fun cl s H C fp => pifs_nil) (fun cl s H C fp => (pe_op op_mod (pe_def G_L_pop hr le rfl (pa_cons (pv 1) pa_nil)) (pe_op op_shl pe_int (pv 2)))) rfl)
    (pss_cons (ps_set (i := 6) nd rfl (Or.inl rfl) (pe_lst pa_nil))
    (pss_cons (ps_for PassesOwn.never rfl (pi_range1 rfl M_range (pa_cons (pe_op op_mod (pe_op op_fdiv (pv 4) pe_int) (pe_op op_add (pv 2) pe_int)) pa_nil)) (pg_name (i := 7) nd rfl (Or.inl rfl))
      (pss_cons (ps_set (i := 8) nd rfl (Or.inl rfl) (pe_def G_L_pop hr le rfl (pa_cons (pv 0) pa_nil)))
      (pss_cons (ps_set (i := 9) nd rfl (Or.inl rfl) (pe_op op_mod (pe_op op_fdiv (pv 8) pe_int) (pe_op op_shl pe_int (pv 3))))
      (pss_cons (ps_set (i := 10) nd rfl (Or.inl rfl) (pe_ix ix_list (pv 5) (pe_op op_mod (pe_op op_fdiv (pv 8) pe_int) (pe_callB call_len_seq (by rfl) M_len PySem.boot_len (pa_cons (pv 5) pa_nil))) (fun _ _ => rfl)))
      (pss_cons (ps_set (i := 11) nd rfl (Or.inl rfl) (pe_op op_mod (pv 8) pe_int))
      (pss_one (ps_expr (pe_bm PySem.F.plainAttrs_list PySem.F.slot_list_append PySem.F.type_list_append mt_append (pv 6) (pa_cons (pe_ix ix_list (pe_lst (pa_cons (pv 9) (pa_cons (pv 9) (pa_cons (pv 10) (pa_cons (pv 10) (pa_cons (pv 10) (pa_cons (pe_op op_and (pv 9) (pv 10)) (pa_cons (pe_op op_or (pv 9) (pv 10)) (pa_cons (pv 9) pa_nil))))))))) (pv 11) (fun _ _ => rfl)) pa_nil)))))))))
    (pss_one (ps_ret (pe_tup (pa_cons (pv 3) (pa_cons (pv 6) pa_nil))))))))), ?_⟩
  refine ⟨_, rfl, l, ds, rfl, hl, hd, fun n ds1 H1 n0 n1 SB1 hl1 hd1 => ?_⟩
  refine ⟨_, rfl, _, _, rfl, rfl, (by omega), _, _, rfl, rfl, ?_⟩
  have n0 := Int.emod_nonneg n (show most ≠ 0 by omega)
  have n1 := Int.emod_lt_of_pos n (show 0 < most by omega)
  obtain ⟨many, hmany⟩ : ∃ many, many = 1 + n % most := ⟨_, rfl⟩
  have q1 : 1 ≤ many := by omega
  have q2 : many ≤ most := by omega
  dsimp only
  rw [← hmany]
  refine ⟨_, rfl, l, ds1, rfl, hl1, hd1, fun nb ds2 H2 b0 b1 SB2 hl2 hd2 => ?_⟩
  have SB12 : SameB l H H2 := SB1.trans SB2
  have f0 := Int.emod_nonneg nb (show (5 : Int) ≠ 0 by decide)
  have f1 := Int.emod_lt_of_pos nb (show (0 : Int) < 5 by decide)
  dsimp only
  refine ⟨_, rfl, _, _, rfl, rfl, (by show (0 : Int) < 5; decide), _, _, rfl, rfl, _, rfl, by omega, by omega, comp_rangeG (fun acc i ys H' => ∃ (gs es : List Int), ys = gs.map V.int ∧ gs.length = i ∧ (∀ x ∈ gs, InB many x) ∧ SameB l H2 H' ∧ H' l = some (.lst (es.map V.int)) ∧ D31 es) (fun acc hacc => ⟨[], ds2, rfl, rfl, (fun x hx => nomatch hx), (same_new hacc _).b, same_new hacc _ _ _ hl2, hd2⟩) (fun acc i ys H' hacc hi hys h => ?_) (fun pool ys H3 hpool hy3 h => ?_)⟩
  · obtain ⟨gs, es, rfl, hgl, hin, SB, hl', he⟩ := h
    have accl : acc ≠ l := fun e => by rw [e, hl2] at hacc; cases hacc
    refine ⟨(Wk.refl _).set (by decide), yes_of ⟨_, rfl, l, es, rfl, hl', he, fun d es2 H2' d0 d1 SB2' hl2' he2 => ⟨_, rfl, _, _, rfl, rfl, ⟨by omega, by omega, by decide⟩, _, _, rfl, rfl, two_pow_pos _, cputG hi (SB2' _ _ accl hys) (by rw [List.length_map]; exact small1000 (by omega)) ⟨gs ++ [d % (1 * 2 ^ many.toNat)], es2, by rw [List.map_append]; rfl, by rw [List.length_append, hgl]; rfl, fun x hx => ?_, fun c o hc ho => ?_, ?_, he2⟩⟩⟩⟩
    · rcases List.mem_append.mp hx with z | z
      · exact hin x z
      · have : x = d % (1 * 2 ^ many.toNat) := by simpa using z
        rw [this]; exact mod_InB d many
    · rw [upd_ne (ne_of_none ho hacc)]; exact SB2' _ _ hc (SB _ _ hc ho)
    · rw [upd_ne (Ne.symm accl)]; exact hl2'
  obtain ⟨gs, es, rfl, hgl, hgin, SB3, hl3, he3⟩ := h
  have basel : pool ≠ l := fun e => by rw [e, hl2] at hpool; cases hpool
  have hgp : 0 < gs.length := by omega
  have hg5 : gs.length ≤ 5 := by omega
  have gne : gs ≠ [] := fun e => by rw [e] at hgp; exact absurd hgp (by decide)
  dsimp only [gName]
  refine ⟨nil_len, fun bk hbk => ?_⟩
  have bkl : bk ≠ l := fun e => by rw [e, hl3] at hbk; cases hbk
  have bkb : pool ≠ bk := fun e => by rw [← e, hy3] at hbk; cases hbk
  have SB13 : SameB l H H3 := SB12.trans SB3
  have hbkH : H bk = none := by
    cases e : H bk with
    | none => rfl
    | some o => rw [SB13 _ _ bkl e] at hbk; cases hbk
  have S4 := same_new hbk (.lst [])
  have hl5 := S4 _ _ hl3
  have hb5 := S4 _ _ hy3
  have hk5 : upd H3 bk (.lst []) bk = some (.lst []) := upd_same
  have SB5 : SameB l H (upd H3 bk (.lst [])) := SB13.trans S4.b
  generalize upd H3 bk (.lst []) = H5 at hl5 hb5 hk5 SB5 ⊢
  have e0 := Int.emod_nonneg (nb / 5) (show am + 1 ≠ 0 by omega)
  have e1 := Int.emod_lt_of_pos (nb / 5) (show 0 < am + 1 by omega)
  dsimp only [gName]
  refine ⟨_, rfl, _, _, rfl, rfl, ⟨by decide, by decide⟩, _, rfl, _, _, rfl, rfl, _, _, rfl, rfl, (by omega), _, rfl, by omega, by omega, for_range (fun i σ H' => ∃ (bs es : List Int) (z5 z7 z8 z9 z10 : Option V), σ = [some (.ref l), some (.int most), some (.int am), some (.int many), some (.int nb), some (.ref pool), some (.ref bk), z5, z7, z8, z9, z10] ∧ SameB l H H' ∧ H' l = some (.lst (es.map V.int)) ∧ D31 es ∧ H' pool = some (.lst (gs.map V.int)) ∧ H' bk = some (.lst (bs.map V.int)) ∧ bs.length = i ∧ ∀ x ∈ bs, InB many x) ⟨[], es, _, _, _, _, _, rfl, SB5, hl5, he3, hb5, hk5, rfl, (fun x hx => nomatch hx)⟩ ?_ ?_⟩
  · rintro i σ H' hi ⟨bs, es, z5, z7, z8, z9, z10, rfl, SB, hl', he, hb', hk', hbl, hin⟩
    have hi25 : i < 250 := by omega
    refine ⟨_, rfl, l, es, rfl, hl', he, fun d es2 H2 d0 d1 SB2 hl2 he2 => ?_⟩
    have hb2 := SB2 _ _ basel hb'
    have hk2 := SB2 _ _ bkl hk'
    have hot := mod_InB (d / 8) many
    have hp := emod_in (bs := gs) (d / 40000) gne
    obtain ⟨y, haty, hy⟩ := at_in (ns := gs) (k := d / 40000 % ((gs.map V.int).length : Int)) hp.1 (by have := hp.2; rwa [List.length_map] at this ⊢) hgin
    dsimp only
    refine ⟨_, rfl, _, _, rfl, rfl, ⟨by decide, by decide⟩, _, rfl, _, _, rfl, rfl, ⟨by omega, by omega, by decide⟩, _, _, rfl, rfl, two_pow_pos _, ?_⟩
    dsimp only
    generalize d / 8 % (1 * 2 ^ many.toNat) = x0 at hot ⊢
    refine ⟨_, rfl, _, rfl, _, _, rfl, rfl, ⟨by decide, by decide⟩, _, rfl, pool, _, rfl, .inl (SqL.of hb2), _, _, rfl, rfl, pos_len gne, pool, _, _, _, rfl, rfl, SqL.of hb2, haty, ?_⟩
    refine ⟨_, rfl, _, _, rfl, rfl, (by show (0 : Int) < 8; decide), ?_⟩
    dsimp only
    refine ⟨_, rfl, .inl ⟨rfl, _, SqL.of hk2⟩, _, rfl, _, rfl, _, rfl, _, rfl, _, rfl, _, rfl, _, rfl, _, _, rfl, rfl, _, rfl, _, rfl, _, _, rfl, rfl, _, rfl, (by show 8 ≤ sizeLine; decide), fun tl htl => ?_⟩
    obtain ⟨x, hatx, hx⟩ := at_in (many := many) (ns := [x0, x0, y, y, y, Builtin.bitAnd x0 y, Builtin.bitOr x0 y, x0]) (k := d % 8) (Int.emod_nonneg _ (by decide)) (Int.emod_lt_of_pos _ (by decide)) (by
      intro x hx
      simp only [List.mem_cons, List.not_mem_nil, or_false] at hx
      rcases hx with rfl | rfl | rfl | rfl | rfl | rfl | rfl | rfl
      · exact hot
      · exact hot
      · exact hy
      · exact hy
      · exact hy
      · exact hot.and hy
      · exact hot.or hy
      · exact hot)
    have S6 := same_new htl (.lst (([x0, x0, y, y, y, Builtin.bitAnd x0 y, Builtin.bitOr x0 y, x0] : List Int).map V.int))
    have hk6 := S6 _ _ hk2
    refine ⟨_, rfl, tl, _, _, _, rfl, rfl, SqL.of upd_same, hatx, bk, _, _, rfl, rfl, hk6, (by rw [List.length_map]; exact small1000 (by omega)), ?_⟩
    refine ⟨bs ++ [x], es2, _, _, _, _, _, rfl, fun c o hc ho => ?_, ?_, he2, ?_, by rw [upd_same, List.map_append]; rfl, by rw [List.length_append, hbl]; rfl, fun z hz => ?_⟩
    · rw [upd_ne (ne_of_none ho hbkH)]; exact S6 _ _ (SB2 _ _ hc (SB _ _ hc ho))
    · rw [upd_ne (Ne.symm bkl)]; exact S6 _ _ hl2
    · rw [upd_ne bkb]; exact S6 _ _ hb2
    · rcases List.mem_append.mp hz with w | w
      · exact hin z w
      · have : z = x := by simpa using w
        rw [this]; exact hx
  · rintro σ H' ⟨bs, es, z5, z7, z8, z9, z10, rfl, SB, hl', he, hb', hk', hbl, hin⟩
    refine ⟨_, rfl, _, rfl, (by show 2 ≤ sizeLine; decide), fun p hp => ?_⟩
    have Sp := same_new hp (.tup [.int many, .ref bk])
    have pl : p ≠ l := fun e => by rw [e, hl'] at hp; cases hp
    refine q p bk many bs es _ (SB.trans Sp.b) ?_ hbkH upd_same (Sp _ _ hk') (Sp _ _ hl') he ⟨q1, q2, by omega, hin⟩
    cases e : H p with
    | none => rfl
    | some o => rw [SB _ _ pl e] at hp; cases hp

end
end OL.Q83

namespace OL.Q83
open PySem L2 OL
section
variable {P : Program} {w : World} {K : PySem.W.Frag} {mg : Str → Option Value} {base : Heap} {f : Addr} {fd : FuncData} {k : Nat}
theorem scTop : FnScope ["number"] ["number"] (defScope sTop) := ⟨rfl, rfl, rfl, by decide +kernel, rfl, by decide +kernel, by decide +kernel⟩
theorem ok_top (F : Fun K "things_below" "things_below" sTop f fd) (b : Binds K fd ["number"] []) (m : mg "things_below" = some (.ref f)) : Dfn P w K mg base (k + 1) "things_below" ["number"] spTop := by
  refine .of F b m scTop (fun vs H Q E h => ?_) (fun cdv A outer s H vs Q E hr h => ?_)
  · obtain ⟨n, rfl, _⟩ := h; rfl
  obtain ⟨n, rfl, h0, h1, q⟩ := h
  refine ⟨_, pss_one (ps_ret (pe_op op_sub (pe_op op_shl pe_int (pv 0)) pe_int)), ?_⟩
  exact ⟨_, rfl, _, _, rfl, rfl, ⟨h0, by omega, by decide⟩, _, _, rfl, rfl, q⟩

theorem scHas : FnScope ["one", "other"] ["one", "other"] (defScope sHas) := ⟨rfl, rfl, rfl, by decide +kernel, rfl, by decide +kernel, by decide +kernel⟩
theorem ok_has (F : Fun K "has" "has" sHas f fd) (b : Binds K fd ["one", "other"] []) (m : mg "has" = some (.ref f)) : Dfn P w K mg base (k + 1) "has" ["one", "other"] spHas := by
  refine .of F b m scHas (fun vs H Q E h => ?_) (fun cdv A outer s H vs Q E hr h => ?_)
  · obtain ⟨x, y, rfl, _⟩ := h; rfl
  obtain ⟨x, y, rfl, q⟩ := h
  refine ⟨_, pss_one (ps_ret (pe_cmpR op_eq (pe_op op_and (pv 0) (pv 1)) (pv 1) (nomark _))), ?_⟩
  refine ⟨_, rfl, _, rfl, _, _, rfl, rfl, _, rfl, rfl, ?_⟩
  rw [int_eq]; exact q

theorem scHasT : FnScope ["lot", "thing"] ["lot", "thing"] (defScope sHasT) := ⟨rfl, rfl, rfl, by decide +kernel, rfl, by decide +kernel, by decide +kernel⟩
theorem ok_hasT (F : Fun K "has_thing" "has_thing" sHasT f fd) (b : Binds K fd ["lot", "thing"] []) (m : mg "has_thing" = some (.ref f)) (G : Dfn P w K mg base k "has" ["one", "other"] spHas) : Dfn P w K mg base (k + 1) "has_thing" ["lot", "thing"] spHasT := by
  refine .of F b m scHasT (fun vs H Q E h => ?_) (fun cdv A outer s H vs Q E hr h => ?_)
  · obtain ⟨lot, t, rfl, _⟩ := h; rfl
  obtain ⟨lot, t, rfl, t0, t1, q⟩ := h
  refine ⟨_, pss_one (ps_ret (pe_def G hr (Nat.le_refl _) rfl (pa_cons (pv 0) (pa_cons (pe_op op_shl pe_int (pv 1)) pa_nil)))), ?_⟩
  exact ⟨_, rfl, _, rfl, _, _, rfl, rfl, ⟨t0, by omega, by decide⟩, _, _, rfl, q⟩

theorem scThings : FnScope ["lot"] ["lot"] (defScope sThings) := ⟨rfl, rfl, rfl, by decide +kernel, rfl, by decide +kernel, by decide +kernel⟩
theorem ndTL : (["thing", "lot"] : List Str).Nodup := by decide +kernel
theorem ok_things (F : Fun K "things_in" "things_in" sThings f fd) (b : Binds K fd ["lot"] []) (m : mg "things_in" = some (.ref f)) (mr : mg "range" = none) (G : Dfn P w K mg base k "has_thing" ["lot", "thing"] spHasT) : Dfn P w K mg base (k + 1) "things_in" ["lot"] (spInts thingsF) := by
  refine .of F b m scThings (fun vs H Q E h => ?_) (fun cdv A outer s H vs Q E hr h => ?_)
  · obtain ⟨lot, rfl, _⟩ := h; rfl
  obtain ⟨lot, rfl, hs, q⟩ := h
  refine ⟨_, pss_one (ps_ret (pe_comp ["thing"] [0] (sc := defScope sThings) (N := ["lot"]) rfl rfl ⟨rfl, by decide +kernel, by decide +kernel, by decide +kernel, by decide +kernel⟩ rfl
    (pi_range1 rfl mr (pa_cons (pe_bm0 PySem.F.plainAttrs_int PySem.F.slot_int_bit_length PySem.F.type_int_bit_length mt_bits (pv 0)) pa_nil)) (fun cl s H C fp => pg_name (i := 0) ndTL rfl (Or.inl rfl))
    (fun cl s H C fp => pifs_one (pt_val (pe_def G hr (Nat.le_refl _) rfl (pa_cons (pv 1) (pa_cons (pv 0) pa_nil))))) (fun cl s H C fp => pv 0))), ?_⟩
  have hb := hs.bits
  refine ⟨_, rfl, rfl, _, rfl, rfl, _, rfl, by omega, by omega, ?_⟩
  rw [Int.toNat_natCast]
  refine comp_range (fun i => (upto (fun t => hasF lot (1 * 2 ^ t.toNat)) i).map V.int) rfl (fun acc i H2 hacc hi S h0 => ?_) (fun acc H2 hacc S h0 => q acc H2 S hacc h0)
  rw [show (0 + (i : Int)) = (i : Int) from Int.zero_add _]
  refine ⟨(Wk.refl _).set (by decide), _, rfl, _, rfl, _, _, rfl, by omega, by omega, _, rfl, ?_⟩
  refine ite2 (fun c => ?_) (fun c => ?_)
  · refine ⟨_, rfl, cput hi hacc S h0 (Same.refl _) ?_ ?_⟩
    · show (upto _ (i + 1)).map V.int = _
      rw [upto_yes (p := fun t => hasF lot (1 * 2 ^ t.toNat)) c, List.map_append]; rfl
    · rw [List.length_map]
      have := upto_len (fun t => hasF lot (1 * 2 ^ t.toNat)) i
      exact small1000 (by omega)
  · refine cskip hi S h0 (Same.refl _) ?_
    show (upto _ (i + 1)).map V.int = _
    rw [upto_no (p := fun t => hasF lot (1 * 2 ^ t.toNat)) c]

theorem scFewer : FnScope ["lot"] ["lot"] (defScope sFewer) := ⟨rfl, rfl, rfl, by decide +kernel, rfl, by decide +kernel, by decide +kernel⟩
theorem ok_fewer (F : Fun K "one_thing_fewer" "one_thing_fewer" sFewer f fd) (b : Binds K fd ["lot"] []) (m : mg "one_thing_fewer" = some (.ref f)) (G : Dfn P w K mg base k "things_in" ["lot"] (spInts thingsF)) : Dfn P w K mg base (k + 1) "one_thing_fewer" ["lot"] (spInts fewF) := by
  refine .of F b m scFewer (fun vs H Q E h => ?_) (fun cdv A outer s H vs Q E hr h => ?_)
  · obtain ⟨lot, rfl, _⟩ := h; rfl
  obtain ⟨lot, rfl, hs, q⟩ := h
  refine ⟨_, pss_one (ps_ret (pe_comp ["thing"] [0] (sc := defScope sFewer) (N := ["lot"]) rfl rfl ⟨rfl, by decide +kernel, by decide +kernel, by decide +kernel, by decide +kernel⟩ rfl
    (pi_list (pe_def G hr (Nat.le_refl _) rfl (pa_cons (pv 0) pa_nil))) (fun cl s H C fp => pg_name (i := 0) ndTL rfl (Or.inl rfl))
    (fun cl s H C fp => pifs_nil) (fun cl s H C fp => pe_op op_sub (pv 1) (pe_op op_shl pe_int (pv 0))))), ?_⟩
  have hb := few_len hs
  refine ⟨_, rfl, lot, rfl, hs, fun r H1 S1 hr0 hr1 => ⟨r, rfl, ⟨_, SqL.of hr1⟩, ?_⟩⟩
  refine comp_list (SqL.of hr1) (fun i => (((thingsF lot).take i).map fun t => lot - 1 * 2 ^ t.toNat).map V.int) rfl (fun acc i x H2 hacc hi hx S h0 => ?_) (fun acc H2 hacc S h0 => ?_)
  · have hx' := ints_get hx
    subst hx'
    rw [List.length_map] at hi ⊢
    have tk := take_get hi
    obtain ⟨t, ht, e, _⟩ := upto_mem (getD_mem hi)
    have hbb := hs.bits
    have g : 0 ≤ (thingsF lot).getD i 0 ∧ (thingsF lot).getD i 0 ≤ 12 := by rw [show (thingsF lot).getD i 0 = (t : Int) from e]; omega
    refine ⟨(Wk.refl _).set (by decide), yes_of ⟨_, rfl, _, rfl, _, _, rfl, rfl, ⟨g.1, Int.le_trans g.2 (by decide), by decide⟩, _, _, rfl, rfl, cput hi hacc S h0 (Same.refl _) ?_ ?_⟩⟩
    · show (((thingsF lot).take (i + 1)).map _).map V.int = _
      rw [tk, List.map_append, List.map_append]; rfl
    · rw [List.length_map, List.length_map, List.length_take]
      exact small1000 (by omega)
  · rw [List.length_map, List.take_length] at h0
    exact q acc H2 (S1.trans S) (S1.free hacc) h0

theorem scWithout : FnScope ["lot", "other"] ["lot", "other"] (defScope sWithout) := ⟨rfl, rfl, rfl, by decide +kernel, rfl, by decide +kernel, by decide +kernel⟩
theorem ok_without (F : Fun K "without" "without" sWithout f fd) (b : Binds K fd ["lot", "other"] []) (m : mg "without" = some (.ref f)) : Dfn P w K mg base (k + 1) "without" ["lot", "other"] spWithout := by
  refine .of F b m scWithout (fun vs H Q E h => ?_) (fun cdv A outer s H vs Q E hr h => ?_)
  · obtain ⟨x, y, rfl, _⟩ := h; rfl
  obtain ⟨x, y, rfl, x0, y0, q⟩ := h
  exact ⟨_, pss_one (ps_ret (pe_op op_sub (pv 0) (pe_op op_and (pv 0) (pv 1)))), _, rfl, _, rfl, _, rfl, _, _, rfl, rfl, _, _, rfl, rfl, q⟩
theorem scHold : FnScope ["book", "lot"] ["book", "lot"] (defScope sHold) := ⟨rfl, rfl, rfl, by decide +kernel, rfl, by decide +kernel, by decide +kernel⟩
theorem ndPB : (["place", "basket", "lot"] : List Str).Nodup := by decide +kernel
theorem ok_hold (F : Fun K "holders" "holders" sHold f fd) (b : Binds K fd ["book", "lot"] []) (m : mg "holders" = some (.ref f)) (me : mg "enumerate" = none) (G : Dfn P w K mg base k "has" ["one", "other"] spHas) :
    Dfn P w K mg base (k + 1) "holders" ["book", "lot"] (spHold K) := by
  refine .of F b m scHold (fun vs H Q E h => ?_) (fun cdv A outer s H vs Q E hr h => ?_)
  · obtain ⟨b, many, bs, lot, rfl, _⟩ := h; rfl
  obtain ⟨bk, many, bs, lot, rfl, hB, hz, q⟩ := h
  refine ⟨_, pss_one (ps_ret (pe_comp ["place", "basket"] [1] (sc := defScope sHold) (N := ["book", "lot"]) rfl rfl ⟨rfl, by decide +kernel, by decide +kernel, by decide +kernel, by decide +kernel⟩ rfl (pi_enum rfl me (pa_cons (pe_ix ix_tup (pv 0) pe_int (fun _ _ => rfl)) pa_nil))
    (fun cl s H C fp => pg_tupK (n := 2) K rfl rfl (pgs_cons (pg_name (i := 0) ndPB rfl (Or.inl rfl)) (pgs_cons (pg_name (i := 1) ndPB rfl (Or.inl rfl)) pgs_nil)))
    (fun cl s H C fp => pifs_one (pt_val (pe_def G hr (Nat.le_refl _) rfl (pa_cons (pv 1) (pa_cons (pv 2) pa_nil)))))
    (fun cl s H C fp => pv 0))), ?_⟩
  obtain ⟨l, hb, hl⟩ := hB
  refine ⟨_, rfl, bk, _, _, _, rfl, rfl, hb, rfl, l, rfl, ⟨_, hl⟩, ?_⟩
  refine comp_enum hl (fun i => (hold bs lot i).map V.int) rfl (fun acc i x p H' hacc hi hx S h0 hp => ?_) (fun acc H' hacc S h0 => ?_)
  · have hx' := ints_get hx
    subst hx'
    refine ⟨p, _, rfl, SqT.of upd_same, rfl, _, _, rfl, _, _, rfl, rfl, ?_⟩
    refine ⟨(Wk.set (i := 1) ((Wk.refl _).set (i := 0) (by decide)) (by decide)), ?_⟩
    refine ⟨_, rfl, _, rfl, _, _, rfl, _, rfl, ?_⟩
    refine ite2 (fun c => ?_) (fun c => ?_)
    · refine ⟨_, rfl, cput hi hacc S h0 (same_new hp _) ?_ ?_⟩
      · show (hold bs lot (i + 1)).map V.int = _
        rw [hold_yes c, List.map_append]; rfl
      · rw [List.length_map]
        have h1 := hold_len bs lot i
        rw [List.length_map] at hi
        exact small1000 (by omega)
    · refine cskip hi S h0 (same_new hp _) ?_
      show (hold bs lot (i + 1)).map V.int = _
      rw [hold_no (by simpa using c)]
  · rw [List.length_map] at h0
    exact q acc H' S hacc h0

theorem scCount : FnScope ["book", "lot"] ["book", "lot"] (defScope sCount) := ⟨rfl, rfl, rfl, by decide +kernel, rfl, by decide +kernel, by decide +kernel⟩
theorem ok_count (F : Fun K "count" "count" sCount f fd) (b : Binds K fd ["book", "lot"] []) (m : mg "count" = some (.ref f)) (ml : mg "len" = none) (GH : Dfn P w K mg base k "holders" ["book", "lot"] (spHold K)) :
    Dfn P w K mg base (k + 1) "count" ["book", "lot"] (spClose K fun _ bs lot => .int (countF bs lot)) := by
  refine .of F b m scCount (fun vs H Q E h => ?_) (fun cdv A outer s H vs Q E hr h => ?_)
  · obtain ⟨b, many, bs, lot, rfl, _⟩ := h; rfl
  obtain ⟨bk, many, bs, lot, rfl, hB, hz, h0, h1, q⟩ := h
  refine ⟨_, pss_one (ps_ret (pe_callB call_len_seq (by rfl) ml PySem.boot_len (pa_cons (pe_def GH hr (Nat.le_refl _) rfl (pa_cons (pv 0) (pa_cons (pv 1) pa_nil))) pa_nil))), ?_⟩
  refine ⟨_, rfl, _, rfl, bk, many, bs, lot, rfl, hB, hz, fun r H' S hr' h' => ⟨r, _, rfl, .inl (SqL.of h'), ?_⟩⟩
  rw [List.length_map]
  exact q H' S


theorem scCounted : FnScope ["book", "lots"] ["book", "lots"] (defScope sCounted) := ⟨rfl, rfl, rfl, by decide +kernel, rfl, by decide +kernel, by decide +kernel⟩
theorem ndLB : (["lot", "book"] : List Str).Nodup := by decide +kernel
theorem ok_counted (F : Fun K "counted" "counted" sCounted f fd) (b : Binds K fd ["book", "lots"] []) (m : mg "counted" = some (.ref f)) (GN : Dfn P w K mg base k "count" ["book", "lot"] (spClose K fun _ bs lot => .int (countF bs lot))) : Dfn P w K mg base (k + 1) "counted" ["book", "lots"] (spCounted K) := by
  refine .of F b m scCounted (fun vs H Q E h => ?_) (fun cdv A outer s H vs Q E hr h => ?_)
  · obtain ⟨b, l, many, bs, ns, rfl, _⟩ := h; rfl
  obtain ⟨bk, l, many, bs, ns, rfl, hB, hz, h0, h1, hl, hn, q⟩ := h
  refine ⟨_, pss_one (ps_ret (pe_comp ["lot"] [0] (sc := defScope sCounted) (N := ["book", "lots"]) rfl rfl ⟨rfl, by decide +kernel, by decide +kernel, by decide +kernel, by decide +kernel⟩ rfl
    (pi_list (pv 1)) (fun cl s H C fp => pg_name (i := 0) ndLB rfl (Or.inl rfl)) (fun cl s H C fp => pifs_nil) (fun cl s H C fp => pe_tup (pa_cons (pv 0) (pa_cons (pe_def GN hr (Nat.le_refl _) rfl (pa_cons (pv 1) (pa_cons (pv 0) pa_nil))) pa_nil))))), ?_⟩
  refine ⟨_, rfl, l, rfl, ⟨_, hl⟩, comp_listR hl (fun i => rowsC bs (ns.take i)) rfl (fun acc i v ys H2 hacc hi hv S h0' hR => ?_) (fun acc ys H2 hacc S h0' hR => ?_)⟩
  · have hv' := ints_get hv
    subst hv'
    rw [List.length_map] at hi
    refine ⟨(Wk.refl _).set (by decide), yes_of ⟨_, rfl, _, rfl, _, rfl, bk, many, bs, _, rfl, hB.same S, hz, h0, h1, fun H3 S3 => ⟨(by show 2 ≤ sizeLine; decide), fun tp htp => ?_⟩⟩⟩
    refine cputR (r := (ns.getD i 0, countF bs (ns.getD i 0))) (by rw [List.length_map]; exact hi) hacc S h0' hR (S3.trans (same_new htp _)) upd_same ?_ ?_
    · show rowsC bs (ns.take (i + 1)) = _
      unfold rowsC
      rw [take_get hi, List.map_append]; rfl
    · have := hR.length
      unfold rowsC at this
      rw [List.length_map, List.length_take] at this
      exact small4096 (by omega)
  · rw [List.length_map, List.take_length] at hR
    exact q acc ys H2 S hacc h0' hR
theorem paired_mapF8 {β γ : Type} {F : V → γ → Prop} {f : β → γ} : ∀ {ys : List V} {as : List β}, Paired (fun y x => F y (f x)) ys as → Paired F ys (as.map f)
  | _, _, .nil => .nil
  | _, _, .cons h t => .cons h (paired_mapF8 t)
end
end OL.Q83

namespace OL.Q83
open PySem L2 OL
section
variable {P : Program} {w : World} {K : PySem.W.Frag} {mg : Str → Option Value} {base : Heap} {f : Addr} {fd : FuncData} {k : Nat}
theorem getD_at' {ns : List Int} {i : Nat} (h : i < ns.length) : ns[i] = ns.getD i 0 := by rw [List.getD_eq_getElem?_getD, List.getElem?_eq_getElem h]; rfl
theorem valminD_mark (b lot : Int) : valminD (lackM lot b) (-1) = .int (markF b lot) := by
  unfold valminD markF
  split <;> rfl
theorem scHasAny : FnScope ["lot", "others", "other"] ["lot", "others"] (defScope sHasAny) := ⟨rfl, rfl, rfl, by decide +kernel, rfl, by decide +kernel, by decide +kernel⟩
theorem ok_hasany (F : Fun K "has_any" "has_any" sHasAny f fd) (b : Binds K fd ["lot", "others"] []) (m : mg "has_any" = some (.ref f)) (G : Dfn P w K mg base k "has" ["one", "other"] spHas) : Dfn P w K mg base (k + 1) "has_any" ["lot", "others"] (spAny K fun x t => hasF x t) := by
  refine .of F b m scHasAny (fun vs H Q E h => ?_) (fun cdv A outer s H vs Q E hr h => ?_)
  · obtain ⟨x, o, ts, rfl, _⟩ := h; rfl
  obtain ⟨x, o, ts, rfl, ho, q⟩ := h
  have nd := scHasAny.nd
  refine ⟨_, pss_cons (ps_for PassesOwn.never rfl (pi_list (pv 1)) (pg_name (i := 2) nd rfl (Or.inl rfl)) (pss_one (ps_if (pt_val (pe_def G hr (Nat.le_refl _) rfl (pa_cons (pv 0) (pa_cons (pv 2) pa_nil)))) (pss_one (ps_ret pe_bl)) pss_nil))) (pss_one (ps_ret pe_bl)), ?_⟩
  refine ⟨_, rfl, o, rfl, ⟨_, ho⟩, for_list (xs := ts.map V.int) (fun i σ H' => ∃ z2 : Option V, σ = [some (.int x), some (.ref o), z2] ∧ H' = H ∧ ((ts.take i).any fun t => hasF x t) = false) ⟨_, rfl, rfl, rfl⟩ (fun i σ H' _ h => by obtain ⟨_, _, rfl, _⟩ := h; exact ho) ?_ ?_⟩
  · rintro i y σ H' hy ⟨z2, rfl, rfl, hn⟩
    have hi : i < ts.length := by have := (List.getElem?_eq_some_iff.mp hy).1; rwa [List.length_map] at this
    have hy' := ints_get hy
    subst hy'
    refine ⟨_, rfl, _, rfl, _, _, rfl, _, rfl, ?_⟩
    refine ite2 (fun c => ?_) (fun c => ?_)
    · have : (ts.any fun t => hasF x t) = true := List.any_eq_true.mpr ⟨_, getD_mem hi, c⟩
      rw [this] at q
      exact q
    · refine ⟨_, rfl, rfl, ?_⟩
      rw [take_get hi, List.any_append, hn]
      simp only [List.any_cons, List.any_nil, Bool.or_false, Bool.false_or]
      exact Bool.eq_false_iff.mpr c
  · rintro σ H' ⟨z2, rfl, rfl, hn⟩
    rw [List.length_map, List.take_length] at hn
    rw [hn] at q
    exact q
theorem scAll : FnScope ["many"] ["many"] (defScope sAll) := ⟨rfl, rfl, rfl, by decide +kernel, rfl, by decide +kernel, by decide +kernel⟩
theorem ok_all (F : Fun K "all_lots" "all_lots" sAll f fd) (b : Binds K fd ["many"] []) (m : mg "all_lots" = some (.ref f)) (ml : mg "list" = none) (mr : mg "range" = none) (G : Dfn P w K mg base k "things_below" ["number"] spTop) : Dfn P w K mg base (k + 1) "all_lots" ["many"] spAll := by
  refine .of F b m scAll (fun vs H Q E h => ?_) (fun cdv A outer s H vs Q E hr h => ?_)
  · obtain ⟨n, rfl, _⟩ := h; rfl
  obtain ⟨n, rfl, n0, n1, q⟩ := h
  refine ⟨_, pss_one (ps_ret (pe_callTy (call_listRng rfl) (by rfl) ml PyProof.Rows.boot_list (pa_cons (pe_callTy call_rngV (by rfl) mr PyProof.Rows.boot_range (pa_cons (pe_op op_add (pe_def G hr (Nat.le_refl _) rfl (pa_cons (pv 0) pa_nil)) pe_int) pa_nil)) pa_nil))), ?_⟩
  have e : topF n + 1 = ((2 ^ n.toNat : Nat) : Int) := by unfold topF; rw [Int.one_mul, pow_cast]; omega
  have hp := pow12 n1
  refine ⟨_, rfl, n, rfl, n0, by omega, _, _, rfl, rfl, _, rfl, fun p hp0 => ⟨p, topF n + 1, rfl, upd_same, (by rw [e]; exact Int.natCast_nonneg _), (by rw [e]; omega), fun l hl => ?_⟩⟩
  have e2 : (topF n + 1).toNat = 2 ^ n.toNat := by rw [e]; exact Int.toNat_natCast _
  rw [e2]
  have S1 := same_new hp0 (.rng 0 (topF n + 1))
  exact q l _ (S1.trans (same_new hl _)) (S1.free hl) upd_same

noncomputable abbrev n_least_among : List Str := ["lots", "told", "lot"]
theorem sc_least_among : FnScope n_least_among ["lots"] (defScope s_least_among) := ⟨rfl, rfl, rfl, by decide +kernel, rfl, by decide +kernel, by decide +kernel⟩
theorem ok_least_among (F : Fun K "least_among" "least_among" s_least_among f fd) (b : Binds K fd ["lots"] []) (m : mg "least_among" = some (.ref f))  (G_has_any : Dfn P w K mg base k "has_any" ["lot", "others"] (spAny K fun x t => hasF x t)) : Dfn P w K mg base (k + 1) "least_among" ["lots"] (spLeastA K) := by
  refine .of F b m sc_least_among (fun vs H Q E h => ?_) (fun cdv A outer s H vs Q E hr h => ?_)
  · obtain ⟨l, ns, rfl, hl, hz, hso, hnn, q⟩ := h; rfl
  obtain ⟨l, ns, rfl, hl, hz, hso, hnn, q⟩ := h
  have nd := sc_least_among.nd
  have le := Nat.le_refl k
  refine ⟨_, pss_cons (ps_set (i := 1) nd rfl (Or.inl rfl) (pe_lst pa_nil))
    (pss_cons (ps_for PassesOwn.never rfl (pi_list (pv 0)) (pg_name (i := 2) nd rfl (Or.inl rfl))
      (pss_one (ps_if (pt_not (pt_val (pe_def G_has_any hr le rfl (pa_cons (pv 2) (pa_cons (pv 1) pa_nil))))) (pss_one (ps_expr (pe_bm PySem.F.plainAttrs_list PySem.F.slot_list_append PySem.F.type_list_append mt_append (pv 1) (pa_cons (pv 2) pa_nil)))) pss_nil)))
    (pss_one (ps_ret (pv 1)))), ?_⟩
  refine ⟨nil_len, fun t ht => ?_⟩
  have S1 := same_new ht (.lst [])
  have ht1 : upd H t (.lst []) t = some (.lst []) := upd_same
  generalize upd H t (.lst []) = H1 at S1 ht1 ⊢
  have hl1 := S1.seq hl
  dsimp only [gName]
  refine ⟨_, rfl, l, rfl, ⟨_, hl1⟩, for_list (xs := ns.map V.int) (fun i σ H' => ∃ z2 : Option V, σ = [some (.ref l), some (.ref t), z2] ∧ SameB t H1 H' ∧ H' t = some (.lst ((leastF (ns.take i)).map V.int))) ⟨_, rfl, (Same.refl _).b, ht1⟩ (fun i σ H' _ h => by obtain ⟨_, _, SB, _⟩ := h; exact (SB.same S1 ht).seq hl) ?_ ?_⟩
  · rintro i y σ H2 hy ⟨z2, rfl, SB, ht2⟩
    have hi : i < ns.length := by have := (List.getElem?_eq_some_iff.mp hy).1; rwa [List.length_map] at this
    have hy' := ints_get hy
    subst hy'
    have hle := leastF_len ns i (by omega)
    refine ⟨_, rfl, _, rfl, _, t, _, rfl, SqL.of ht2, _, rfl, ?_⟩
    rw [leastF_succ hi]
    unfold stepLe
    cases c : (leastF (ns.take i)).any fun t => hasF (ns.getD i 0) t with
    | true => exact iteF ⟨_, rfl, SB, by rw [if_pos rfl]; exact ht2⟩
    | false =>
      refine iteT ⟨_, rfl, .inl ⟨rfl, _, SqL.of ht2⟩, _, rfl, t, _, _, rfl, rfl, ht2, (by rw [List.length_map]; exact big5 (by omega)), _, rfl, SB.trans sameB_upd, ?_⟩
      rw [upd_same, if_neg (by decide), List.map_append]; rfl
  · rintro σ H2 ⟨z2, rfl, SB, ht2⟩
    rw [List.length_map, List.take_length] at ht2
    exact ⟨_, rfl, q t _ H2 (SB.same S1 ht) ht ht2 (least_ok hso hnn)⟩
noncomputable abbrev n_parts : List Str := ["one", "other", "lot"]
theorem sc_parts : FnScope n_parts ["one", "other", "lot"] (defScope s_parts) := ⟨rfl, rfl, rfl, by decide +kernel, rfl, by decide +kernel, by decide +kernel⟩
theorem ok_parts (F : Fun K "parts" "parts" s_parts f fd) (b : Binds K fd ["one", "other", "lot"] []) (m : mg "parts" = some (.ref f))  (G_count : Dfn P w K mg base k "count" ["book", "lot"] (spClose K fun _ bs lot => .int (countF bs lot))) : Dfn P w K mg base (k + 1) "parts" ["one", "other", "lot"] (spPartsP K) := by
  refine .of F b m sc_parts (fun vs H Q E h => ?_) (fun cdv A outer s H vs Q E hr h => ?_)
  · obtain ⟨a, b, many, as, bs, lot, rfl, hA, hB, za, zb, h0, h1, q⟩ := h; rfl
  obtain ⟨a, b, many, as, bs, lot, rfl, hA, hB, za, zb, h0, h1, q⟩ := h
  have nd := sc_parts.nd
  have le := Nat.le_refl k
  refine ⟨_, pss_one (ps_ret (pe_and (pe_cmpR op_gt (pe_def G_count hr le rfl (pa_cons (pv 0) (pa_cons (pv 2) pa_nil))) pe_int (nomark _)) (pe_one (pe_cmpR op_eq (pe_def G_count hr le rfl (pa_cons (pv 1) (pa_cons (pv 2) pa_nil))) pe_int (nomark _))))), ?_⟩
  refine ⟨_, rfl, _, rfl, a, many, as, lot, rfl, hA, za, h0, by omega, fun H1 S1 => ⟨_, _, rfl, rfl, _, rfl, ?_⟩⟩
  unfold partsB at q
  cases c : decide (0 < countF as lot) with
  | false => exact iteF (by have := q H1 S1; rw [c] at this; exact this)
  | true =>
    refine iteT ⟨_, rfl, _, rfl, b, many, bs, lot, rfl, hB.same S1, zb, h0, by omega, fun H2 S2 => ⟨rfl, ?_⟩⟩
    have := q H2 (S1.trans S2)
    rw [c] at this
    rw [show decide (V.int (countF bs lot) = V.int 0) = decide (countF bs lot = 0) by simp]
    exact this
noncomputable abbrev n_least_parting : List Str := ["one", "other"]
theorem sc_least_parting : FnScope n_least_parting ["one", "other"] (defScope s_least_parting) := ⟨rfl, rfl, rfl, by decide +kernel, rfl, by decide +kernel, by decide +kernel⟩
theorem nd_least_parting_0 : (["lot", "one", "other"] : List Str).Nodup := by decide +kernel
theorem ok_least_parting (F : Fun K "least_parting" "least_parting" s_least_parting f fd) (b : Binds K fd ["one", "other"] []) (m : mg "least_parting" = some (.ref f))  (G_counted : Dfn P w K mg base k "counted" ["book", "lots"] (spCounted K)) (G_least_among : Dfn P w K mg base k "least_among" ["lots"] (spLeastA K)) (G_parts : Dfn P w K mg base k "parts" ["one", "other", "lot"] (spPartsP K)) (G_all_lots : Dfn P w K mg base k "all_lots" ["many"] spAll) : Dfn P w K mg base (k + 1) "least_parting" ["one", "other"] (spLeastP K) := by
  refine .of F b m sc_least_parting (fun vs H Q E h => ?_) (fun cdv A outer s H vs Q E hr h => ?_)
  · obtain ⟨a, b, many, as, bs, rfl, hA, hB, za, zb, h0, h1, q⟩ := h; rfl
  obtain ⟨a, b, many, as, bs, rfl, hA, hB, za, zb, h0, h1, q⟩ := h
  have nd := sc_least_parting.nd
  have le := Nat.le_refl k
  refine ⟨_, pss_one (ps_ret (pe_def G_counted hr le rfl (pa_cons (pv 0) (pa_cons (pe_def G_least_among hr le rfl (pa_cons (pe_compC ["lot"] [0, 1] (sc := defScope s_least_parting) (N := n_least_parting) (.inl rfl) rfl ⟨rfl, by decide +kernel, by decide +kernel, by decide +kernel, by decide +kernel⟩ rfl (pi_list (pe_def G_all_lots hr le rfl (pa_cons (pe_ix ix_tup (pv 0) pe_int (fun _ _ => rfl)) pa_nil))) (fun cl s H C fp => (pg_name (i := 0) nd_least_parting_0 rfl (Or.inl rfl))) (fun cl s H C fp => pifs_one (pt_val (pe_def G_parts hr le rfl (pa_cons (pv 1) (pa_cons (pv 2) (pa_cons (pv 0) pa_nil)))))) (fun cl s H C fp => (pv 0))) pa_nil)) pa_nil)))), ?_⟩
  have h4 := p12 h1
  obtain ⟨la, ha1, ha2⟩ := id hA
  refine ⟨_, rfl, _, rfl, a, _, _, _, rfl, rfl, ha1, rfl, many, rfl, h0, h1, fun al H1 S1 hal0 hal => ⟨al, rfl, ⟨_, SqL.of hal⟩, compV_list (SqL.of hal) (partsB as bs) V.int (by rw [rangeI_length]; omega) (fun x H2 hm S => turn_pick (y := .int x) (fun Q h => ⟨_, rfl, _, rfl, _, rfl, a, b, many, as, bs, x, rfl, hA.same (S1.trans S), hB.same (S1.trans S), za, zb, h0, h1, fun H3 S3 => ⟨_, rfl, h _ S3⟩⟩) (fun _ H3 S3 => .pure fun Q h => ⟨_, rfl, h⟩) fun _ _ _ => rfl) (fun pl H2 hpl0 S2 hpl => ?_)⟩⟩
  have hpn := partL_len many as bs
  refine ⟨pl, partL many as bs, rfl, SqL.of hpl, by omega, (partL_rise many as bs).imp fun {a b} h => Int.le_of_lt h, fun x hx => (mem_partL.mp hx).1.1, fun tl T H3 S3 htl0 htl hT => ?_⟩
  have S13 := S1.trans (S2.trans S3)
  have hTn := hT.len
  exact ⟨a, tl, many, as, T, rfl, hA.same S13, za, h0, by omega, SqL.of htl, by omega, fun r xs H4 S4 hr0 hr1 hR => q r xs T H4 (S13.trans S4) (S13.free hr0) hr1 hR hT⟩
noncomputable abbrev n_lots_rise : List Str := ["many", "rows", "last", "row"]
theorem sc_lots_rise : FnScope n_lots_rise ["many", "rows"] (defScope s_lots_rise) := ⟨rfl, rfl, rfl, by decide +kernel, rfl, by decide +kernel, by decide +kernel⟩
theorem ok_lots_rise (F : Fun K "lots_rise" "lots_rise" s_lots_rise f fd) (b : Binds K fd ["many", "rows"] []) (m : mg "lots_rise" = some (.ref f))  (G_things_below : Dfn P w K mg base k "things_below" ["number"] spTop) : Dfn P w K mg base (k + 1) "lots_rise" ["many", "rows"] spRise := by
  refine .of F b m sc_lots_rise (fun vs H Q E h => ?_) (fun cdv A outer s H vs Q E hr h => ?_)
  · obtain ⟨p, many, xs, ks, rfl, h0, h1, hp, hF, q⟩ := h; rfl
  obtain ⟨p, many, xs, ks, rfl, h0, h1, hp, hF, q⟩ := h
  have nd := sc_lots_rise.nd
  have le := Nat.le_refl k
  refine ⟨_, pss_cons (ps_set (i := 2) nd rfl (Or.inl rfl) (pe_un un_neg pe_int))
    (pss_cons (ps_for PassesOwn.never rfl (pi_list (pv 1)) (pg_name (i := 3) nd rfl (Or.inl rfl))
      (pss_cons (ps_if (pt_cmpR op_le (pe_ix ix_tup (pv 3) pe_int (fun _ _ => rfl)) (pv 2) (nomark _)) (pss_one (ps_ret pe_bl)) pss_nil)
      (pss_one (ps_set (i := 2) nd rfl (Or.inl rfl) (pe_ix ix_tup (pv 3) pe_int (fun _ _ => rfl))))))
    (pss_one (ps_ret (pe_cmpR op_le (pv 2) (pe_def G_things_below hr le rfl (pa_cons (pv 0) pa_nil)) (nomark _))))), ?_⟩
  refine ⟨_, rfl, ?_⟩
  dsimp only [gName]
  have hl := Paired.length hF
  refine ⟨_, rfl, p, rfl, ⟨_, SqL.of hp⟩, for_list (xs := xs) (fun i σ H' => ∃ (last : Int) (z3 : Option V), σ = [some (.int many), some (.ref p), some (.int last), z3] ∧ H' = H ∧ riseFrom (topF many) last (ks.drop i) = riseB many ks) ⟨_, _, rfl, rfl, rfl⟩ (fun i σ H' _ h => by obtain ⟨_, _, _, rfl, _⟩ := h; exact SqL.of hp) ?_ ?_⟩
  · rintro i y σ H' hy ⟨last, z3, rfl, rfl, hr⟩
    obtain ⟨k, hk, qq, ys, rfl, hq⟩ := paired_take hF hy
    obtain ⟨hi, ek⟩ := List.getElem?_eq_some_iff.mp hk
    rw [List.drop_eq_getElem_cons hi, ek] at hr
    unfold riseFrom at hr
    refine ⟨_, rfl, qq, _, _, _, rfl, rfl, SqT.of hq, atI_zero, _, rfl, _, _, rfl, rfl, _, rfl, ?_⟩
    refine ite2 (fun c => ?_) (fun c => ?_)
    · rw [if_pos (of_decide_eq_true c)] at hr
      rw [← hr] at q
      exact q
    · rw [if_neg (of_decide_eq_false (Bool.eq_false_iff.mpr c))] at hr
      dsimp only [tNext]
      exact ⟨_, rfl, qq, _, _, _, rfl, rfl, SqT.of hq, atI_zero, k, _, rfl, rfl, hr⟩
  · rintro σ H' ⟨last, z3, rfl, rfl, hr⟩
    rw [hl, List.drop_length] at hr
    unfold riseFrom at hr
    rw [← hr] at q
    exact ⟨_, rfl, _, rfl, many, rfl, h0, by omega, _, _, rfl, rfl, q⟩
noncomputable abbrev n_mark_is_right : List Str := ["basket", "lot", "mark"]
theorem sc_mark_is_right : FnScope n_mark_is_right ["basket", "lot", "mark"] (defScope s_mark_is_right) := ⟨rfl, rfl, rfl, by decide +kernel, rfl, by decide +kernel, by decide +kernel⟩
theorem ok_mark_is_right (F : Fun K "mark_is_right" "mark_is_right" s_mark_is_right f fd) (b : Binds K fd ["basket", "lot", "mark"] []) (m : mg "mark_is_right" = some (.ref f))  (G_has : Dfn P w K mg base k "has" ["one", "other"] spHas) (G_things_in : Dfn P w K mg base k "things_in" ["lot"] (spInts thingsF)) (G_without : Dfn P w K mg base k "without" ["lot", "other"] spWithout) : Dfn P w K mg base (k + 1) "mark_is_right" ["basket", "lot", "mark"] spMarkR := by
  refine .of F b m sc_mark_is_right (fun vs H Q E h => ?_) (fun cdv A outer s H vs Q E hr h => ?_)
  · obtain ⟨b, lot, mk, rfl, hb, hl, q⟩ := h; rfl
  obtain ⟨b, lot, mk, rfl, hb, hl, q⟩ := h
  have nd := sc_mark_is_right.nd
  have le := Nat.le_refl k
  refine ⟨_, pss_cons (ps_if (pt_cmpR op_eq (pv 2) (pe_un un_neg pe_int) (nomark _)) (pss_one (ps_ret (pe_def G_has hr le rfl (pa_cons (pv 0) (pa_cons (pv 1) pa_nil))))) pss_nil)
    (pss_one (ps_ret (pe_cmpR op_in_seq (pv 2) (pe_def G_things_in hr le rfl (pa_cons (pe_def G_without hr le rfl (pa_cons (pv 1) (pa_cons (pv 0) pa_nil))) pa_nil)) (by rfl)))), ?_⟩
  refine ⟨_, rfl, _, rfl, rfl, _, rfl, ?_⟩
  rw [show decide (V.int mk = V.int (-1)) = decide (mk = -1) by simp]
  unfold markB at q
  refine ite2 (fun c => ?_) (fun c => ?_)
  · rw [if_pos (of_decide_eq_true c)] at q
    exact ⟨_, rfl, _, rfl, _, _, rfl, q _ (Same.refl _)⟩
  · rw [if_neg (of_decide_eq_false (Bool.eq_false_iff.mpr c))] at q
    dsimp only [tNext]
    refine ⟨_, rfl, _, rfl, _, rfl, _, _, rfl, hl.1, hb, _, rfl, lack_sm hl hb, fun r H' S hr0 hr => ⟨r, _, rfl, .inl (SqL.of hr), rfl, flat_ints _, ?_⟩⟩
    rw [in_ints]
    exact q H' S
noncomputable abbrev n_marks_are_right : List Str := ["book", "row", "basket", "mark"]
theorem sc_marks_are_right : FnScope n_marks_are_right ["book", "row"] (defScope s_marks_are_right) := ⟨rfl, rfl, rfl, by decide +kernel, rfl, by decide +kernel, by decide +kernel⟩
theorem ok_marks_are_right (F : Fun K "marks_are_right" "marks_are_right" s_marks_are_right f fd) (b : Binds K fd ["book", "row"] []) (m : mg "marks_are_right" = some (.ref f)) (M_len : mg "len" = none) (M_zip : mg "zip" = none) (G_mark_is_right : Dfn P w K mg base k "mark_is_right" ["basket", "lot", "mark"] spMarkR) : Dfn P w K mg base (k + 1) "marks_are_right" ["book", "row"] (spMarksR K) := by
  refine .of F b m sc_marks_are_right (fun vs H Q E h => ?_) (fun cdv A outer s H vs Q E hr h => ?_)
  · obtain ⟨bk, r, l, many, bs, lot, ms, rfl, hB, hz, hnn, hr1, hl, hsm, q⟩ := h; rfl
  obtain ⟨bk, r, l, many, bs, lot, ms, rfl, hB, hz, hnn, hr1, hl, hsm, q⟩ := h
  have nd := sc_marks_are_right.nd
  have le := Nat.le_refl k
  refine ⟨_, pss_cons (ps_if (pt_cmpR op_ne (pe_callB call_len_seq (by rfl) M_len PySem.boot_len (pa_cons (pe_ix ix_tup (pv 1) pe_int (fun _ _ => rfl)) pa_nil)) (pe_callB call_len_seq (by rfl) M_len PySem.boot_len (pa_cons (pe_ix ix_tup (pv 0) pe_int (fun _ _ => rfl)) pa_nil)) (nomark _)) (pss_one (ps_ret pe_bl)) pss_nil)
    (pss_cons (ps_for PassesOwn.never rfl (pi_zip rfl M_zip (pa_cons (pe_ix ix_tup (pv 0) pe_int (fun _ _ => rfl)) (pa_cons (pe_ix ix_tup (pv 1) pe_int (fun _ _ => rfl)) pa_nil))) (pg_tupK (n := 2) K rfl rfl (pgs_cons (pg_name (i := 2) nd rfl (Or.inl rfl)) (pgs_cons (pg_name (i := 3) nd rfl (Or.inl rfl)) pgs_nil)))
      (pss_one (ps_if (pt_not (pt_val (pe_def G_mark_is_right hr le rfl (pa_cons (pv 2) (pa_cons (pe_ix ix_tup (pv 1) pe_int (fun _ _ => rfl)) (pa_cons (pv 3) pa_nil)))))) (pss_one (ps_ret pe_bl)) pss_nil)))
    (pss_one (ps_ret pe_bl))), ?_⟩
  obtain ⟨lb, hb1, hb2⟩ := id hB
  refine ⟨_, rfl, r, _, _, _, rfl, rfl, SqT.of hr1, rfl, l, _, rfl, .inl (SqL.of hl), _, rfl, bk, _, _, _, rfl, rfl, hb1, rfl, lb, _, rfl, .inl hb2, rfl, _, rfl, ?_⟩
  rw [List.length_map, List.length_map, dec_len]
  unfold marksB at q
  refine ite2 (fun c => ?_) (fun c => ?_)
  · have c : ¬ ms.length = bs.length := fun e => by rw [e] at c; simp at c
    rw [decide_eq_false c] at q
    exact q _ (Same.refl _)
  · have c : ms.length = bs.length := Classical.byContradiction fun z => c (by rw [decide_eq_false z]; rfl)
    rw [decide_eq_true c, Bool.true_and] at q
    dsimp only [tNext]
    refine ⟨_, rfl, bk, _, _, _, rfl, rfl, hb1, rfl, _, rfl, r, _, _, _, rfl, rfl, SqT.of hr1, rfl, lb, l, rfl, ⟨_, hb2⟩, ⟨_, SqL.of hl⟩, for_zip (xs := bs.map V.int) (ys := ms.map V.int) (fun i σ H' => ∃ z2 z3 : Option V, σ = [some (.ref bk), some (.ref r), z2, z3] ∧ Same H H' ∧ marksFrom lot (bs.drop i) (ms.drop i) = marksFrom lot bs ms) ⟨_, _, rfl, Same.refl _, rfl⟩ (fun i σ H' _ h => by obtain ⟨_, _, _, S, _⟩ := h; exact ⟨S.seq hb2, SqL.of (S _ _ hl)⟩) (by rw [List.length_map, List.length_map, c]) ?_ ?_⟩
    · rintro i u v pp σ H1 hu hv hpp ⟨z2, z3, rfl, S, hm⟩
      have hu' := ints_get hu
      have hv' := ints_get hv
      have hi : i < bs.length := by have := (List.getElem?_eq_some_iff.mp hu).1; rwa [List.length_map] at this
      subst hu' hv'
      have S2 := same_new hpp (.tup [.int (bs.getD i 0), .int (ms.getD i 0)])
      have eb : bs.drop i = bs.getD i 0 :: bs.drop (i + 1) := by rw [List.drop_eq_getElem_cons hi, getD_at' hi]
      have em : ms.drop i = ms.getD i 0 :: ms.drop (i + 1) := by rw [List.drop_eq_getElem_cons (by omega), getD_at' (by omega)]
      rw [eb, em, marks_cons] at hm
      refine ⟨pp, _, rfl, SqT.of upd_same, rfl, _, _, rfl, _, _, rfl, rfl, _, rfl, _, rfl, r, _, _, _, rfl, rfl, SqT.of (S2 _ _ (S _ _ hr1)), rfl, _, rfl, _, lot, _, rfl, hnn _ (getD_mem hi), hsm, fun H3 S3 => ⟨_, rfl, ?_⟩⟩
      have S13 := S.trans (S2.trans S3)
      cases c2 : markB (bs.getD i 0) lot (ms.getD i 0) with
      | false =>
        rw [c2] at hm
        refine iteT ?_
        rw [← hm] at q
        exact q _ S13
      | true =>
        rw [c2, Bool.true_and] at hm
        exact iteF ⟨_, _, rfl, S13, hm⟩
    · rintro σ H1 ⟨z2, z3, rfl, S, hm⟩
      rw [List.length_map] at hm
      rw [List.drop_length] at hm
      have e : marksFrom lot [] (ms.drop bs.length) = true := by unfold marksFrom; rfl
      rw [e] at hm
      rw [← hm] at q
      exact q _ S
noncomputable abbrev n_mark_for : List Str := ["basket", "lot"]
theorem sc_mark_for : FnScope n_mark_for ["basket", "lot"] (defScope s_mark_for) := ⟨rfl, rfl, rfl, by decide +kernel, rfl, by decide +kernel, by decide +kernel⟩
theorem ok_mark_for (F : Fun K "mark_for" "mark_for" s_mark_for f fd) (b : Binds K fd ["basket", "lot"] []) (m : mg "mark_for" = some (.ref f)) (M_min : mg "min" = none) (G_things_in : Dfn P w K mg base k "things_in" ["lot"] (spInts thingsF)) (G_without : Dfn P w K mg base k "without" ["lot", "other"] spWithout) : Dfn P w K mg base (k + 1) "mark_for" ["basket", "lot"] spMarkFor := by
  refine .of F b m sc_mark_for (fun vs H Q E h => ?_) (fun cdv A outer s H vs Q E hr h => ?_)
  · obtain ⟨b, lot, rfl, hb, hl, q⟩ := h; rfl
  obtain ⟨b, lot, rfl, hb, hl, q⟩ := h
  have nd := sc_mark_for.nd
  have le := Nat.le_refl k
  refine ⟨_, pss_one (ps_ret (pe_dxmin rfl rfl M_min (pa_cons (pe_def G_things_in hr le rfl (pa_cons (pe_def G_without hr le rfl (pa_cons (pv 1) (pa_cons (pv 0) pa_nil))) pa_nil)) pa_nil) (pe_un un_neg pe_int))), ?_⟩
  refine ⟨_, rfl, _, rfl, _, _, rfl, hl.1, hb, _, rfl, lack_sm hl hb, fun r H' S hr0 hr => ⟨_, rfl, r, lackM lot b, -1, rfl, rfl, SqL.of hr, ?_⟩⟩
  rw [valminD_mark]
  exact q H' S

end
end OL.Q83

namespace OL.Q83
open PySem L2 OL
section
variable {P : Program} {w : World} {K : PySem.W.Frag} {mg : Str → Option Value} {base : Heap} {f : Addr} {fd : FuncData} {k : Nat}
theorem str_eq {a b : Str} : decide (V.str a = V.str b) = decide (a = b) := by
  by_cases c : a = b
  · subst c; rw [decide_eq_true rfl, decide_eq_true rfl]
  · rw [decide_eq_false c]; exact decide_eq_false fun e => c (by injection e)
noncomputable abbrev n_is_place : List Str := ["rows", "place"]
theorem sc_is_place : FnScope n_is_place ["rows", "place"] (defScope s_is_place) := ⟨rfl, rfl, rfl, by decide +kernel, rfl, by decide +kernel, by decide +kernel⟩
theorem ok_is_place (F : Fun K "is_place" "is_place" s_is_place f fd) (b : Binds K fd ["rows", "place"] []) (m : mg "is_place" = some (.ref f)) (M_len : mg "len" = none)  : Dfn P w K mg base (k + 1) "is_place" ["rows", "place"] (spIsPl8 K) := by
  refine .of F b m sc_is_place (fun vs H Q E h => ?_) (fun cdv A outer s H vs Q E hr h => ?_)
  · obtain ⟨a, xs, p, rfl, hx, q⟩ := h; rfl
  obtain ⟨a, xs, p, rfl, hx, q⟩ := h
  have nd := sc_is_place.nd
  refine ⟨_, pss_one (ps_ret (pe_and (pe_cmpR op_ge (pv 1) pe_int (nomark _)) (pe_one (pe_cmpR op_lt (pv 1) (pe_callB call_len_seq (by rfl) M_len PySem.boot_len (pa_cons (pv 0) pa_nil)) (nomark _))))), ?_⟩
  refine ⟨_, rfl, _, _, rfl, rfl, _, rfl, ?_⟩
  cases c : decide (0 ≤ p) with
  | false => exact iteF (by rw [c] at q; exact q)
  | true =>
    refine iteT ⟨_, rfl, _, rfl, a, _, rfl, .inl hx, _, _, rfl, rfl, ?_⟩
    rw [c, Bool.true_and] at q
    exact q
noncomputable abbrev n_place_has : List Str := ["baskets", "place", "lot"]
theorem sc_place_has : FnScope n_place_has ["baskets", "place", "lot"] (defScope s_place_has) := ⟨rfl, rfl, rfl, by decide +kernel, rfl, by decide +kernel, by decide +kernel⟩
theorem ok_place_has (F : Fun K "place_has" "place_has" s_place_has f fd) (b : Binds K fd ["baskets", "place", "lot"] []) (m : mg "place_has" = some (.ref f))  (G_has : Dfn P w K mg base k "has" ["one", "other"] spHas) (G_is_place : Dfn P w K mg base k "is_place" ["rows", "place"] (spIsPl8 K)) : Dfn P w K mg base (k + 1) "place_has" ["baskets", "place", "lot"] (spPlaceH K) := by
  refine .of F b m sc_place_has (fun vs H Q E h => ?_) (fun cdv A outer s H vs Q E hr h => ?_)
  · obtain ⟨l, bs, p, lot, rfl, hl, q⟩ := h; rfl
  obtain ⟨l, bs, p, lot, rfl, hl, q⟩ := h
  have nd := sc_place_has.nd
  have le := Nat.le_refl k
  refine ⟨_, pss_one (ps_ret (pe_and (pe_def G_is_place hr le rfl (pa_cons (pv 0) (pa_cons (pv 1) pa_nil))) (pe_one (pe_def G_has hr le rfl (pa_cons (pe_ix ix_list (pv 0) (pv 1) (fun _ _ => rfl)) (pa_cons (pv 2) pa_nil)))))), ?_⟩
  refine ⟨_, rfl, _, rfl, l, _, p, rfl, hl, _, rfl, ?_⟩
  unfold placeB at q
  rw [List.length_map]
  cases c : (decide (0 ≤ p) && decide (p < (bs.length : Int))) with
  | false => exact iteF (by rw [c] at q; exact q)
  | true =>
    rw [c, Bool.true_and] at q
    obtain ⟨c1, c2⟩ := Bool.and_eq_true_iff.mp c
    exact iteT ⟨_, rfl, _, rfl, l, _, _, _, rfl, rfl, hl, atI_int (of_decide_eq_true c1) (of_decide_eq_true c2), _, rfl, _, _, rfl, q⟩
noncomputable abbrev n_backs_are_right : List Str := ["other", "lot", "backs", "fewer_lots", "fewer", "place"]
theorem sc_backs_are_right : FnScope n_backs_are_right ["other", "lot", "backs"] (defScope s_backs_are_right) := ⟨rfl, rfl, rfl, by decide +kernel, rfl, by decide +kernel, by decide +kernel⟩
set_option maxHeartbeats 1000000 in
theorem ok_backs_are_right (F : Fun K "backs_are_right" "backs_are_right" s_backs_are_right f fd) (b : Binds K fd ["other", "lot", "backs"] []) (m : mg "backs_are_right" = some (.ref f)) (M_len : mg "len" = none) (M_zip : mg "zip" = none) (G_one_thing_fewer : Dfn P w K mg base k "one_thing_fewer" ["lot"] (spInts fewF)) (G_place_has : Dfn P w K mg base k "place_has" ["baskets", "place", "lot"] (spPlaceH K)) : Dfn P w K mg base (k + 1) "backs_are_right" ["other", "lot", "backs"] (spBacksR K) := by
  refine .of F b m sc_backs_are_right (fun vs H Q E h => ?_) (fun cdv A outer s H vs Q E hr h => ?_)
  · obtain ⟨b, l, many, bs, lot, ps, rfl, hB, hsm, hl, q⟩ := h; rfl
  obtain ⟨b, l, many, bs, lot, ps, rfl, hB, hsm, hl, q⟩ := h
  have nd := sc_backs_are_right.nd
  have le := Nat.le_refl k
  refine ⟨_, pss_cons (ps_set (i := 3) nd rfl (Or.inl rfl) (pe_def G_one_thing_fewer hr le rfl (pa_cons (pv 1) pa_nil)))
    (pss_cons (ps_if (pt_cmpR op_ne (pe_callB call_len_seq (by rfl) M_len PySem.boot_len (pa_cons (pv 2) pa_nil)) (pe_callB call_len_seq (by rfl) M_len PySem.boot_len (pa_cons (pv 3) pa_nil)) (nomark _)) (pss_one (ps_ret pe_bl)) pss_nil)
    (pss_cons (ps_for PassesOwn.never rfl (pi_zip rfl M_zip (pa_cons (pv 3) (pa_cons (pv 2) pa_nil))) (pg_tupK (n := 2) K rfl rfl (pgs_cons (pg_name (i := 4) nd rfl (Or.inl rfl)) (pgs_cons (pg_name (i := 5) nd rfl (Or.inl rfl)) pgs_nil)))
      (pss_one (ps_if (pt_not (pt_val (pe_def G_place_has hr le rfl (pa_cons (pe_ix ix_tup (pv 0) pe_int (fun _ _ => rfl)) (pa_cons (pv 5) (pa_cons (pv 4) pa_nil)))))) (pss_one (ps_ret pe_bl)) pss_nil)))
    (pss_one (ps_ret pe_bl)))), ?_⟩
  obtain ⟨lb, hb1, hb2⟩ := id hB
  refine ⟨_, rfl, _, rfl, hsm, fun fl H1 S1 hfl0 hfl => ?_⟩
  have hl1 := S1 _ _ hl
  unfold backsB at q
  try dsimp only [gName]
  refine seq_if (b := !decide (ps.length = (fewF lot).length)) (.pure fun Q h => ⟨_, rfl, l, _, rfl, .inl (SqL.of hl1), _, rfl, fl, _, rfl, .inl (SqL.of hfl), rfl, _, rfl, (by rw [List.length_map, List.length_map, dec_len]; exact h)⟩) fun H2 S2 => ite2 (fun c => ?_) (fun c => ?_)
  · have c : ¬ ps.length = (fewF lot).length := by simpa using c
    rw [decide_eq_false c] at q
    exact q _ (S1.trans S2)
  have c : ps.length = (fewF lot).length := by simpa using c
  rw [decide_eq_true c, Bool.true_and] at q
  have S12 := S1.trans S2
  try dsimp only [tNext]
  refine ⟨_, rfl, _, rfl, fl, l, rfl, ⟨_, SqL.of (S2 _ _ hfl)⟩, ⟨_, SqL.of (S12 _ _ hl)⟩, for_zip (xs := (fewF lot).map V.int) (ys := ps.map V.int) (fun i σ H' => ∃ z4 z5 : Option V, σ = [some (.ref b), some (.int lot), some (.ref l), some (.ref fl), z4, z5] ∧ Same H2 H' ∧ (((fewF lot).zip ps).take i).all (fun x => placeB bs x.2 x.1) = true) ⟨_, _, rfl, Same.refl _, rfl⟩ (fun i σ H' _ h => by obtain ⟨_, _, _, S, _⟩ := h; exact ⟨SqL.of (S _ _ (S2 _ _ hfl)), SqL.of (S _ _ (S12 _ _ hl))⟩) (by rw [List.length_map, List.length_map, c]) ?_ ?_⟩
  · rintro i u v pp σ H3 hu hv hpp ⟨z4, z5, rfl, S3, hm⟩
    rw [List.getElem?_map] at hu hv
    cases eu : (fewF lot)[i]? with
    | none => rw [eu] at hu; cases hu
    | some f =>
    cases ev : ps[i]? with
    | none => rw [ev] at hv; cases hv
    | some p =>
    rw [eu] at hu; rw [ev] at hv
    cases hu; cases hv
    have hz := zip_get eu ev
    have S4 := same_new hpp (.tup [.int f, .int p])
    refine ⟨pp, _, rfl, SqT.of upd_same, rfl, _, _, rfl, _, _, rfl, rfl, _, rfl, b, _, _, _, rfl, rfl, (S12.trans (S3.trans S4)).tup hb1, rfl, _, rfl, _, rfl, lb, bs, p, f, rfl, (S12.trans (S3.trans S4)).seq hb2, _, rfl, ?_⟩
    cases c2 : placeB bs p f with
    | false =>
      refine iteT ?_
      rw [all_stop hz c2] at q
      exact q _ (S12.trans (S3.trans S4))
    | true => exact iteF ⟨_, _, rfl, S3.trans S4, all_go hz c2 hm⟩
  · rintro σ H3 ⟨z4, z5, rfl, S3, hm⟩
    rw [all_end (by rw [List.length_map, List.length_zip]; omega) hm] at q
    exact q _ (S12.trans S3)
noncomputable abbrev n_parting_row_is_right : List Str := ["one", "other", "row", "lot", "marks"]
theorem sc_parting_row_is_right : FnScope n_parting_row_is_right ["one", "other", "row"] (defScope s_parting_row_is_right) := ⟨rfl, rfl, rfl, by decide +kernel, rfl, by decide +kernel, by decide +kernel⟩
theorem ok_parting_row_is_right (F : Fun K "parting_row_is_right" "parting_row_is_right" s_parting_row_is_right f fd) (b : Binds K fd ["one", "other", "row"] []) (m : mg "parting_row_is_right" = some (.ref f))  (G_place_has : Dfn P w K mg base k "place_has" ["baskets", "place", "lot"] (spPlaceH K)) (G_backs_are_right : Dfn P w K mg base k "backs_are_right" ["other", "lot", "backs"] (spBacksR K)) (G_marks_are_right : Dfn P w K mg base k "marks_are_right" ["book", "row"] (spMarksR K)) : Dfn P w K mg base (k + 1) "parting_row_is_right" ["one", "other", "row"] (spQRowR K) := by
  refine .of F b m sc_parting_row_is_right (fun vs H Q E h => ?_) (fun cdv A outer s H vs Q E hr h => ?_)
  · obtain ⟨a, b, v, many, as, bs, r, rfl, hA, hB, hz, hnn, hv, hsm, q⟩ := h; rfl
  obtain ⟨a, b, v, many, as, bs, r, rfl, hA, hB, hz, hnn, hv, hsm, q⟩ := h
  have nd := sc_parting_row_is_right.nd
  have le := Nat.le_refl k
  refine ⟨_, pss_cons (ps_set (i := 3) nd rfl (Or.inl rfl) (pe_ix ix_tup (pv 2) pe_int (fun _ _ => rfl)))
    (pss_cons (ps_set (i := 4) nd rfl (Or.inl rfl) (pe_ix ix_tup (pv 2) pe_int (fun _ _ => rfl)))
    (pss_cons (ps_if (pt_not (pt_val (pe_def G_place_has hr le rfl (pa_cons (pe_ix ix_tup (pv 0) pe_int (fun _ _ => rfl)) (pa_cons (pe_ix ix_tup (pv 2) pe_int (fun _ _ => rfl)) (pa_cons (pv 3) pa_nil)))))) (pss_one (ps_ret pe_bl)) pss_nil)
    (pss_one (ps_ret (pe_and (pe_cmpR op_notIn_seq (pe_un un_neg pe_int) (pv 4) (by rfl)) (pe_and (pe_def G_marks_are_right hr le rfl (pa_cons (pv 1) (pa_cons (pe_tup (pa_cons (pv 3) (pa_cons (pv 4) pa_nil))) pa_nil))) (pe_one (pe_def G_backs_are_right hr le rfl (pa_cons (pv 1) (pa_cons (pv 3) (pa_cons (pe_ix ix_tup (pv 2) pe_int (fun _ _ => rfl)) pa_nil))))))))))), ?_⟩
  obtain ⟨x, y, ms, ks⟩ := r
  obtain ⟨t, lm, lk, rfl, ht, hlm, hlk⟩ := id hv
  dsimp only at ht hlm hlk hsm
  obtain ⟨la, ha1, ha2⟩ := id hA
  refine ⟨_, rfl, t, _, _, _, rfl, rfl, SqT.of ht, rfl, ?_⟩
  try dsimp only [gName]
  refine ⟨_, rfl, t, _, _, _, rfl, rfl, SqT.of ht, rfl, ?_⟩
  try dsimp only [gName]
  unfold rowQB at q
  refine seq_if (b := !placeB as y x) (.pure fun Q h => ⟨_, rfl, a, _, _, _, rfl, rfl, ha1, rfl, _, rfl, t, _, _, _, rfl, rfl, SqT.of ht, rfl, _, rfl, la, as, y, x, rfl, ha2, _, rfl, h⟩) fun H1 S1 => ite2 (fun c => ?_) (fun c => ?_)
  · have c : placeB as y x = false := by simpa using c
    rw [show placeB as (x, y, ms, ks).2.1 (x, y, ms, ks).1 = false from c, Bool.false_and] at q
    exact q _ S1
  have c : placeB as y x = true := by simpa using c
  rw [show placeB as (x, y, ms, ks).2.1 (x, y, ms, ks).1 = true from c, Bool.true_and] at q
  try dsimp only [tNext]
  refine ⟨_, rfl, _, rfl, lm, _, rfl, .inl (SqL.of (S1 _ _ hlm)), rfl, flat_ints _, _, rfl, ?_⟩
  rw [in_ints]
  change ∀ H', Same H H' → Q (.bl (!(ms.any fun m => m == -1) && (marksB bs x ms && backsB bs x ks))) H' at q
  cases c1 : (ms.any fun m => m == -1) with
  | true => exact iteF (by rw [c1] at q; exact q _ S1)
  | false =>
    rw [c1] at q
    refine iteT ⟨_, rfl, _, rfl, _, rfl, (by show 2 ≤ sizeLine; decide), fun t2 ht2 => ?_⟩
    have S2 := S1.trans (same_new ht2 (.tup [.int x, .ref lm]))
    refine ⟨b, t2, lm, many, bs, x, ms, rfl, hB.same S2, hz, hnn, upd_same, S2 _ _ hlm, hsm, fun H3 S3 => ⟨_, rfl, ?_⟩⟩
    have S13 := S2.trans S3
    cases c2 : marksB bs x ms with
    | false => exact iteF (by rw [c2] at q; exact q _ S13)
    | true =>
      rw [c2] at q
      exact iteT ⟨_, rfl, _, rfl, _, rfl, t, _, _, _, rfl, rfl, SqT.of (S13 _ _ ht), rfl, b, lk, many, bs, x, ks, rfl, hB.same S13, hsm, S13 _ _ hlk, fun H4 S4 => q _ (S13.trans S4)⟩
noncomputable abbrev n_lead_is_right : List Str := ["rows", "other", "basket", "lead"]
theorem sc_lead_is_right : FnScope n_lead_is_right ["rows", "other", "basket", "lead"] (defScope s_lead_is_right) := ⟨rfl, rfl, rfl, by decide +kernel, rfl, by decide +kernel, by decide +kernel⟩
theorem ok_lead_is_right (F : Fun K "lead_is_right" "lead_is_right" s_lead_is_right f fd) (b : Binds K fd ["rows", "other", "basket", "lead"] []) (m : mg "lead_is_right" = some (.ref f))  (G_has : Dfn P w K mg base k "has" ["one", "other"] spHas) (G_is_place : Dfn P w K mg base k "is_place" ["rows", "place"] (spIsPl8 K)) (G_place_has : Dfn P w K mg base k "place_has" ["baskets", "place", "lot"] (spPlaceH K)) : Dfn P w K mg base (k + 1) "lead_is_right" ["rows", "other", "basket", "lead"] (spLeadR K) := by
  refine .of F b m sc_lead_is_right (fun vs H Q E h => ?_) (fun cdv A outer s H vs Q E hr h => ?_)
  · obtain ⟨rl, b, v, many, bs, ys, R, x, l, rfl, hrl, hR, hB, hv, q⟩ := h; rfl
  obtain ⟨rl, b, v, many, bs, ys, R, x, l, rfl, hrl, hR, hB, hv, q⟩ := h
  have nd := sc_lead_is_right.nd
  have le := Nat.le_refl k
  refine ⟨_, pss_cons (ps_if (pt_cmpR op_eq (pe_ix ix_tup (pv 3) pe_int (fun _ _ => rfl)) pe_str (nomark _)) (pss_one (ps_ret (pe_and (pe_def G_is_place hr le rfl (pa_cons (pv 0) (pa_cons (pe_ix ix_tup (pv 3) pe_int (fun _ _ => rfl)) pa_nil))) (pe_one (pe_def G_has hr le rfl (pa_cons (pv 2) (pa_cons (pe_ix ix_tup (pe_ix ix_list (pv 0) (pe_ix ix_tup (pv 3) pe_int (fun _ _ => rfl)) (fun _ _ => rfl)) pe_int (fun _ _ => rfl)) pa_nil))))))) pss_nil)
    (pss_one (ps_ret (pe_and (pe_cmpR op_eq (pe_ix ix_tup (pv 3) pe_int (fun _ _ => rfl)) pe_str (nomark _)) (pe_one (pe_def G_place_has hr le rfl (pa_cons (pe_ix ix_tup (pv 1) pe_int (fun _ _ => rfl)) (pa_cons (pe_ix ix_tup (pv 3) pe_int (fun _ _ => rfl)) (pa_cons (pv 2) pa_nil)))))))), ?_⟩
  obtain ⟨w, p⟩ := l
  obtain ⟨t, rfl, ht⟩ := id hv
  dsimp only at ht
  obtain ⟨lb, hb1, hb2⟩ := id hB
  have hyl := Paired.length hR
  unfold leadQB at q
  refine seq_if (b := decide (w = "by")) (.pure fun Q h => ⟨_, rfl, t, _, _, _, rfl, rfl, SqT.of ht, rfl, rfl, _, rfl, (by rw [str_eq]; exact h)⟩) fun H1 S1 => ite2 (fun c => ?_) (fun c => ?_)
  · rw [if_pos (of_decide_eq_true c)] at q
    change ∀ H', Same H H' → Q (.bl (decide (0 ≤ p) && decide (p < (R.length : Int)) && hasF x (R.getD p.toNat (0, 0, [], [])).1)) H' at q
    refine ⟨_, rfl, _, rfl, t, _, _, _, rfl, rfl, SqT.of (S1 _ _ ht), rfl, rl, _, p, rfl, SqL.of (S1 _ _ hrl), _, rfl, ?_⟩
    rw [hyl]
    cases c1 : (decide (0 ≤ p) && decide (p < (R.length : Int))) with
    | false => exact iteF (by rw [c1] at q; exact q _ S1)
    | true =>
      rw [c1, Bool.true_and] at q
      obtain ⟨c2, c3⟩ := Bool.and_eq_true_iff.mp c1
      have c2 := of_decide_eq_true c2
      have c3 := of_decide_eq_true c3
      have hi : p.toNat < ys.length := by omega
      obtain ⟨r, hr, hrS⟩ := paired_take hR (List.getElem?_eq_getElem hi)
      have hat : atI ys p = some ys[p.toNat] := by
        have : atI ys ((p.toNat : Nat) : Int) = some ys[p.toNat] := atI_nat (List.getElem?_eq_getElem hi)
        rwa [show ((p.toNat : Nat) : Int) = p by omega] at this
      obtain ⟨a, lm, lk, e, ha, _, _⟩ := hrS.same S1
      rw [e] at hat
      have er : (R.getD p.toNat (0, 0, [], [])) = r := by rw [List.getD_eq_getElem?_getD, hr]; rfl
      rw [er] at q
      exact iteT ⟨_, rfl, _, rfl, _, rfl, t, _, _, _, rfl, rfl, SqT.of (S1 _ _ ht), rfl, rl, _, _, _, rfl, rfl, SqL.of (S1 _ _ hrl), hat, a, _, _, _, rfl, rfl, SqT.of ha, rfl, _, _, rfl, q _ S1⟩
  · rw [if_neg (by simpa using c)] at q
    change ∀ H', Same H H' → Q (.bl (decide (w = "in") && placeB bs p x)) H' at q
    try dsimp only [tNext]
    refine ⟨_, rfl, t, _, _, _, rfl, rfl, SqT.of (S1 _ _ ht), rfl, rfl, _, rfl, ?_⟩
    rw [str_eq]
    cases c1 : decide (w = "in") with
    | false => exact iteF (by rw [c1] at q; exact q _ S1)
    | true =>
      rw [c1, Bool.true_and] at q
      exact iteT ⟨_, rfl, b, _, _, _, rfl, rfl, S1.tup hb1, rfl, _, rfl, t, _, _, _, rfl, rfl, SqT.of (S1 _ _ ht), rfl, _, rfl, lb, bs, p, x, rfl, S1.seq hb2, q _ S1⟩
noncomputable abbrev n_parting_holds : List Str := ["one", "other", "paper", "rows", "leads", "row", "basket", "lead"]
theorem sc_parting_holds : FnScope n_parting_holds ["one", "other", "paper"] (defScope s_parting_holds) := ⟨rfl, rfl, rfl, by decide +kernel, rfl, by decide +kernel, by decide +kernel⟩
set_option maxHeartbeats 1000000 in
theorem ok_parting_holds (F : Fun K "parting_holds" "parting_holds" s_parting_holds f fd) (b : Binds K fd ["one", "other", "paper"] []) (m : mg "parting_holds" = some (.ref f)) (M_len : mg "len" = none) (M_zip : mg "zip" = none) (G_lots_rise : Dfn P w K mg base k "lots_rise" ["many", "rows"] spRise) (G_parting_row_is_right : Dfn P w K mg base k "parting_row_is_right" ["one", "other", "row"] (spQRowR K)) (G_lead_is_right : Dfn P w K mg base k "lead_is_right" ["rows", "other", "basket", "lead"] (spLeadR K)) : Dfn P w K mg base (k + 1) "parting_holds" ["one", "other", "paper"] (spPHolds K) := by
  refine .of F b m sc_parting_holds (fun vs H Q E h => ?_) (fun cdv A outer s H vs Q E hr h => ?_)
  · obtain ⟨a, b, v, many, as, bs, R, L, rfl, hA, hB, hz, hnn, m0, m12, hv, q⟩ := h; rfl
  obtain ⟨a, b, v, many, as, bs, R, L, rfl, hA, hB, hz, hnn, m0, m12, hv, q⟩ := h
  have nd := sc_parting_holds.nd
  have le := Nat.le_refl k
  refine ⟨_, pss_cons (ps_set (i := 3) nd rfl (Or.inl rfl) (pe_ix ix_tup (pv 2) pe_int (fun _ _ => rfl)))
    (pss_cons (ps_set (i := 4) nd rfl (Or.inl rfl) (pe_ix ix_tup (pv 2) pe_int (fun _ _ => rfl)))
    (pss_cons (ps_if (PW.pt (pw_or (pt_not (pt_val (pe_def G_lots_rise hr le rfl (pa_cons (pe_ix ix_tup (pv 0) pe_int (fun _ _ => rfl)) (pa_cons (pv 3) pa_nil))))) (pw_or1 (pt_cmpR op_ne (pe_callB call_len_seq (by rfl) M_len PySem.boot_len (pa_cons (pv 4) pa_nil)) (pe_callB call_len_seq (by rfl) M_len PySem.boot_len (pa_cons (pe_ix ix_tup (pv 0) pe_int (fun _ _ => rfl)) pa_nil)) (nomark _))))) (pss_one (ps_ret pe_bl)) pss_nil)
    (pss_cons (ps_for PassesOwn.never rfl (pi_list (pv 3)) (pg_name (i := 5) nd rfl (Or.inl rfl))
      (pss_one (ps_if (pt_not (pt_val (pe_def G_parting_row_is_right hr le rfl (pa_cons (pv 0) (pa_cons (pv 1) (pa_cons (pv 5) pa_nil)))))) (pss_one (ps_ret pe_bl)) pss_nil)))
    (pss_cons (ps_for PassesOwn.never rfl (pi_zip rfl M_zip (pa_cons (pe_ix ix_tup (pv 0) pe_int (fun _ _ => rfl)) (pa_cons (pv 4) pa_nil))) (pg_tupK (n := 2) K rfl rfl (pgs_cons (pg_name (i := 6) nd rfl (Or.inl rfl)) (pgs_cons (pg_name (i := 7) nd rfl (Or.inl rfl)) pgs_nil)))
      (pss_one (ps_if (pt_not (pt_val (pe_def G_lead_is_right hr le rfl (pa_cons (pv 3) (pa_cons (pv 1) (pa_cons (pv 6) (pa_cons (pv 7) pa_nil))))))) (pss_one (ps_ret pe_bl)) pss_nil)))
    (pss_one (ps_ret pe_bl)))))), ?_⟩
  obtain ⟨t, rl, ll, ys, zs, rfl, ht, hrl, hR, hll, hL⟩ := id hv
  obtain ⟨la, ha1, ha2⟩ := id hA
  have hyl := Paired.length hR
  have hzl := Paired.length hL
  refine ⟨_, rfl, t, _, _, _, rfl, rfl, SqT.of ht, rfl, ?_⟩
  try dsimp only [gName]
  refine ⟨_, rfl, t, _, _, _, rfl, rfl, SqT.of ht, rfl, ?_⟩
  try dsimp only [gName]
  unfold holdsQ at q
  refine seq_if (b := !riseB many (R.map Prod.fst) || !decide (L.length = as.length)) (lookOr (.pure fun Q h => ⟨_, rfl, a, _, _, _, rfl, rfl, ha1, rfl, _, rfl, rl, many, ys, _, rfl, m0, m12, hrl, qrows_f hR, _, rfl, h⟩) (fun _ H1 S1 => .pure fun Q h => ⟨_, rfl, ll, _, rfl, .inl (SqL.of (S1 _ _ hll)), _, rfl, a, _, _, _, rfl, rfl, S1.tup ha1, rfl, la, _, rfl, .inl (S1.seq ha2), rfl, _, rfl, (by rw [List.length_map, dec_len, hzl]; exact h)⟩)) fun H1 S1 => ite2 (fun c => ?_) (fun c => ?_)
  · have e : (riseB many (R.map Prod.fst) && decide (L.length = as.length)) = false := by
      cases h1 : riseB many (R.map Prod.fst) <;> cases h2 : decide (L.length = as.length) <;> simp [h1, h2] at c ⊢
    rw [e, Bool.false_and] at q
    exact q _ S1
  have e1 : riseB many (R.map Prod.fst) = true := by cases h1 : riseB many (R.map Prod.fst) <;> simp [h1] at c ⊢
  have e2 : L.length = as.length := by
    refine Classical.byContradiction fun z => c ?_
    rw [decide_eq_false z]; simp
  rw [e1, decide_eq_true e2, Bool.true_and, Bool.true_and] at q
  have hIn := (rise_iff.mp e1).2
  try dsimp only [tNext]
  refine ⟨_, rfl, rl, rfl, ⟨_, SqL.of (S1 _ _ hrl)⟩, for_list (xs := ys) (fun i σ H' => ∃ z5 z6 z7 : Option V, σ = [some (.ref a), some (.ref b), some (.ref t), some (.ref rl), some (.ref ll), z5, z6, z7] ∧ Same H H' ∧ (R.take i).all (rowQB as bs) = true) ⟨_, _, _, rfl, S1, rfl⟩ (fun i σ H' _ h => by obtain ⟨_, _, _, _, S, _⟩ := h; exact SqL.of (S _ _ hrl)) ?_ ?_⟩
  · rintro i y σ H2 hy ⟨z5, z6, z7, rfl, S2, hm⟩
    obtain ⟨r, hr, hrS⟩ := paired_take hR hy
    have hrI := hIn r.1 (List.mem_map_of_mem (List.mem_of_getElem? hr))
    refine one_if (b := !rowQB as bs r) (fun Q h => ⟨_, rfl, _, rfl, _, rfl, a, b, y, many, as, bs, r, rfl, hA.same S2, hB.same S2, hz, hnn, hrS.same S2, .of hrI m12, fun H3 S3 => ⟨_, rfl, h _ S3⟩⟩) fun H3 S3 => ite2 (fun c => ?_) (fun c => ⟨_, _, _, rfl, S2.trans S3, all_go hr (by simpa using c) hm⟩)
    rw [all_stop hr (by simpa using c), Bool.false_and] at q
    exact q _ (S2.trans S3)
  rintro σ H2 ⟨z5, z6, z7, rfl, S2, hm⟩
  rw [all_end hyl hm, Bool.true_and] at q
  try dsimp only [gName]
  refine ⟨_, rfl, a, _, _, _, rfl, rfl, S2.tup ha1, rfl, _, rfl, la, ll, rfl, ⟨_, S2.seq ha2⟩, ⟨_, SqL.of (S2 _ _ hll)⟩, for_zip (xs := as.map V.int) (ys := zs) (fun i σ H' => ∃ z5 z6 z7 : Option V, σ = [some (.ref a), some (.ref b), some (.ref t), some (.ref rl), some (.ref ll), z5, z6, z7] ∧ Same H H' ∧ ((as.zip L).take i).all (fun x => leadQB R bs x.1 x.2) = true) ⟨_, _, _, rfl, S2, rfl⟩ (fun i σ H' _ h => by obtain ⟨_, _, _, _, S, _⟩ := h; exact ⟨S.seq ha2, SqL.of (S _ _ hll)⟩) (by rw [List.length_map]; omega) ?_ ?_⟩
  · rintro i u y pp σ H3 hu hy hpp ⟨z5, z6, z7, rfl, S3, hm2⟩
    rw [List.getElem?_map] at hu
    cases eu : as[i]? with
    | none => rw [eu] at hu; cases hu
    | some x =>
    rw [eu] at hu
    cases hu
    obtain ⟨l, hl, hlS⟩ := paired_take hL hy
    have hzg := zip_get eu hl
    have S4 := S3.trans (same_new hpp (.tup [.int x, y]))
    refine ⟨pp, _, rfl, SqT.of upd_same, rfl, _, _, rfl, _, _, rfl, rfl, ?_⟩
    try dsimp only [gName]
    refine one_if (b := !leadQB R bs x l) (fun Q h => ⟨_, rfl, _, rfl, _, rfl, _, rfl, rl, b, y, many, bs, ys, R, x, l, rfl, S4 _ _ hrl, Paired.imp' (fun _ _ z => z.same S4) hR, hB.same S4, hlS.t S4.t, fun H5 S5 => ⟨_, rfl, h _ S5⟩⟩) fun H5 S5 => ite2 (fun c => ?_) (fun c => ⟨_, _, _, rfl, S4.trans S5, all_go hzg (by simpa using c) hm2⟩)
    rw [all_stop hzg (by simpa using c)] at q
    exact q _ (S4.trans S5)
  · rintro σ H3 ⟨z5, z6, z7, rfl, S3, hm2⟩
    rw [all_end (by rw [List.length_map, List.length_zip]; omega) hm2] at q
    exact q _ S3
noncomputable abbrev n_parting_row : List Str := ["one", "other", "lot", "marks", "backs"]
theorem sc_parting_row : FnScope n_parting_row ["one", "other", "lot"] (defScope s_parting_row) := ⟨rfl, rfl, rfl, by decide +kernel, rfl, by decide +kernel, by decide +kernel⟩
theorem nd_parting_row_0 : (["basket", "lot"] : List Str).Nodup := by decide +kernel
theorem nd_parting_row_1 : (["fewer", "other"] : List Str).Nodup := by decide +kernel
set_option maxHeartbeats 1000000 in
theorem ok_parting_row (F : Fun K "parting_row" "parting_row" s_parting_row f fd) (b : Binds K fd ["one", "other", "lot"] []) (m : mg "parting_row" = some (.ref f))  (G_mark_for : Dfn P w K mg base k "mark_for" ["basket", "lot"] spMarkFor) (G_one_thing_fewer : Dfn P w K mg base k "one_thing_fewer" ["lot"] (spInts fewF)) (G_holders : Dfn P w K mg base k "holders" ["book", "lot"] (spHold K)) : Dfn P w K mg base (k + 1) "parting_row" ["one", "other", "lot"] (spPRowQ K) := by
  refine .of F b m sc_parting_row (fun vs H Q E h => ?_) (fun cdv A outer s H vs Q E hr h => ?_)
  · obtain ⟨a, b, many, as, bs, lot, rfl, hA, hB, hza, hz, hnn, hsm, hc, hf, q⟩ := h; rfl
  obtain ⟨a, b, many, as, bs, lot, rfl, hA, hB, hza, hz, hnn, hsm, hc, hf, q⟩ := h
  have nd := sc_parting_row.nd
  have le := Nat.le_refl k
  refine ⟨_, pss_cons (ps_setCompC (i := 3) nd rfl rfl ["basket"] [2] (sc := defScope s_parting_row) (N := n_parting_row) (.inl rfl) rfl ⟨rfl, by decide +kernel, by decide +kernel, by decide +kernel, by decide +kernel⟩ rfl (pi_list (pe_ix ix_tup (pv 1) pe_int (fun _ _ => rfl))) (fun cl s H C fp => (pg_name (i := 0) nd_parting_row_0 rfl (Or.inl rfl))) (fun cl s H C fp => pifs_nil) (fun cl s H C fp => (pe_def G_mark_for hr le rfl (pa_cons (pv 0) (pa_cons (pv 1) pa_nil)))) rfl)
    (pss_cons (ps_setCompC (i := 4) nd rfl rfl ["fewer"] [1] (sc := defScope s_parting_row) (N := n_parting_row) (.inl rfl) rfl ⟨rfl, by decide +kernel, by decide +kernel, by decide +kernel, by decide +kernel⟩ rfl (pi_list (pe_def G_one_thing_fewer hr le rfl (pa_cons (pv 2) pa_nil))) (fun cl s H C fp => (pg_name (i := 0) nd_parting_row_1 rfl (Or.inl rfl))) (fun cl s H C fp => pifs_nil) (fun cl s H C fp => (pe_ix (ix_listK K rfl) (pe_def G_holders hr le rfl (pa_cons (pv 1) (pa_cons (pv 0) pa_nil))) pe_int (fun _ _ => rfl))) rfl)
    (pss_one (ps_ret (pe_tup (pa_cons (pv 2) (pa_cons (pe_ix ix_list (pe_def G_holders hr le rfl (pa_cons (pv 0) (pa_cons (pv 2) pa_nil))) pe_int (fun _ _ => rfl)) (pa_cons (pv 3) (pa_cons (pv 4) pa_nil)))))))), ?_⟩
  obtain ⟨lb, hb1, hb2⟩ := id hB
  refine ⟨_, rfl, b, _, _, _, rfl, rfl, hb1, rfl, lb, rfl, ⟨_, hb2⟩, compV_list hb2 (fun _ => true) (fun x => .int (markF x lot)) (by omega) (fun x H1 hx S1 => turn_pick (y := .int (markF x lot)) look_yes (fun _ H2 S2 Q h => ⟨_, rfl, _, rfl, x, lot, rfl, hnn x hx, hsm, fun H3 S3 => h _ S3⟩) fun _ _ _ => rfl) (fun lm H1 hlm0 S1 hlm => ?_)⟩
  rw [filter_true] at hlm
  have hlm : H1 lm = some (.lst ((bs.map fun x => markF x lot).map V.int)) := by rw [hlm, List.map_map]; rfl
  try dsimp only [gName]
  have hfl : (fewF lot).length ≤ 12 := by unfold fewF; rw [List.length_map]; exact few_len hsm
  refine ⟨_, rfl, _, rfl, hsm, fun fl H2 S2 hfl0 hfl' => ⟨fl, rfl, ⟨_, SqL.of hfl'⟩, compV_list (SqL.of hfl') (fun _ => true) (fun x => .int (hd0 bs x)) (by omega) (fun x H3 hx S3 => turn_pick (y := .int (hd0 bs x)) look_yes (fun _ H4 S4 Q h => ⟨_, rfl, _, rfl, b, many, bs, x, rfl, hB.same (S1.trans (S2.trans (S3.trans S4))), hz, fun pl H5 S5 hpl0 hpl => ⟨pl, _, _, _, rfl, rfl, SqL.of hpl, hold_at (hf x hx), h _ S5⟩⟩) fun _ _ _ => rfl) (fun lk H3 hlk0 S3 hlk => ?_)⟩⟩
  rw [filter_true] at hlk
  have hlk : H3 lk = some (.lst (((fewF lot).map (hd0 bs)).map V.int)) := by rw [hlk, List.map_map]; rfl
  have S13 := S1.trans (S2.trans S3)
  try dsimp only [gName]
  refine ⟨_, rfl, _, rfl, _, rfl, a, many, as, lot, rfl, hA.same S13, hza, fun pl H4 S4 hpl0 hpl => ⟨pl, _, _, _, rfl, rfl, SqL.of hpl, hold_at hc, _, rfl, _, rfl, (by show 4 ≤ sizeLine; decide), fun t ht => ?_⟩⟩
  have S5 := S4.trans (same_new ht (.tup [.int lot, .int (hd0 as lot), .ref lm, .ref lk]))
  have nlk : lm ≠ lk := ne_of_none (S2 _ _ hlm) hlk0
  refine q _ _ [lm, lk] (S13.trans S5) ⟨t, lm, lk, rfl, upd_same, (S2.trans (S3.trans S5)) _ _ hlm, S5 _ _ hlk, rfl⟩ (by simp [nlk]) fun c hc' => ?_
  rcases List.mem_cons.mp hc' with z | z
  · rw [z]; exact hlm0
  · rw [List.mem_singleton.mp z]; exact (S1.trans S2).free hlk0
noncomputable abbrev n_lead_for : List Str := ["rows", "other", "basket", "place", "row"]
theorem sc_lead_for : FnScope n_lead_for ["rows", "other", "basket"] (defScope s_lead_for) := ⟨rfl, rfl, rfl, by decide +kernel, rfl, by decide +kernel, by decide +kernel⟩
set_option maxHeartbeats 1000000 in
theorem ok_lead_for (F : Fun K "lead_for" "lead_for" s_lead_for f fd) (b : Binds K fd ["rows", "other", "basket"] []) (m : mg "lead_for" = some (.ref f)) (M_enumerate : mg "enumerate" = none) (G_has : Dfn P w K mg base k "has" ["one", "other"] spHas) (G_holders : Dfn P w K mg base k "holders" ["book", "lot"] (spHold K)) : Dfn P w K mg base (k + 1) "lead_for" ["rows", "other", "basket"] (spLeadQ K) := by
  refine .of F b m sc_lead_for (fun vs H Q E h => ?_) (fun cdv A outer s H vs Q E hr h => ?_)
  · obtain ⟨rl, b, many, bs, ys, T, x, rfl, hrl, hT, hTn, hB, hz, hor, q⟩ := h; rfl
  obtain ⟨rl, b, many, bs, ys, T, x, rfl, hrl, hT, hTn, hB, hz, hor, q⟩ := h
  have nd := sc_lead_for.nd
  have le := Nat.le_refl k
  refine ⟨_, pss_cons (ps_for PassesOwn.never rfl (pi_enum rfl M_enumerate (pa_cons (pv 0) pa_nil)) (pg_tupK (n := 2) K rfl rfl (pgs_cons (pg_name (i := 3) nd rfl (Or.inl rfl)) (pgs_cons (pg_name (i := 4) nd rfl (Or.inl rfl)) pgs_nil)))
      (pss_one (ps_if (pt_val (pe_def G_has hr le rfl (pa_cons (pv 2) (pa_cons (pe_ix ix_tup (pv 4) pe_int (fun _ _ => rfl)) pa_nil)))) (pss_one (ps_ret (pe_tup (pa_cons pe_str (pa_cons (pv 3) pa_nil))))) pss_nil)))
    (pss_one (ps_ret (pe_tup (pa_cons pe_str (pa_cons (pe_ix ix_list (pe_def G_holders hr le rfl (pa_cons (pv 1) (pa_cons (pv 2) pa_nil))) pe_int (fun _ _ => rfl)) pa_nil))))), ?_⟩
  have hyl := Paired.length hT
  refine ⟨_, rfl, rl, rfl, ⟨_, SqL.of hrl⟩, for_enum (xs := ys) (fun i σ H' => ∃ z3 z4 : Option V, σ = [some (.ref rl), some (.ref b), some (.int x), z3, z4] ∧ Same H H' ∧ ∀ t ∈ T.take i, hasF x t = false) ⟨_, _, rfl, Same.refl _, fun t ht => nomatch ht⟩ (fun i σ H' _ h => by obtain ⟨_, _, _, S, _⟩ := h; exact SqL.of (S _ _ hrl)) ?_ ?_⟩
  · rintro i y pp σ H1 hy ⟨z3, z4, rfl, S1, hn⟩ hpp
    obtain ⟨t, ht, p, us, rfl, hp⟩ := paired_take hT hy
    have S2 := S1.trans (same_new hpp (.tup [.int (i : Int), .ref p]))
    refine ⟨pp, _, rfl, SqT.of upd_same, rfl, _, _, rfl, _, _, rfl, rfl, ?_⟩
    try dsimp only [gName]
    refine one_if (b := hasF x t) (.pure fun Q h => ⟨_, rfl, _, rfl, p, _, _, _, rfl, rfl, SqT.of (S2 _ _ hp), atI_zero, _, _, rfl, _, rfl, h⟩) fun H3 S3 => ite2 (fun c => ?_) (fun c => ⟨_, _, rfl, S2.trans S3, fun u hu => ?_⟩)
    · refine ⟨_, rfl, (by show 2 ≤ sizeLine; decide), fun tn htn => q _ _ ((S2.trans S3).trans (same_new htn _)) ⟨tn, rfl, ?_⟩⟩
      have e : T.findIdx? (fun t => hasF x t) = some i := by
        obtain ⟨hi, ek⟩ := List.getElem?_eq_some_iff.mp ht
        refine List.findIdx?_eq_some_iff_getElem.mpr ⟨hi, by rw [ek]; exact c, fun j hj => ?_⟩
        have := hn T[j] (List.mem_take_iff_getElem.mpr ⟨j, by omega, rfl⟩)
        rw [this]; decide
      unfold leadF
      rw [e]
      exact upd_same
    · rw [take_at ht] at hu
      rcases List.mem_append.mp hu with z | z
      · exact hn u z
      · rw [List.mem_singleton.mp z]; simpa using c
  · rintro σ H1 ⟨z3, z4, rfl, S1, hn⟩
    rw [hyl, List.take_length] at hn
    have e : T.findIdx? (fun t => hasF x t) = none := List.findIdx?_eq_none_iff.mpr hn
    have hc : 0 < countF bs x := hor.resolve_left fun ⟨t, ht, h⟩ => by rw [hn t ht] at h; cases h
    refine ⟨_, rfl, _, rfl, b, many, bs, x, rfl, hB.same S1, hz, fun pl H2 S2 hpl0 hpl => ⟨pl, _, _, _, rfl, rfl, SqL.of hpl, hold_at hc, (by show 2 ≤ sizeLine; decide), fun tn htn => q _ _ (S1.trans (S2.trans (same_new htn _))) ⟨tn, rfl, ?_⟩⟩⟩
    unfold leadF
    rw [e]
    exact upd_same
noncomputable abbrev n_parting_paper : List Str := ["one", "other", "rows"]
theorem sc_parting_paper : FnScope n_parting_paper ["one", "other"] (defScope s_parting_paper) := ⟨rfl, rfl, rfl, by decide +kernel, rfl, by decide +kernel, by decide +kernel⟩
theorem nd_parting_paper_0 : (["row", "one", "other"] : List Str).Nodup := by decide +kernel
theorem nd_parting_paper_1 : (["basket", "rows", "other"] : List Str).Nodup := by decide +kernel
set_option maxHeartbeats 1000000 in
theorem ok_parting_paper (F : Fun K "parting_paper" "parting_paper" s_parting_paper f fd) (b : Binds K fd ["one", "other"] []) (m : mg "parting_paper" = some (.ref f))  (G_least_parting : Dfn P w K mg base k "least_parting" ["one", "other"] (spLeastP K)) (G_parting_row : Dfn P w K mg base k "parting_row" ["one", "other", "lot"] (spPRowQ K)) (G_lead_for : Dfn P w K mg base k "lead_for" ["rows", "other", "basket"] (spLeadQ K)) : Dfn P w K mg base (k + 1) "parting_paper" ["one", "other"] (spPPaper K) := by
  refine .of F b m sc_parting_paper (fun vs H Q E h => ?_) (fun cdv A outer s H vs Q E hr h => ?_)
  · obtain ⟨a, b, many, as, bs, rfl, hA, hB, hza, hz, m0, m12, hai, hbi, q⟩ := h; rfl
  obtain ⟨a, b, many, as, bs, rfl, hA, hB, hza, hz, m0, m12, hai, hbi, q⟩ := h
  have nd := sc_parting_paper.nd
  have le := Nat.le_refl k
  refine ⟨_, pss_cons (ps_set (i := 2) nd rfl (Or.inr rfl) (pe_compC ["row"] [0, 1] (sc := defScope s_parting_paper) (N := n_parting_paper) (.inl rfl) rfl ⟨rfl, by decide +kernel, by decide +kernel, by decide +kernel, by decide +kernel⟩ rfl (pi_list (pe_def G_least_parting hr le rfl (pa_cons (pv 0) (pa_cons (pv 1) pa_nil)))) (fun cl s H C fp => (pg_name (i := 0) nd_parting_paper_0 rfl (Or.inl rfl))) (fun cl s H C fp => pifs_nil) (fun cl s H C fp => (pe_def G_parting_row hr le rfl (pa_cons (pv 1) (pa_cons (pv 2) (pa_cons (pe_ix (ix_tupK K rfl) (pv 0) pe_int (fun _ _ => rfl)) pa_nil)))))))
    (pss_one (ps_ret (pe_tup (pa_cons (pv 2) (pa_cons (pe_compC ["basket"] [2, 1] (sc := defScope s_parting_paper) (N := n_parting_paper) (.inl rfl) rfl ⟨rfl, by decide +kernel, by decide +kernel, by decide +kernel, by decide +kernel⟩ rfl (pi_list (pe_ix ix_tup (pv 0) pe_int (fun _ _ => rfl))) (fun cl s H C fp => (pg_name (i := 0) nd_parting_paper_1 rfl (Or.inl rfl))) (fun cl s H C fp => pifs_nil) (fun cl s H C fp => (pe_def G_lead_for hr le rfl (pa_cons (pv 1) (pa_cons (pv 2) (pa_cons (pv 0) pa_nil)))))) pa_nil))))), ?_⟩
  obtain ⟨la, ha1, ha2⟩ := id hA
  have h4 := p12 m12
  have hpl := partL_len many as bs
  refine ⟨_, rfl, _, rfl, a, b, many, as, bs, rfl, hA, hB, hza, hz, m0, m12, fun lp xs T H1 S1 hlp0 hlp hRl hT => ⟨lp, rfl, ⟨_, SqL.of hlp⟩, compO_list (SqL.of hlp) hRl QRowA QRowA.kp (fun r => rowQ as bs r.1) ?_ (fun r v H2 hr hv S2 => ?_) QRowA.live (fun rl ys H2 cs hrl0 S2 hrl hLA hnd hcs => ?_)⟩⟩
  · have := hT.len
    unfold rowsC
    rw [List.length_map]; omega
  · obtain ⟨t, rfl, ht⟩ := hv
    have htT : r.1 ∈ T := by
      unfold rowsC at hr
      obtain ⟨x, hx, rfl⟩ := List.mem_map.mp hr
      exact hx
    obtain ⟨tI, t1, _⟩ := partT_in hai hbi hT htT
    intro PUT SKIP hp
    exact ⟨(Wk.refl _).set (by decide), yes_of ⟨_, rfl, _, rfl, _, rfl, t, _, _, _, rfl, rfl, SqT.of (S2 _ _ ht), rfl, a, b, many, as, bs, r.1, rfl, hA.same (S1.trans S2), hB.same (S1.trans S2), hza, hz, (fun x hx => (hbi x hx).1), .of tI m12, t1, (fun f hf => part_few hai hbi hT htT hf), fun v' H3 cs S3 hr3 hn3 hf3 => hp _ _ cs S3 hr3 hn3 hf3⟩⟩
  have eT : (rowsC as T).map (fun r => rowQ as bs r.1) = T.map (rowQ as bs) := by unfold rowsC; rw [List.map_map]; rfl
  rw [eT] at hLA
  have S12 := S1.trans S2
  have hF : Paired (FRow H2) ys T := by
    have := qrows_f (hLA.paired (S := QRowS H2) fun _ _ _ z => z.s)
    rw [List.map_map] at this
    have e : (Prod.fst ∘ rowQ as bs) = id := rfl
    rw [e, List.map_id] at this
    exact this
  try dsimp only [gName]
  refine ⟨_, rfl, _, rfl, a, _, _, _, rfl, rfl, S12.tup ha1, rfl, la, rfl, ⟨_, S12.seq ha2⟩, compA_list (S12.seq ha2) (paired_ints as) (fun _ => true) (fun H' y x => LeadS H' y (leadF T bs x)) (fun _ _ _ _ t z => z.t t) (by omega) (fun x v H3 hx hv S3 => ?_) (fun ll zs H3 hll0 S3 hll hP => ?_)⟩
  · subst hv
    refine turn_is look_yes fun _ H4 S4 Q k1 => ⟨_, rfl, _, rfl, _, rfl, rl, b, many, bs, ys, T, x, rfl, (S3.trans S4) _ _ hrl, Paired.imp' (fun _ _ ⟨p, us, e, h⟩ => ⟨p, us, e, (S3.trans S4) _ _ h⟩) hF, by have := hT.len; omega, hB.same (S12.trans (S3.trans S4)), hz, part_lead hai hbi hT hx, fun v' H5 S5 hl => k1 _ _ (S4.trans S5) hl⟩
  rw [filter_true] at hP
  refine ⟨(by show 2 ≤ sizeLine; decide), fun t ht => ?_⟩
  have St := same_new ht (.tup [.ref rl, .ref ll])
  have S3t := S3.trans St
  have nrl : rl ≠ ll := ne_of_none hrl hll0
  refine q t rl ll ys zs T _ cs (S12.trans S3t) hT upd_same (S3t _ _ hrl) (hLA.kp QRowA.kp (kp_of S3t _)) (St _ _ hll) (paired_mapF8 (Paired.imp' (fun _ _ z => z.t St.t) hP)) hnd (fun c hc => ⟨S1.free (hcs c hc).1, (hcs c hc).2, fun e => ?_⟩) (S1.free hrl0) (S12.free hll0) nrl
  exact hLA.live (QRowA.live H2) c hc (by rw [e]; exact hll0)

end
end OL.Q83

namespace OL.Q83
open PySem L2 OL
section
variable {P : Program} {w : World} {K : PySem.W.Frag} {mg : Str → Option Value} {base : Heap} {f : Addr} {fd : FuncData} {k : Nat}
theorem scTh12 : FnScope ["_law_lot"] ["_law_lot"] (defScope sThingsL) := ⟨rfl, rfl, rfl, by decide +kernel, rfl, by decide +kernel, by decide +kernel⟩
theorem ndTLt : (["_law_thing", "_law_lot"] : List Str).Nodup := by decide +kernel
theorem ok_th12 (F : Fun K "_law_things" "_law_things" sThingsL f fd) (b : Binds K fd ["_law_lot"] []) (m : mg "_law_things" = some (.ref f)) (mr : mg "range" = none) : Dfn P w K mg base (k + 1) "_law_things" ["_law_lot"] spTh12 := by
  refine .of F b m scTh12 (fun vs H Q E h => ?_) (fun cdv A outer s H vs Q E hr h => ?_)
  · obtain ⟨n, rfl, _⟩ := h; rfl
  obtain ⟨n, rfl, n1, q⟩ := h
  refine ⟨_, pss_one (ps_ret (pe_comp ["_law_thing"] [0] (sc := defScope sThingsL) (N := ["_law_lot"]) rfl rfl ⟨rfl, by decide +kernel, by decide +kernel, by decide +kernel, by decide +kernel⟩ rfl
    (pi_range1 rfl mr (pa_cons pe_int pa_nil)) (fun cl s H C fp => pg_name (i := 0) ndTLt rfl (Or.inl rfl))
    (fun cl s H C fp => pifs_one (pt_cmpR op_eq (pe_op op_and (pe_op op_shr (pv 1) (pv 0)) pe_int) pe_int (nomark _))) (fun cl s H C fp => pv 0))), ?_⟩
  refine ⟨12, rfl, by decide, by decide, comp_range (fun i => (upto (b12 n) i).map V.int) rfl (fun acc i H2 hacc hi S h0 => ?_) (fun acc H2 hacc S h0 => q acc H2 S hacc h0)⟩
  rw [show (0 + (i : Int)) = (i : Int) from Int.zero_add _]
  refine ⟨(Wk.refl _).set (by decide), _, rfl, _, rfl, _, _, rfl, rfl, by omega, _, _, rfl, rfl, rfl, _, rfl, ?_⟩
  rw [int_eq]
  have hle : i < 12 := hi
  refine ite2 (fun c => ?_) (fun c => ?_)
  · refine ⟨_, rfl, cput hi hacc S h0 (Same.refl _) ?_ ?_⟩
    · show (upto _ (i + 1)).map V.int = _
      rw [upto_yes (p := b12 n) c, List.map_append]; rfl
    · rw [List.length_map]
      have := upto_len (b12 n) i
      exact small1000 (by omega)
  · refine cskip hi S h0 (Same.refl _) ?_
    show (upto _ (i + 1)).map V.int = _
    rw [upto_no (p := b12 n) c]
theorem look_of8 {t : TT} {σ : St} {H : Hp} {a b : Bool} (e : a = b) (h : LookT t σ H a) : LookT t σ H b := e ▸ h
noncomputable abbrev n_L_marks_right : List Str := ["_law_baskets", "_law_lot", "_law_marks", "_law_basket", "_law_mark"]
theorem sc_L_marks_right : FnScope n_L_marks_right ["_law_baskets", "_law_lot", "_law_marks"] (defScope s_L_marks_right) := ⟨rfl, rfl, rfl, by decide +kernel, rfl, by decide +kernel, by decide +kernel⟩
set_option maxHeartbeats 1000000 in
theorem ok_L_marks_right (F : Fun K "_law_marks_right" "_law_marks_right" s_L_marks_right f fd) (b : Binds K fd ["_law_baskets", "_law_lot", "_law_marks"] []) (m : mg "_law_marks_right" = some (.ref f)) (M_len : mg "len" = none) (M_zip : mg "zip" = none) (G_L_things : Dfn P w K mg base k "_law_things" ["_law_lot"] spTh12) : Dfn P w K mg base (k + 1) "_law_marks_right" ["_law_baskets", "_law_lot", "_law_marks"] (spMarksRL K) := by
  refine .of F b m sc_L_marks_right (fun vs H Q E h => ?_) (fun cdv A outer s H vs Q E hr h => ?_)
  · obtain ⟨l, m, bs, lot, ms, rfl, hl, hnn, hsm, hm, q⟩ := h; rfl
  obtain ⟨l, m, bs, lot, ms, rfl, hl, hnn, hsm, hm, q⟩ := h
  have nd := sc_L_marks_right.nd
  have le := Nat.le_refl k
  refine ⟨_, pss_cons (ps_if (pt_cmpR op_ne (pe_callB call_len_seq (by rfl) M_len PySem.boot_len (pa_cons (pv 2) pa_nil)) (pe_callB call_len_seq (by rfl) M_len PySem.boot_len (pa_cons (pv 0) pa_nil)) (nomark _)) (pss_one (ps_ret pe_bl)) pss_nil)
    (pss_cons (ps_for PassesOwn.never rfl (pi_zip rfl M_zip (pa_cons (pv 0) (pa_cons (pv 2) pa_nil))) (pg_tupK (n := 2) K rfl rfl (pgs_cons (pg_name (i := 3) nd rfl (Or.inl rfl)) (pgs_cons (pg_name (i := 4) nd rfl (Or.inl rfl)) pgs_nil)))
      (pss_one (ps_if (PW.pt (pw_or (pt_cmpR op_notIn_seq (pv 4) (pe_def G_L_things hr le rfl (pa_cons (pv 1) pa_nil)) (by rfl)) (pw_or1 (pt_cmpR op_eq (pe_op op_and (pe_op op_shr (pv 3) (pv 4)) pe_int) pe_int (nomark _))))) (pss_one (ps_ret pe_bl)) pss_nil)))
    (pss_one (ps_ret pe_bl))), ?_⟩
  unfold marksL at q
  have e3 : lot = ((lot.toNat : Nat) : Int) := by have := hsm.1; omega
  have hn4 : lot.toNat < 4096 := by have := hsm.2; have := hsm.1; omega
  refine seq_if (b := !decide (ms.length = bs.length)) (.pure fun Q h => ⟨_, rfl, m, _, rfl, .inl (SqL.of hm), _, rfl, l, _, rfl, .inl hl, rfl, _, rfl, (by rw [List.length_map, List.length_map, dec_len]; exact h)⟩) fun H1 S1 => ite2 (fun c => ?_) (fun c => ?_)
  · have c : ¬ ms.length = bs.length := by simpa using c
    rw [decide_eq_false c] at q
    exact q _ S1
  have c : ms.length = bs.length := by simpa using c
  rw [decide_eq_true c, Bool.true_and] at q
  try dsimp only [tNext]
  refine ⟨_, rfl, _, rfl, l, m, rfl, ⟨_, S1.seq hl⟩, ⟨_, SqL.of (S1 _ _ hm)⟩, for_zip (xs := bs.map V.int) (ys := ms.map V.int) (fun i σ H' => ∃ z3 z4 : Option V, σ = [some (.ref l), some (.int lot), some (.ref m), z3, z4] ∧ Same H H' ∧ ((bs.zip ms).take i).all (fun x => (thingsF lot).any (fun t => t == x.2) && !bitI x.1 x.2) = true) ⟨_, _, rfl, S1, rfl⟩ (fun i σ H' _ h => by obtain ⟨_, _, _, S, _⟩ := h; exact ⟨S.seq hl, SqL.of (S _ _ hm)⟩) (by rw [List.length_map, List.length_map, c]) ?_ ?_⟩
  · rintro i u v pp σ H3 hu hv hpp ⟨z3, z4, rfl, S3, hal⟩
    rw [List.getElem?_map] at hu hv
    cases eu : bs[i]? with
    | none => rw [eu] at hu; cases hu
    | some x =>
    cases ev : ms[i]? with
    | none => rw [ev] at hv; cases hv
    | some y =>
    rw [eu] at hu; rw [ev] at hv
    cases hu; cases hv
    have hz := zip_get eu ev
    have S4 := S3.trans (same_new hpp (.tup [.int x, .int y]))
    refine ⟨pp, _, rfl, SqT.of upd_same, rfl, _, _, rfl, _, _, rfl, rfl, ?_⟩
    try dsimp only [gName]
    refine one_if (b := !((thingsF lot).any (fun t => t == y)) || bitI x y) (lookOr (fun Q h => ⟨_, rfl, _, rfl, lot.toNat, by rw [← e3]; rfl, hn4, fun tl H5 S5 htl0 htl => ⟨tl, _, rfl, .inl (SqL.of htl), rfl, flat_ints _, _, rfl, ?_⟩⟩) (fun ct H5 S5 => .pure fun Q h => ⟨_, rfl, _, rfl, _, _, rfl, rfl, ?_, _, _, rfl, rfl, rfl, _, rfl, ?_⟩)) fun H5 S5 => ite2 (fun c2 => ?_) (fun c2 => ⟨_, _, rfl, S4.trans S5, all_go hz ?_ hal⟩)
    · rw [in_ints, th12_eq hn4, ← e3]; exact h _ S5
    · have : (thingsF lot).any (fun t => t == y) = true := by simpa using ct
      obtain ⟨t, ht, e⟩ := List.any_eq_true.mp this
      obtain ⟨n, _, rfl⟩ := (mem_thingsF hsm.1).mp ht
      have e := beq_iff_eq.mp e
      omega
    · rw [int_eq]; exact h
    · have : ((thingsF lot).any (fun t => t == (x, y).2) && !bitI (x, y).1 (x, y).2) = false := by
        show ((thingsF lot).any (fun t => t == y) && !bitI x y) = false
        cases h1 : (thingsF lot).any (fun t => t == y) <;> cases h2 : bitI x y <;> simp [h1, h2] at c2 ⊢
      rw [all_stop hz this] at q
      exact q _ (S4.trans S5)
    · show ((thingsF lot).any (fun t => t == y) && !bitI x y) = true
      cases h1 : (thingsF lot).any (fun t => t == y) <;> cases h2 : bitI x y <;> simp [h1, h2] at c2 ⊢
  · rintro σ H3 ⟨z3, z4, rfl, S3, hal⟩
    rw [all_end (by rw [List.length_map, List.length_zip]; omega) hal] at q
    exact q _ S3
noncomputable abbrev n_L_at : List Str := ["_law_baskets", "_law_place", "_law_lot"]
theorem sc_L_at : FnScope n_L_at ["_law_baskets", "_law_place", "_law_lot"] (defScope s_L_at) := ⟨rfl, rfl, rfl, by decide +kernel, rfl, by decide +kernel, by decide +kernel⟩
theorem ok_L_at (F : Fun K "_law_at" "_law_at" s_L_at f fd) (b : Binds K fd ["_law_baskets", "_law_place", "_law_lot"] []) (m : mg "_law_at" = some (.ref f)) (M_len : mg "len" = none)  : Dfn P w K mg base (k + 1) "_law_at" ["_law_baskets", "_law_place", "_law_lot"] (spPlaceH K) := by
  refine .of F b m sc_L_at (fun vs H Q E h => ?_) (fun cdv A outer s H vs Q E hr h => ?_)
  · obtain ⟨l, bs, p, lot, rfl, hl, q⟩ := h; rfl
  obtain ⟨l, bs, p, lot, rfl, hl, q⟩ := h
  have nd := sc_L_at.nd
  refine ⟨_, pss_one (ps_ret (pe_and (pe_cmpR op_le pe_int (pv 1) (nomark _)) (pe_and (pe_cmpR op_lt (pv 1) (pe_callB call_len_seq (by rfl) M_len PySem.boot_len (pa_cons (pv 0) pa_nil)) (nomark _)) (pe_one (pe_cmpR op_eq (pe_op op_and (pe_ix ix_list (pv 0) (pv 1) (fun _ _ => rfl)) (pv 2)) (pv 2) (nomark _)))))), ?_⟩
  unfold placeB at q
  refine ⟨_, rfl, _, _, rfl, rfl, _, rfl, ?_⟩
  cases c : decide (0 ≤ p) with
  | false => exact iteF (by rw [c] at q; exact q)
  | true =>
    rw [c] at q
    refine iteT ⟨_, rfl, _, rfl, l, _, rfl, .inl hl, _, _, rfl, rfl, _, rfl, ?_⟩
    rw [List.length_map]
    cases c2 : decide (p < (bs.length : Int)) with
    | false => exact iteF (by rw [c2] at q; exact q)
    | true =>
      rw [c2] at q
      refine iteT ⟨_, rfl, _, rfl, l, _, _, _, rfl, rfl, hl, atI_int (of_decide_eq_true c) (of_decide_eq_true c2), _, rfl, _, _, rfl, rfl, _, rfl, rfl, ?_⟩
      rw [int_eq]
      exact q
noncomputable abbrev n_L_row_right : List Str := ["_law_one", "_law_other", "_law_row", "_law_lot", "_law_place", "_law_marks", "_law_backs", "_law_things_here"]
theorem sc_L_row_right : FnScope n_L_row_right ["_law_one", "_law_other", "_law_row"] (defScope s_L_row_right) := ⟨rfl, rfl, rfl, by decide +kernel, rfl, by decide +kernel, by decide +kernel⟩
theorem nd_L_row_right_0 : (["_law_k", "_law_other", "_law_backs", "_law_lot", "_law_things_here"] : List Str).Nodup := by decide +kernel
set_option maxHeartbeats 1000000 in
theorem ok_L_row_right (F : Fun K "_law_row_right" "_law_row_right" s_L_row_right f fd) (b : Binds K fd ["_law_one", "_law_other", "_law_row"] []) (m : mg "_law_row_right" = some (.ref f)) (M_len : mg "len" = none) (M_range : mg "range" = none) (G_L_at : Dfn P w K mg base k "_law_at" ["_law_baskets", "_law_place", "_law_lot"] (spPlaceH K)) (G_L_marks_right : Dfn P w K mg base k "_law_marks_right" ["_law_baskets", "_law_lot", "_law_marks"] (spMarksRL K)) (G_L_things : Dfn P w K mg base k "_law_things" ["_law_lot"] spTh12) : Dfn P w K mg base (k + 1) "_law_row_right" ["_law_one", "_law_other", "_law_row"] (spRowRL K) := by
  refine .of F b m sc_L_row_right (fun vs H Q E h => ?_) (fun cdv A outer s H vs Q E hr h => ?_)
  · obtain ⟨a, b, v, many, as, bs, r, rfl, hA, hB, m0, m12, hnn, hv, q⟩ := h; rfl
  obtain ⟨a, b, v, many, as, bs, r, rfl, hA, hB, m0, m12, hnn, hv, q⟩ := h
  have nd := sc_L_row_right.nd
  have le := Nat.le_refl k
  refine ⟨_, pss_cons (ps_asg (pv 2) (pg_tupK (n := 4) K rfl rfl (pgs_cons (pg_name (i := 3) nd rfl (Or.inr rfl)) (pgs_cons (pg_name (i := 4) nd rfl (Or.inl rfl)) (pgs_cons (pg_name (i := 5) nd rfl (Or.inl rfl)) (pgs_cons (pg_name (i := 6) nd rfl (Or.inr rfl)) pgs_nil))))))
    (pss_cons (ps_if (PW.pt (pw_or (pt_cmpR op_lt (pv 3) pe_int (nomark _)) (pw_or (pt_cmpR op_ge (pv 3) (pe_op op_shl pe_int (pe_ix ix_tup (pv 0) pe_int (fun _ _ => rfl))) (nomark _)) (pw_or1 (pt_not (pt_val (pe_def G_L_at hr le rfl (pa_cons (pe_ix ix_tup (pv 0) pe_int (fun _ _ => rfl)) (pa_cons (pv 4) (pa_cons (pv 3) pa_nil)))))))))) (pss_one (ps_ret pe_bl)) pss_nil)
    (pss_cons (ps_if (pt_not (pt_val (pe_def G_L_marks_right hr le rfl (pa_cons (pe_ix ix_tup (pv 1) pe_int (fun _ _ => rfl)) (pa_cons (pv 3) (pa_cons (pv 5) pa_nil)))))) (pss_one (ps_ret pe_bl)) pss_nil)
    (pss_cons (ps_set (i := 7) nd rfl (Or.inr rfl) (pe_def G_L_things hr le rfl (pa_cons (pv 3) pa_nil)))
    (pss_cons (ps_if (pt_cmpR op_ne (pe_callB call_len_seq (by rfl) M_len PySem.boot_len (pa_cons (pv 6) pa_nil)) (pe_callB call_len_seq (by rfl) M_len PySem.boot_len (pa_cons (pv 7) pa_nil)) (nomark _)) (pss_one (ps_ret pe_bl)) pss_nil)
    (pss_one (ps_ret (pe_cmpR (op_eqD hr) (pe_compC ["_law_k"] [1, 6, 3, 7] (sc := defScope s_L_row_right) (N := n_L_row_right) (.inl rfl) rfl ⟨rfl, by decide +kernel, by decide +kernel, by decide +kernel, by decide +kernel⟩ rfl (pi_range1 rfl M_range (pa_cons (pe_callB call_len_seq (by rfl) M_len PySem.boot_len (pa_cons (pv 7) pa_nil)) pa_nil)) (fun cl s H C fp => (pg_name (i := 0) nd_L_row_right_0 rfl (Or.inl rfl))) (fun cl s H C fp => pifs_one (pt_not (pt_val (pe_def G_L_at hr le rfl (pa_cons (pe_ix (ix_tupK K rfl) (pv 1) pe_int (fun _ _ => rfl)) (pa_cons (pe_ix (ix_listK K rfl) (pv 2) (pv 0) (fun _ _ => rfl)) (pa_cons (pe_op op_sub (pv 3) (pe_op op_shl pe_int (pe_ix (ix_listK K rfl) (pv 4) (pv 0) (fun _ _ => rfl)))) pa_nil))))))) (fun cl s H C fp => (pv 0))) (pe_lst pa_nil) (nomark _)))))))), ?_⟩
  obtain ⟨x, y, ms, ks⟩ := r
  obtain ⟨t, lm, lk, rfl, ht, hlm, hlk⟩ := id hv
  dsimp only at ht hlm hlk
  obtain ⟨la, ha1, ha2⟩ := id hA
  obtain ⟨lb, hb1, hb2⟩ := id hB
  refine ⟨_, rfl, t, _, rfl, SqT.of ht, rfl, _, _, rfl, _, _, rfl, _, _, rfl, _, _, rfl, rfl, ?_⟩
  try dsimp only [gName]
  have e0 : rowL many as bs (x, y, ms, ks) = ((decide (0 ≤ x) && decide (x < 2 ^ many.toNat)) && (placeB as y x && (!(ms.any fun m => m == -1) && (marksB bs x ms && backsB bs x ks)))) := rfl
  rw [e0] at q
  clear e0
  refine seq_if (b := decide (x < 0) || (decide (1 * 2 ^ many.toNat ≤ x) || !placeB as y x)) (lookOr (.pure fun Q h => ⟨_, rfl, _, _, rfl, rfl, _, rfl, h⟩) (fun _ H1 S1 => lookOr (.pure fun Q h => ⟨_, rfl, _, rfl, a, _, _, _, rfl, rfl, S1.tup ha1, rfl, _, _, rfl, rfl, ⟨by omega, by omega, by decide⟩, _, _, rfl, rfl, _, rfl, h⟩) (fun _ H2 S2 => .pure fun Q h => ⟨_, rfl, a, _, _, _, rfl, rfl, (S1.trans S2).tup ha1, rfl, _, rfl, _, rfl, la, as, y, x, rfl, (S1.trans S2).seq ha2, _, rfl, h⟩))) fun H1 S1 => ite2 (fun c => ?_) (fun c => ?_)
  · have e : ((decide (0 ≤ x) && decide (x < 2 ^ many.toNat)) && placeB as y x) = false := by
      rw [Bool.eq_false_iff]
      intro h
      obtain ⟨h1, h2⟩ := Bool.and_eq_true_iff.mp h
      obtain ⟨h3, h4⟩ := Bool.and_eq_true_iff.mp h1
      have h3 := of_decide_eq_true h3
      have h4 := of_decide_eq_true h4
      rw [h2, decide_eq_false (show ¬ x < 0 by omega), decide_eq_false (show ¬ 1 * 2 ^ many.toNat ≤ x by omega)] at c
      cases c
    rw [← Bool.and_assoc, e, Bool.false_and] at q
    exact q _ S1
  have hx0 : 0 ≤ x := by
    refine Classical.byContradiction fun h => c ?_
    rw [decide_eq_true (show x < 0 by omega)]; rfl
  have hx1 : x < 2 ^ many.toNat := by
    refine Classical.byContradiction fun h => c ?_
    rw [decide_eq_true (show 1 * 2 ^ many.toNat ≤ x by omega), Bool.true_or, Bool.or_true]
  have hpl : placeB as y x = true := by
    cases h : placeB as y x with
    | true => rfl
    | false => exact absurd (by rw [h]; simp) c
  have hsm : Sm x := .of (show InB many x from ⟨hx0, hx1⟩) m12
  rw [decide_eq_true hx0, decide_eq_true hx1, hpl, ← Bool.and_assoc (!(ms.any fun m => m == -1)), ← marksL_eq hx0 hnn] at q
  change ∀ H', Same H H' → Q (.bl (marksL bs x ms && backsB bs x ks)) H' at q
  try dsimp only [tNext]
  refine seq_if (b := !marksL bs x ms) (fun Q h => ⟨_, rfl, b, _, _, _, rfl, rfl, S1.tup hb1, rfl, _, rfl, _, rfl, lb, lm, bs, x, ms, rfl, S1.seq hb2, hnn, hsm, S1 _ _ hlm, fun H2 S2 => ⟨_, rfl, h _ S2⟩⟩) fun H2 S2 => ite2 (fun c1 => ?_) (fun c1 => ?_)
  · rw [show marksL bs x ms = false by simpa using c1, Bool.false_and] at q
    exact q _ (S1.trans S2)
  rw [show marksL bs x ms = true by simpa using c1, Bool.true_and] at q
  have S12 := S1.trans S2
  have e3 : x = ((x.toNat : Nat) : Int) := by omega
  have hn4 : x.toNat < 4096 := by have := hsm.2; omega
  try dsimp only [tNext]
  refine ⟨_, rfl, x.toNat, by rw [← e3]; rfl, hn4, fun tl H3 S3 htl0 htl => ?_⟩
  rw [th12_eq hn4, ← e3] at htl
  have S13 := S12.trans S3
  have hfl : (fewF x).length = (thingsF x).length := by unfold fewF; rw [List.length_map]
  have htn := few_len hsm
  unfold backsB at q
  rw [hfl] at q
  try dsimp only [gName]
  refine seq_if (b := !decide (ks.length = (thingsF x).length)) (.pure fun Q h => ⟨_, rfl, lk, _, rfl, .inl (SqL.of (S13 _ _ hlk)), _, rfl, tl, _, rfl, .inl (SqL.of htl), rfl, _, rfl, (by rw [List.length_map, List.length_map, dec_len]; exact h)⟩) fun H4 S4 => ite2 (fun c2 => ?_) (fun c2 => ?_)
  · have c2 : ¬ ks.length = (thingsF x).length := by simpa using c2
    rw [decide_eq_false c2, Bool.false_and] at q
    exact q _ (S13.trans S4)
  have c2 : ks.length = (thingsF x).length := by simpa using c2
  rw [decide_eq_true c2, Bool.true_and] at q
  have S14 := S13.trans S4
  have htl4 := S4 _ _ htl
  try dsimp only [tNext]
  have hg : ∀ i, i < (thingsF x).length → ((fewF x).zip ks)[i]? = some (x - 1 * 2 ^ ((thingsF x).getD i 0).toNat, ks.getD i 0) := fun i hi => by
    refine zip_get ?_ ?_
    · unfold fewF
      rw [List.getElem?_map, List.getElem?_eq_getElem hi, List.getD_eq_getElem?_getD, List.getElem?_eq_getElem hi]; rfl
    · rw [List.getD_eq_getElem?_getD, List.getElem?_eq_getElem (show i < ks.length by omega)]; rfl
  refine ⟨_, rfl, tl, _, rfl, .inl (SqL.of htl4), _, rfl, (by rw [List.length_map]; omega), (by rw [List.length_map]; omega), ?_⟩
  rw [List.length_map, Int.toNat_natCast]
  refine compV_range (n := (thingsF x).length) (fun i => !placeB bs (ks.getD i 0) (x - 1 * 2 ^ ((thingsF x).getD i 0).toNat)) (fun i => .int (i : Int)) (by omega) (fun i H5 hi S5 => turn_pick (y := .int (i : Int)) (.pure fun Q h => ⟨_, rfl, b, _, _, _, rfl, rfl, (S14.trans S5).tup hb1, rfl, _, rfl, _, rfl, lk, _, _, _, rfl, rfl, SqL.of ((S14.trans S5) _ _ hlk), atI_int (by omega) (by omega), _, rfl, _, rfl, _, rfl, tl, _, _, _, rfl, rfl, SqL.of (S5 _ _ htl4), atI_int (by omega) (by omega), _, _, rfl, rfl, ?_, _, _, rfl, rfl, lb, bs, _, _, rfl, (S14.trans S5).seq hb2, _, rfl, ?_⟩) (fun _ H6 S6 => .pure fun Q h => ⟨_, rfl, h⟩) fun _ _ _ => rfl) (fun acc H5 hacc0 S5 hacc => ?_)
  · rw [Int.toNat_natCast]
    obtain ⟨n, hn, e⟩ := (mem_thingsF hx0).mp (show (thingsF x).getD i 0 ∈ thingsF x from getD_mem hi)
    have hn12 : n < 12 := by
      have := InB.th (many := 12) (x := x) ⟨hx0, by have := hsm.2; show x < (2 : Int) ^ 12; omega⟩ hn
      exact this
    rw [e]
    exact ⟨by omega, by omega, by decide⟩
  · rw [Int.toNat_natCast]; exact h
  have ea : ((List.range (thingsF x).length).filter fun i => !placeB bs (ks.getD i 0) (x - 1 * 2 ^ ((thingsF x).getD i 0).toNat)).isEmpty = ((fewF x).zip ks).all fun z => placeB bs z.2 z.1 := by
    rw [Bool.eq_iff_iff, List.isEmpty_iff, List.filter_eq_nil_iff, List.all_eq_true]
    constructor
    · intro h z hz
      obtain ⟨i, hi⟩ := List.getElem?_of_mem hz
      have hil : i < (thingsF x).length := by
        have := (List.getElem?_eq_some_iff.mp hi).1
        rw [List.length_zip] at this; omega
      rw [hg i hil] at hi
      cases hi
      simpa using h i (List.mem_range.mpr hil)
    · intro h i hi
      have := h _ (List.mem_of_getElem? (hg i (List.mem_range.mp hi)))
      rw [this]; decide
  refine eq_nilD (neg := false) (ds := ((List.range (thingsF x).length).filter fun i => !placeB bs (ks.getD i 0) (x - 1 * 2 ^ ((thingsF x).getD i 0).toNat)).map fun (i : Nat) => PyData.int (i : Int)) (SqL.of hacc) (fun H' S' => ?_) ?_ fun H6 S6 => ?_
  · have := DRs.ints (K := K) (H := H') (((List.range (thingsF x).length).filter fun i => !placeB bs (ks.getD i 0) (x - 1 * 2 ^ ((thingsF x).getD i 0).toNat)).map fun (i : Nat) => (i : Int))
    rw [List.map_map, List.map_map] at this
    exact this
  · have := shaped_ints (((List.range (thingsF x).length).filter fun i => !placeB bs (ks.getD i 0) (x - 1 * 2 ^ ((thingsF x).getD i 0).toNat)).map fun (i : Nat) => (i : Int))
    rw [List.map_map] at this
    exact this
  · have e4 : (((List.range (thingsF x).length).filter fun i => !placeB bs (ks.getD i 0) (x - 1 * 2 ^ ((thingsF x).getD i 0).toNat)).map fun (i : Nat) => PyData.int (i : Int)).isEmpty = ((List.range (thingsF x).length).filter fun i => !placeB bs (ks.getD i 0) (x - 1 * 2 ^ ((thingsF x).getD i 0).toNat)).isEmpty := by
      rw [List.isEmpty_map]
    show Q (.bl _) H6
    rw [if_neg (by decide), e4, ea]
    exact q _ (S14.trans (S5.trans S6))
noncomputable abbrev n_L_right : List Str := ["_law_one", "_law_other", "_law_paper", "_law_rows", "_law_leads", "_law_lots", "_law_basket", "_law_lead", "_law_word", "_law_place"]
theorem sc_L_right : FnScope n_L_right ["_law_one", "_law_other", "_law_paper"] (defScope s_L_right) := ⟨rfl, rfl, rfl, by decide +kernel, rfl, by decide +kernel, by decide +kernel⟩
theorem nd_L_right_0 : (["_law_row"] : List Str).Nodup := by decide +kernel
theorem nd_L_right_1 : (["_law_k", "_law_lots"] : List Str).Nodup := by decide +kernel
theorem nd_L_right_2 : (["_law_row", "_law_one", "_law_other"] : List Str).Nodup := by decide +kernel
set_option maxHeartbeats 2000000 in
theorem ok_L_right (F : Fun K "_law_right" "_law_right" s_L_right f fd) (b : Binds K fd ["_law_one", "_law_other", "_law_paper"] []) (m : mg "_law_right" = some (.ref f)) (M_len : mg "len" = none) (M_range : mg "range" = none) (M_zip : mg "zip" = none) (G_L_row_right : Dfn P w K mg base k "_law_row_right" ["_law_one", "_law_other", "_law_row"] (spRowRL K)) (G_L_at : Dfn P w K mg base k "_law_at" ["_law_baskets", "_law_place", "_law_lot"] (spPlaceH K)) : Dfn P w K mg base (k + 1) "_law_right" ["_law_one", "_law_other", "_law_paper"] (spRightL K) := by
  refine .of F b m sc_L_right (fun vs H Q E h => ?_) (fun cdv A outer s H vs Q E hr h => ?_)
  · obtain ⟨a, b, v, many, as, bs, R, L, rfl, hA, hB, m0, m12, hnna, hnn, hv, hRn, q⟩ := h; rfl
  obtain ⟨a, b, v, many, as, bs, R, L, rfl, hA, hB, m0, m12, hnna, hnn, hv, hRn, q⟩ := h
  have nd := sc_L_right.nd
  have le := Nat.le_refl k
  refine ⟨_, pss_cons (ps_asg (pv 2) (pg_tupK (n := 2) K rfl rfl (pgs_cons (pg_name (i := 3) nd rfl (Or.inl rfl)) (pgs_cons (pg_name (i := 4) nd rfl (Or.inl rfl)) pgs_nil))))
    (pss_cons (ps_set (i := 5) nd rfl (Or.inr rfl) (pe_compC ["_law_row"] [] (sc := defScope s_L_right) (N := n_L_right) (.inl rfl) rfl ⟨rfl, by decide +kernel, by decide +kernel, by decide +kernel, by decide +kernel⟩ rfl (pi_list (pv 3)) (fun cl s H C fp => (pg_name (i := 0) nd_L_right_0 rfl (Or.inl rfl))) (fun cl s H C fp => pifs_nil) (fun cl s H C fp => (pe_ix (ix_tupK K rfl) (pv 0) pe_int (fun _ _ => rfl)))))
    (pss_cons (ps_if (pt_cmpR op_ne (pe_callB call_len_seq (by rfl) M_len PySem.boot_len (pa_cons (pv 4) pa_nil)) (pe_callB call_len_seq (by rfl) M_len PySem.boot_len (pa_cons (pe_ix ix_tup (pv 0) pe_int (fun _ _ => rfl)) pa_nil)) (nomark _)) (pss_one (ps_ret pe_bl)) pss_nil)
    (pss_cons (ps_if (pt_cmpR (op_neD hr) (pe_compC ["_law_k"] [5] (sc := defScope s_L_right) (N := n_L_right) (.inl rfl) rfl ⟨rfl, by decide +kernel, by decide +kernel, by decide +kernel, by decide +kernel⟩ rfl (pi_range2 rfl M_range (pa_cons pe_int (pa_cons (pe_callB call_len_seq (by rfl) M_len PySem.boot_len (pa_cons (pv 5) pa_nil)) pa_nil))) (fun cl s H C fp => (pg_name (i := 0) nd_L_right_1 rfl (Or.inl rfl))) (fun cl s H C fp => pifs_one (pt_cmpR op_ge (pe_ix (ix_listK K rfl) (pv 1) (pe_op op_sub (pv 0) pe_int) (fun _ _ => rfl)) (pe_ix (ix_listK K rfl) (pv 1) (pv 0) (fun _ _ => rfl)) (nomark _))) (fun cl s H C fp => (pv 0))) (pe_lst pa_nil) (nomark _)) (pss_one (ps_ret pe_bl)) pss_nil)
    (pss_cons (ps_if (pt_cmpR (op_neD hr) (pe_compC ["_law_row"] [0, 1] (sc := defScope s_L_right) (N := n_L_right) (.inl rfl) rfl ⟨rfl, by decide +kernel, by decide +kernel, by decide +kernel, by decide +kernel⟩ rfl (pi_list (pv 3)) (fun cl s H C fp => (pg_name (i := 0) nd_L_right_2 rfl (Or.inl rfl))) (fun cl s H C fp => pifs_one (pt_not (pt_val (pe_def G_L_row_right hr le rfl (pa_cons (pv 1) (pa_cons (pv 2) (pa_cons (pv 0) pa_nil))))))) (fun cl s H C fp => (pv 0))) (pe_lst pa_nil) (nomark _)) (pss_one (ps_ret pe_bl)) pss_nil)
    (pss_cons (ps_for PassesOwn.never rfl (pi_zip rfl M_zip (pa_cons (pe_ix ix_tup (pv 0) pe_int (fun _ _ => rfl)) (pa_cons (pv 4) pa_nil))) (pg_tupK (n := 2) K rfl rfl (pgs_cons (pg_name (i := 6) nd rfl (Or.inl rfl)) (pgs_cons (pg_name (i := 7) nd rfl (Or.inl rfl)) pgs_nil)))
      (pss_cons (ps_asg (pv 7) (pg_tupK (n := 2) K rfl rfl (pgs_cons (pg_name (i := 8) nd rfl (Or.inl rfl)) (pgs_cons (pg_name (i := 9) nd rfl (Or.inl rfl)) pgs_nil))))
      (pss_cons (ps_if (PW.pt (pw_and (pt_cmpR op_eq (pv 8) pe_str (nomark _)) (pw_and1 (PW.pt (pw_or (pt_cmpR op_lt (pv 9) pe_int (nomark _)) (pw_or1 (pt_cmpR op_ge (pv 9) (pe_callB call_len_seq (by rfl) M_len PySem.boot_len (pa_cons (pv 3) pa_nil)) (nomark _)))))))) (pss_one (ps_ret pe_bl)) pss_nil)
      (pss_cons (ps_if (PW.pt (pw_and (pt_cmpR op_eq (pv 8) pe_str (nomark _)) (pw_and1 (pt_cmpR op_ne (pe_op op_and (pe_ix ix_tup (pe_ix ix_list (pv 3) (pv 9) (fun _ _ => rfl)) pe_int (fun _ _ => rfl)) (pv 6)) (pe_ix ix_tup (pe_ix ix_list (pv 3) (pv 9) (fun _ _ => rfl)) pe_int (fun _ _ => rfl)) (nomark _))))) (pss_one (ps_ret pe_bl)) pss_nil)
      (pss_one (ps_if (PW.pt (pw_and (pt_cmpR op_ne (pv 8) pe_str (nomark _)) (pw_and1 (PW.pt (pw_or (pt_cmpR op_ne (pv 8) pe_str (nomark _)) (pw_or1 (pt_not (pt_val (pe_def G_L_at hr le rfl (pa_cons (pe_ix ix_tup (pv 1) pe_int (fun _ _ => rfl)) (pa_cons (pv 9) (pa_cons (pv 6) pa_nil)))))))))))) (pss_one (ps_ret pe_bl)) pss_nil))))))
    (pss_one (ps_ret pe_bl))))))), ?_⟩
  obtain ⟨t, rl, ll, ys, zs, rfl, ht, hrl, hR, hll, hL⟩ := id hv
  obtain ⟨la, ha1, ha2⟩ := id hA
  obtain ⟨lb, hb1, hb2⟩ := id hB
  have hyl := Paired.length hR
  have hzl := Paired.length hL
  rw [law_holds] at q
  refine ⟨_, rfl, t, _, rfl, SqT.of ht, rfl, _, _, rfl, _, _, rfl, rfl, ?_⟩
  try dsimp only [gName]
  refine ⟨_, rfl, rl, rfl, ⟨_, SqL.of hrl⟩, compA_list (SqL.of hrl) hR (fun _ => true) (fun _ y r => y = .int r.1) (fun _ _ _ _ _ z => z) (by omega) (fun r v H1 hr hv S1 => ?_) (fun lo xs H1 hlo0 S1 hlo hP => ?_)⟩
  · obtain ⟨p, lm, lk, rfl, hp, _⟩ := hv
    exact turn_pick (y := .int r.1) look_yes (fun _ H2 S2 => .pure fun Q h => ⟨_, rfl, p, _, _, _, rfl, rfl, SqT.of (S2 _ _ (S1 _ _ hp)), rfl, h⟩) fun _ _ _ => rfl
  rw [filter_true] at hP
  have hlo : H1 lo = some (.lst ((R.map Prod.fst).map V.int)) := by rw [hlo, paired_map hP, List.map_map]; rfl
  try dsimp only [gName]
  refine seq_if (b := !decide (L.length = as.length)) (.pure fun Q h => ⟨_, rfl, ll, _, rfl, .inl (SqL.of (S1 _ _ hll)), _, rfl, a, _, _, _, rfl, rfl, S1.tup ha1, rfl, la, _, rfl, .inl (S1.seq ha2), rfl, _, rfl, (by rw [List.length_map, dec_len, hzl]; exact h)⟩) fun H2 S2 => ite2 (fun c => ?_) (fun c => ?_)
  · rw [decide_eq_false (show ¬ L.length = as.length by simpa using c)] at q
    exact q _ (S1.trans S2)
  have e2 : L.length = as.length := by simpa using c
  rw [decide_eq_true e2, Bool.true_and] at q
  have S12 := S1.trans S2
  have hlo2 := S2 _ _ hlo
  try dsimp only [tNext]
  have hls : (R.map Prod.fst).length = R.length := List.length_map _
  generalize hlots : R.map Prod.fst = lots at hlo2 q hls
  have aN : ∀ i, ((1 : Int) + (i : Nat) - 1) = (i : Int) := fun i => by omega
  refine seq_if (b := !(adjL lots).isEmpty) (fun Q h => ⟨_, rfl, lo, _, rfl, .inl (SqL.of hlo2), 1, _, rfl, ⟨by decide, by decide, by rw [List.length_map]; omega, by rw [List.length_map]; omega⟩, ?_⟩) fun H3 S3 => ite2 (fun c => ?_) (fun c => ?_)
  · have en : (((lots.map V.int).length : Int) - 1).toNat = lots.length - 1 := by rw [List.length_map]; omega
    rw [en]
    refine compA_range (n := lots.length - 1) (fun i => decide (lots.getD (i + 1) 0 ≤ lots.getD i 0)) (fun _ y i => y = .int (1 + (i : Int))) (fun _ _ _ _ _ z => z) (by omega) (fun i H3 hi S3 => turn_pick (y := .int (1 + (i : Int))) (.pure fun Q h => ⟨_, rfl, _, rfl, _, _, rfl, rfl, lo, _, _, _, rfl, rfl, SqL.of (S3 _ _ hlo2), atI_int (ns := lots) (k := 1 + (i : Int) - 1) (by omega) (by omega), _, rfl, _, rfl, lo, _, _, _, rfl, rfl, SqL.of (S3 _ _ hlo2), atI_int (ns := lots) (k := 1 + (i : Int)) (by omega) (by omega), _, _, rfl, rfl, _, rfl, ?_⟩) (fun _ H4 S4 => .pure fun Q h => ⟨_, rfl, h⟩) fun _ _ _ => rfl) (fun acc us H3 hacc0 S3 hacc hP3 => ?_)
    · rw [show (1 + (i : Int) - 1).toNat = i by omega, show (1 + (i : Int)).toNat = i + 1 by omega]; exact h
    have eu := paired_map hP3
    refine eq_nilD (neg := true) (ds := (adjL lots).map fun (i : Nat) => PyData.int (1 + (i : Int))) (SqL.of hacc) (fun H' S' => ?_) ?_ fun H4 S4 => ?_
    · have := DRs.ints (K := K) (H := H') ((adjL lots).map fun (i : Nat) => (1 + (i : Int)))
      rw [List.map_map, List.map_map] at this
      rw [eu]
      exact this
    · have := shaped_ints ((adjL lots).map fun (i : Nat) => (1 + (i : Int)))
      rw [List.map_map] at this
      exact this
    · refine ⟨_, rfl, ?_⟩
      rw [if_pos rfl, List.isEmpty_map]
      exact h _ (S3.trans S4)
  · rw [show (adjL lots).isEmpty = false by simpa using c, Bool.false_and] at q
    exact q _ (S12.trans S3)
  rw [show (adjL lots).isEmpty = true by simpa using c, Bool.true_and] at q
  have S13 := S12.trans S3
  try dsimp only [tNext]
  refine seq_if (b := !R.all (rowL many as bs)) (fun Q h => ⟨_, rfl, rl, rfl, ⟨_, SqL.of (S13 _ _ hrl)⟩, compA_list (SqL.of (S13 _ _ hrl)) (Paired.imp' (fun _ _ z => QRowS.same S13 z) hR) (fun r => !rowL many as bs r) (fun _ y r => QRowS H3 y r) (fun _ _ _ _ _ z => z) (by omega) (fun r v H4 hr hv S4 => ?_) (fun acc us H4 hacc0 S4 hacc hP4 => ?_)⟩) fun H4 S4 => ite2 (fun c => ?_) (fun c => ?_)
  · have hv4 := QRowS.same S4 hv
    obtain ⟨p, lm, lk, rfl, hp, h5, h6⟩ := id hv4
    exact turn_pick (y := .ref p) (fun Q h => ⟨_, rfl, _, rfl, _, rfl, a, b, .ref p, many, as, bs, r, rfl, hA.same (S13.trans S4), hB.same (S13.trans S4), m0, m12, hnn, hv4, fun H5 S5 => ⟨_, rfl, h _ S5⟩⟩) (fun _ H5 S5 => .pure fun Q h => ⟨_, rfl, h⟩) fun _ H5 S5 => hv
  · refine eq_nilD (neg := true) (ds := (R.filter fun r => !rowL many as bs r).map dQRow) (SqL.of hacc) (fun H' S' => pdrs (fun _ _ z => QRowS.dr (QRowS.same (S4.trans S') z)) hP4) (qrows_shaped _) fun H5 S5 => ⟨_, rfl, ?_⟩
    rw [if_pos rfl, List.isEmpty_map]
    have e : (R.filter fun r => !rowL many as bs r).isEmpty = R.all (rowL many as bs) := by
      rw [Bool.eq_iff_iff, List.isEmpty_iff, List.filter_eq_nil_iff, List.all_eq_true]
      exact ⟨fun h r hr => by simpa using h r hr, fun h r hr => by rw [h r hr]; decide⟩
    rw [e]
    exact h _ (S4.trans S5)
  · rw [show R.all (rowL many as bs) = false by simpa using c, Bool.false_and] at q
    exact q _ (S13.trans S4)
  have hall : R.all (rowL many as bs) = true := by simpa using c
  rw [hall, Bool.true_and] at q
  have S14 := S13.trans S4
  have hIn : ∀ r ∈ R, InB many r.1 := fun r hr => rowL_in (List.all_eq_true.mp hall r hr)
  try dsimp only [tNext]
  refine ⟨_, rfl, a, _, _, _, rfl, rfl, S14.tup ha1, rfl, _, rfl, la, ll, rfl, ⟨_, S14.seq ha2⟩, ⟨_, SqL.of (S14 _ _ hll)⟩, for_zip (xs := as.map V.int) (ys := zs) (fun i σ H' => ∃ z6 z7 z8 z9 : Option V, σ = [some (.ref a), some (.ref b), some (.ref t), some (.ref rl), some (.ref ll), some (.ref lo), z6, z7, z8, z9] ∧ Same H H' ∧ ((as.zip L).take i).all (fun x => leadQB R bs x.1 x.2) = true) ⟨_, _, _, _, rfl, S14, rfl⟩ (fun i σ H' _ h => by obtain ⟨_, _, _, _, _, S, _⟩ := h; exact ⟨S.seq ha2, SqL.of (S _ _ hll)⟩) (by rw [List.length_map]; omega) ?_ ?_⟩
  · rintro i u y pp σ H5 hu hy hpp ⟨z6, z7, z8, z9, rfl, S5, hm2⟩
    rw [List.getElem?_map] at hu
    cases eu : as[i]? with
    | none => rw [eu] at hu; cases hu
    | some x =>
    rw [eu] at hu
    cases hu
    obtain ⟨l, hl, hlS⟩ := paired_take hL hy
    have hzg := zip_get eu hl
    have hx0 := hnna x (List.mem_of_getElem? eu)
    have S6 := S5.trans (same_new hpp (.tup [.int x, y]))
    obtain ⟨w, p⟩ := l
    obtain ⟨tl, rfl, htl⟩ := hlS.t S6.t
    dsimp only at htl
    generalize hH6 : upd H5 pp (.tup [.int x, .ref tl]) = H6 at S6 htl
    refine ⟨pp, _, rfl, SqT.of (by rw [← hH6]; exact upd_same), rfl, _, _, rfl, _, _, rfl, rfl, ?_⟩
    try dsimp only [gName]
    refine ⟨_, rfl, tl, _, rfl, SqT.of htl, rfl, _, _, rfl, _, _, rfl, rfl, ?_⟩
    try dsimp only [gName]
    have stop : ∀ H', Same H H' → leadQB R bs x (w, p) = false → Q (.bl false) H' := fun H' S e => by
      rw [all_stop hzg (show leadQB R bs (x, (w, p)).1 (x, (w, p)).2 = false from e)] at q
      exact q _ S
    by_cases cw : w = "by"
    · subst cw
      have eq : leadQB R bs x ("by", p) = (decide (0 ≤ p) && decide (p < (R.length : Int)) && hasF x (R.getD p.toNat (0, 0, [], [])).1) := if_pos rfl
      refine seq_if (b := decide (p < 0) || decide ((R.length : Int) ≤ p)) (look_of8 (Bool.true_and _) (lookAnd (c := true) (.pure fun Q h => ⟨_, rfl, rfl, _, rfl, (by rw [str_eq, decide_eq_true rfl]; exact h)⟩) (fun _ H7 S7 => lookOr (.pure fun Q h => ⟨_, rfl, _, _, rfl, rfl, _, rfl, h⟩) (fun _ H8 S8 => .pure fun Q h => ⟨_, rfl, _, rfl, rl, _, rfl, .inl (SqL.of ((S6.trans (S7.trans S8)) _ _ hrl)), _, _, rfl, rfl, _, rfl, (by rw [hyl]; exact h)⟩)))) fun H7 S7 => ite2 (fun c => ?_) (fun c => ?_)
      · refine stop _ (S6.trans S7) ?_
        rw [eq, Bool.eq_false_iff]
        intro h
        obtain ⟨h1, _⟩ := Bool.and_eq_true_iff.mp h
        obtain ⟨h2, h3⟩ := Bool.and_eq_true_iff.mp h1
        have h2 := of_decide_eq_true h2
        have h3 := of_decide_eq_true h3
        rw [decide_eq_false (show ¬ p < 0 by omega), decide_eq_false (show ¬ (R.length : Int) ≤ p by omega)] at c
        cases c
      have p0 : 0 ≤ p := by
        refine Classical.byContradiction fun h => c ?_
        rw [decide_eq_true (show p < 0 by omega)]; rfl
      have p1 : p < R.length := by
        refine Classical.byContradiction fun h => c ?_
        rw [decide_eq_true (show (R.length : Int) ≤ p by omega), Bool.or_true]
      rw [decide_eq_true p0, decide_eq_true p1, Bool.true_and, Bool.true_and] at eq
      have hi : p.toNat < ys.length := by omega
      obtain ⟨r, hr, hrS⟩ := paired_take hR (List.getElem?_eq_getElem hi)
      have hat : atI ys p = some ys[p.toNat] := by
        have : atI ys ((p.toNat : Nat) : Int) = some ys[p.toNat] := atI_nat (List.getElem?_eq_getElem hi)
        rwa [show ((p.toNat : Nat) : Int) = p by omega] at this
      have S7' := S6.trans S7
      obtain ⟨ra, lm, lk, e, hra, _, _⟩ := hrS.same S7'
      rw [e] at hat
      have er : (R.getD p.toNat (0, 0, [], [])) = r := by rw [List.getD_eq_getElem?_getD, hr]; rfl
      have hrI := hIn r (List.mem_of_getElem? hr)
      rw [er] at eq
      try dsimp only [tNext]
      refine seq_if (b := !hasF x r.1) (look_of8 (Bool.true_and _) (lookAnd (c := true) (.pure fun Q h => ⟨_, rfl, rfl, _, rfl, (by rw [str_eq, decide_eq_true rfl]; exact h)⟩) (fun _ H8 S8 => .pure fun Q h => ⟨_, rfl, _, rfl, rl, _, _, _, rfl, rfl, SqL.of ((S7'.trans S8) _ _ hrl), hat, ra, _, _, _, rfl, rfl, SqT.of (S8 _ _ hra), rfl, _, rfl, _, _, rfl, rfl, _, rfl, _, rfl, rl, _, _, _, rfl, rfl, SqL.of ((S7'.trans S8) _ _ hrl), hat, ra, _, _, _, rfl, rfl, SqT.of (S8 _ _ hra), rfl, rfl, _, rfl, ?_⟩))) fun H8 S8 => ite2 (fun c2 => ?_) (fun c2 => ?_)
      · rw [int_eq, andC hrI.1 hx0]; exact h
      · exact stop _ (S7'.trans S8) (by rw [eq]; simpa using c2)
      try dsimp only [tNext]
      refine one_if (b := false) (lookAnd (c := false) (d := false) (.pure fun Q h => ⟨_, rfl, rfl, _, rfl, (by rw [str_eq, decide_eq_true rfl]; exact h)⟩) (fun z => nomatch z)) fun H9 S9 => iteF ⟨_, _, _, _, rfl, S7'.trans (S8.trans S9), all_go hzg (show leadQB R bs (x, (("by" : Str), p)).1 (x, (("by" : Str), p)).2 = true from ?_) hm2⟩
      show leadQB R bs x ("by", p) = true
      rw [eq]; simpa using c2
    · have eq : leadQB R bs x (w, p) = (decide (w = "in") && placeB bs p x) := if_neg cw
      have nb : decide (w = "by") = false := decide_eq_false cw
      refine seq_if (b := false) (lookAnd (c := false) (d := false) (.pure fun Q h => ⟨_, rfl, rfl, _, rfl, (by rw [str_eq, nb]; exact h)⟩) (fun z => nomatch z)) fun H7 S7 => iteF ?_
      try dsimp only [tNext]
      refine seq_if (b := false) (lookAnd (c := false) (d := false) (.pure fun Q h => ⟨_, rfl, rfl, _, rfl, (by rw [str_eq, nb]; exact h)⟩) (fun z => nomatch z)) fun H8 S8 => iteF ?_
      have S68 := S6.trans (S7.trans S8)
      try dsimp only [tNext]
      refine one_if (b := !decide (w = "in") || !placeB bs p x) (look_of8 (Bool.true_and _) (lookAnd (c := true) (.pure fun Q h => ⟨_, rfl, rfl, _, rfl, (by rw [str_eq, nb]; exact h)⟩) (fun _ H9 S9 => lookOr (.pure fun Q h => ⟨_, rfl, rfl, _, rfl, (by rw [str_eq]; exact h)⟩) (fun _ Ha Sa => .pure fun Q h => ⟨_, rfl, b, _, _, _, rfl, rfl, (S68.trans (S9.trans Sa)).tup hb1, rfl, _, rfl, _, rfl, lb, bs, p, x, rfl, (S68.trans (S9.trans Sa)).seq hb2, _, rfl, h⟩)))) fun H9 S9 => ite2 (fun c => ?_) (fun c => ⟨_, _, _, _, rfl, S68.trans S9, all_go hzg (show leadQB R bs (x, (w, p)).1 (x, (w, p)).2 = true from ?_) hm2⟩)
      · refine stop _ (S68.trans S9) ?_
        rw [eq]
        cases h1 : decide (w = "in") <;> cases h2 : placeB bs p x <;> simp [h1, h2] at c ⊢
      · show leadQB R bs x (w, p) = true
        rw [eq]
        cases h1 : decide (w = "in") <;> cases h2 : placeB bs p x <;> simp [h1, h2] at c ⊢
  · rintro σ H5 ⟨z6, z7, z8, z9, rfl, S5, hm2⟩
    rw [all_end (by rw [List.length_map, List.length_zip]; omega) hm2] at q
    exact q _ S5

noncomputable def spTwo7 : Sp := fun vs H Q _ => ∃ (r : Addr) (ds : List Int), vs = [.ref r] ∧ H r = some (.lst (ds.map V.int)) ∧ D31 ds ∧
  ∀ (t b1 l1 b2 l2 : Addr) (many : Int) (as bs ds' : List Int) (H' : Hp), SameB r H H' → H' t = some (.tup [.ref b1, .ref b2]) → H' b1 = some (.tup [.int many, .ref l1]) → H' l1 = some (.lst (as.map V.int)) → H' b2 = some (.tup [.int many, .ref l2]) → H' l2 = some (.lst (bs.map V.int)) → H' r = some (.lst (ds'.map V.int)) → D31 ds' → l1 ≠ l2 → l1 ≠ r → l2 ≠ r → 1 ≤ many → many ≤ 8 → as.length ≤ 12 → bs.length ≤ 24 → (∀ x ∈ as, InB many x) → (∀ x ∈ bs, InB many x) → Q (.ref t) H'
noncomputable abbrev n_L_two : List Str := ["_law_draws_here", "_law_one", "_law_many", "_law_baskets", "_law_whole", "_law_others", "_law_number_here"]
theorem sc_L_two : FnScope n_L_two ["_law_draws_here"] (defScope s_L_two) := ⟨rfl, rfl, rfl, by decide +kernel, rfl, by decide +kernel, by decide +kernel⟩
theorem nd_L_two_0 : (["_law_basket", "_law_whole"] : List Str).Nodup := by decide +kernel
theorem nd_L_two_1 : (["_law_basket", "_law_draws_here"] : List Str).Nodup := by decide +kernel
set_option maxHeartbeats 1000000 in
theorem ok_L_two (F : Fun K "_law_two" "_law_two" s_L_two f fd) (b : Binds K fd ["_law_draws_here"] []) (m : mg "_law_two" = some (.ref f)) (M_len : mg "len" = none) (G_L_book : Dfn P w K mg base k "_law_book" ["_law_draws_here", "_law_most", "_law_at_most"] spBk8) (G_L_pop : Dfn P w K mg base k "_law_pop" ["_law_draws_here"] spPop) : Dfn P w K mg base (k + 1) "_law_two" ["_law_draws_here"] spTwo7 := by
  refine .of F b m sc_L_two (fun vs H Q E h => ?_) (fun cdv A outer s H vs Q E hr h => ?_)
  · obtain ⟨r, ds, rfl, hr0, hd0, q⟩ := h; rfl
  obtain ⟨r, ds, rfl, hr0, hd0, q⟩ := h
  have nd := sc_L_two.nd
  have le := Nat.le_refl k
  refine ⟨_, pss_cons (ps_set (i := 1) nd rfl (Or.inl rfl) (pe_def G_L_book hr le rfl (pa_cons (pv 0) (pa_cons pe_int (pa_cons pe_int pa_nil)))))
    (pss_cons (ps_asg (pe_def G_L_book hr le rfl (pa_cons (pv 0) (pa_cons pe_int (pa_cons pe_int pa_nil)))) (pg_tupK (n := 2) K rfl rfl (pgs_cons (pg_name (i := 2) nd rfl (Or.inl rfl)) (pgs_cons (pg_name (i := 3) nd rfl (Or.inl rfl)) pgs_nil))))
    (pss_cons (ps_set (i := 4) nd rfl (Or.inr rfl) (pe_op op_sub (pe_op op_shl pe_int (pe_ix ix_tup (pv 1) pe_int (fun _ _ => rfl))) pe_int))
    (pss_cons (ps_setCompC (i := 5) nd rfl rfl ["_law_basket"] [4] (sc := defScope s_L_two) (N := n_L_two) (.inl rfl) rfl ⟨rfl, by decide +kernel, by decide +kernel, by decide +kernel, by decide +kernel⟩ rfl (pi_list (pv 3)) (fun cl s H C fp => (pg_name (i := 0) nd_L_two_0 rfl (Or.inl rfl))) (fun cl s H C fp => pifs_nil) (fun cl s H C fp => (pe_op op_and (pv 0) (pv 1))) rfl)
    (pss_cons (ps_set (i := 6) nd rfl (Or.inl rfl) (pe_def G_L_pop hr le rfl (pa_cons (pv 0) pa_nil)))
    (pss_mid (ps_if (PW.pt (pw_and (pt_cmpR (op_neD hr) (pe_ix ix_tup (pv 1) pe_int (fun _ _ => rfl)) (pe_lst pa_nil) (nomark _)) (pw_and1 (pt_cmpR op_gt (pe_op op_mod (pv 6) pe_int) pe_int (nomark _))))) (pss_one (ps_set (i := 5) nd rfl (Or.inl rfl) (pe_op op_cat (pv 5) (pe_slice sl_list (pe_ix ix_tup (pv 1) pe_int (fun _ _ => rfl)) po_none (po_some (pe_op op_mod (pe_op op_fdiv (pv 6) pe_int) (pe_callB call_len_seq (by rfl) M_len PySem.boot_len (pa_cons (pe_ix ix_tup (pv 1) pe_int (fun _ _ => rfl)) pa_nil)))))))) pss_nil)
    (pss_mid (ps_if (PW.pt (pw_and (pt_cmpR (op_neD hr) (pe_ix ix_tup (pv 1) pe_int (fun _ _ => rfl)) (pe_lst pa_nil) (nomark _)) (pw_and1 (pt_cmpR op_eq (pe_op op_mod (pv 6) pe_int) pe_int (nomark _))))) (pss_one (ps_setCompC (i := 5) nd rfl rfl ["_law_basket"] [0] (sc := defScope s_L_two) (N := n_L_two) (.inl rfl) rfl ⟨rfl, by decide +kernel, by decide +kernel, by decide +kernel, by decide +kernel⟩ rfl (pi_list (pe_ix ix_tup (pv 1) pe_int (fun _ _ => rfl))) (fun cl s H C fp => (pg_name (i := 0) nd_L_two_1 rfl (Or.inl rfl))) (fun cl s H C fp => pifs_nil) (fun cl s H C fp => (pe_op op_and (pv 0) (pe_def G_L_pop hr le rfl (pa_cons (pv 1) pa_nil)))) rfl)) pss_nil)
    (pss_one (ps_ret (pe_tup (pa_cons (pv 1) (pa_cons (pe_tup (pa_cons (pe_ix ix_tup (pv 1) pe_int (fun _ _ => rfl)) (pa_cons (pv 5) pa_nil))) pa_nil))))))))))), ?_⟩
  refine ⟨_, rfl, r, ds, 7, 12, rfl, hr0, hd0, by decide, by decide, by decide, by decide, fun b1 l1 many as ds1 H1 SB1 hb10 hl10 hb1 hl1 hr1 hd1 ok1 => ?_⟩
  have b1r : b1 ≠ r := fun e => by rw [e, hr0] at hb10; cases hb10
  have l1r : l1 ≠ r := fun e => by rw [e, hr0] at hl10; cases hl10
  have m1 := ok1.lo
  have m8 : many ≤ 8 := Int.le_trans ok1.hi (by decide)
  have ha12 : as.length ≤ 12 := by have := ok1.len; omega
  dsimp only [gName]
  refine ⟨_, rfl, r, ds1, 7, 12, rfl, hr1, hd1, by decide, by decide, by decide, by decide, fun b2 l2 many2 cs ds2 H2 SB2 hb20 hl20 hb2 hl2 hr2 hd2 ok2 => ⟨b2, _, rfl, SqT.of hb2, rfl, _, _, rfl, _, _, rfl, rfl, ?_⟩⟩
  have l2r : l2 ≠ r := fun e => by rw [e, hr1] at hl20; cases hl20
  have hb12 := SB2 _ _ b1r hb1
  have hl12 := SB2 _ _ l1r hl1
  have hc12 : cs.length ≤ 12 := by have := ok2.len; omega
  refine ⟨_, rfl, b1, _, _, _, rfl, rfl, SqT.of hb12, rfl, _, _, rfl, rfl, ⟨by omega, by omega, by decide⟩, _, _, rfl, rfl, ?_⟩
  dsimp only [gName]
  have htop := top_in many
  change InB many (1 * 2 ^ many.toNat - 1) at htop
  generalize (1 * 2 ^ many.toNat - 1 : Int) = top at htop ⊢
  refine ⟨_, rfl, l2, rfl, ⟨_, SqL.of hl2⟩, compV_list (SqL.of hl2) (fun _ => true) (fun x => .int (Builtin.bitAnd x top)) (by omega) (fun x H3 hm S => turn_pick (y := .int (Builtin.bitAnd x top)) look_yes (fun _ H4 S4 => .pure fun Q h => ⟨_, rfl, _, rfl, _, _, rfl, rfl, h⟩) fun _ _ _ => rfl) (fun o1 H3 ho10 S3 ho1 => ?_)⟩
  rw [filter_true] at ho1
  have ho1 : H3 o1 = some (.lst ((cs.map fun x => Builtin.bitAnd x top).map V.int)) := by rw [ho1, List.map_map]; rfl
  have hoin : ∀ x ∈ cs.map fun x => Builtin.bitAnd x top, InB many x := fun x hx => by
    obtain ⟨c, hc, rfl⟩ := List.mem_map.mp hx
    have c0 := (ok2.bas c hc).1
    rw [andC c0 htop.1]
    exact and_InB htop c0
  have holn : (cs.map fun x => Builtin.bitAnd x top).length ≤ 12 := by rw [List.length_map]; exact hc12
  generalize cs.map (fun x => Builtin.bitAnd x top) = os at ho1 hoin holn
  have hr3 := S3 _ _ hr2
  have o1r : o1 ≠ r := fun e => by rw [e, hr2] at ho10; cases ho10
  have o1l1 : l1 ≠ o1 := fun e => by rw [← e, hl12] at ho10; cases ho10
  dsimp only [gName]
  refine ⟨_, rfl, r, ds2, rfl, hr3, hd2, fun n ds3 H4 n0 n1 SB4 hr4 hd4 => ?_⟩
  have hb14 := SB4 _ _ b1r (S3 _ _ hb12)
  have hl14 := SB4 _ _ l1r (S3 _ _ hl12)
  have ho4 := SB4 _ _ o1r ho1
  have SB04 : SameB r H H4 := SB1.trans (SB2.trans (S3.b.trans SB4))
  dsimp only [gName]
  have tst : ∀ (H4 : Hp) (p : Addr), H4 b1 = some (.tup [.int many, .ref l1]) → H4 l1 = some (.lst (as.map V.int)) → True := fun _ _ _ _ => trivial
  refine ⟨fun σ H5 => ∃ (o : Addr) (os' : List Int), σ = [some (.ref r), some (.ref b1), some (.int many2), some (.ref l2), some (.int top), some (.ref o), some (.int n)] ∧ Same H4 H5 ∧ H5 o = some (.lst (os'.map V.int)) ∧ o ≠ r ∧ l1 ≠ o ∧ (∀ x ∈ os', InB many x) ∧ os'.length ≤ 24, ?_, ?_⟩
  · refine one_if (b := !as.isEmpty && decide (0 < n % 3)) (lookAnd (fun Q h => ⟨_, rfl, b1, _, _, _, rfl, rfl, SqT.of hb14, rfl, ne_nil' hl14 fun H5 S5 => ⟨_, rfl, h _ S5⟩⟩) (fun _ H5 S5 => .pure fun Q h => ⟨_, rfl, _, _, rfl, rfl, (by show (0 : Int) < 3; decide), _, _, rfl, rfl, _, rfl, h⟩)) fun H5 S5 => ?_
    refine ite2 (fun c => ?_) (fun _ => ⟨o1, os, rfl, S5, S5 _ _ ho4, o1r, o1l1, hoin, by omega⟩)
    have hne : as ≠ [] := fun e => by rw [e] at c; exact absurd c (by simp)
    refine ⟨_, rfl, _, rfl, b1, _, _, _, rfl, rfl, SqT.of (S5 _ _ hb14), rfl, _, rfl, _, _, rfl, rfl, ⟨by decide, by decide⟩, _, rfl, b1, _, _, _, rfl, rfl, SqT.of (S5 _ _ hb14), rfl, l1, _, rfl, .inl (SqL.of (S5 _ _ hl14)), _, _, rfl, rfl, pos_len hne, _, rfl, l1, _, rfl, SqL.of (S5 _ _ hl14), fun p1 hp1 => ?_⟩
    rw [cut_ints]
    have hcl := cutI_le' as none (some (n / 3 % ((as.map V.int).length : Int)))
    have hci : ∀ x ∈ cutI as none (some (n / 3 % ((as.map V.int).length : Int))), InB many x := fun x hx => ok1.bas x (cutI_mem hx)
    generalize cutI as none (some (n / 3 % ((as.map V.int).length : Int))) = ct at hcl hci ⊢
    have S6 := same_new hp1 (.lst (ct.map V.int))
    refine ⟨o1, p1, _, _, rfl, rfl, S6 _ _ (S5 _ _ ho4), upd_same, (by rw [List.length_map, List.length_map]; exact Nat.le_of_lt (small1000 (by omega))), fun p2 hp2 => ?_⟩
    have S7 := same_new hp2 (.lst (os.map V.int ++ ct.map V.int))
    have p2n : ∀ {b : Addr} {o : HO}, H4 b = some o → b ≠ p2 := fun {b o} hb e => by rw [← e, (S5.trans S6) _ _ hb] at hp2; cases hp2
    refine ⟨p2, os ++ ct, rfl, S5.trans (S6.trans S7), by rw [upd_same, List.map_append], fun e => p2n hr4 e.symm, p2n hl14, fun x hx => ?_, by rw [List.length_append]; omega⟩
    rcases List.mem_append.mp hx with z | z
    · exact hoin x z
    · exact hci x z
  rintro σ H5 ⟨o, os', rfl, S5, ho5, or', ol1, hoi, hol⟩
  refine ⟨fun σ H6 => ∃ (o : Addr) (os' es : List Int), σ = [some (.ref r), some (.ref b1), some (.int many2), some (.ref l2), some (.int top), some (.ref o), some (.int n)] ∧ SameB r H5 H6 ∧ H6 o = some (.lst (os'.map V.int)) ∧ o ≠ r ∧ l1 ≠ o ∧ (∀ x ∈ os', InB many x) ∧ os'.length ≤ 24 ∧ H6 r = some (.lst (es.map V.int)) ∧ D31 es, ?_, ?_⟩
  · have hb15 := S5 _ _ hb14
    have hl15 := S5 _ _ hl14
    refine one_if (b := !as.isEmpty && decide (n % 5 = 0)) (lookAnd (fun Q h => ⟨_, rfl, b1, _, _, _, rfl, rfl, SqT.of hb15, rfl, ne_nil' hl15 fun H5 S5 => ⟨_, rfl, h _ S5⟩⟩) (fun _ H5 S5 => .pure fun Q h => ⟨_, rfl, _, _, rfl, rfl, (by show (0 : Int) < 5; decide), rfl, _, rfl, (by rw [show decide (V.int (n % 5) = V.int 0) = decide (n % 5 = 0) by simp]; exact h)⟩)) fun H6 S6 => ?_
    have hr6 := S6 _ _ (S5 _ _ hr4)
    refine ite2 (fun c => ?_) (fun _ => ⟨o, os', ds3, rfl, S6.b, S6 _ _ ho5, or', ol1, hoi, hol, hr6, hd4⟩)
    have hl16 := S6 _ _ hl15
    refine ⟨_, rfl, b1, _, _, _, rfl, rfl, SqT.of (S6 _ _ hb15), rfl, l1, rfl, ⟨_, SqL.of hl16⟩, comp_listG (xs := as.map V.int) (fun acc i ys H' => ∃ (gs es : List Int), ys = gs.map V.int ∧ gs.length = i ∧ (∀ x ∈ gs, InB many x) ∧ SameB r H6 H' ∧ H' r = some (.lst (es.map V.int)) ∧ D31 es) (fun acc i ys H' _ h => by obtain ⟨_, _, _, _, _, SB, _⟩ := h; exact SqL.of (SB _ _ l1r hl16)) (fun acc hacc => ⟨[], ds3, rfl, rfl, (fun x hx => nomatch hx), (same_new hacc _).b, same_new hacc _ _ _ hr6, hd4⟩) (fun acc i x ys H' hacc hi hx hys h => ?_) (fun pool ys H7 hpool hy3 h => ?_)⟩
    · obtain ⟨gs, es, rfl, hgl, hgin, SB, hr', he⟩ := h
      have hx' := ints_get hx
      subst hx'
      rw [List.length_map] at hi ⊢
      have accr : acc ≠ r := fun e => by rw [e, hr6] at hacc; cases hacc
      refine ⟨(Wk.refl _).set (by decide), yes_of ⟨_, rfl, _, rfl, r, es, rfl, hr', he, fun d es2 H2' d0 d1 SB2' hr2' he2 => ⟨_, _, rfl, rfl, cputG hi (SB2' _ _ accr hys) (by rw [List.length_map]; exact small1000 (by omega)) ⟨gs ++ [Builtin.bitAnd (as.getD i 0) d], es2, by rw [List.map_append]; rfl, by rw [List.length_append, hgl]; rfl, snoc_all hgin (and_InB (ok1.bas _ (getD_mem hi)) d0), fun c o hc ho => ?_, ?_, he2⟩⟩⟩⟩
      · rw [upd_ne (ne_of_none ho hacc)]; exact SB2' _ _ hc (SB _ _ hc ho)
      · rw [upd_ne (Ne.symm accr)]; exact hr2'
    · obtain ⟨gs, es, rfl, hgl, hgin, SB, hr', he⟩ := h
      rw [List.length_map] at hgl
      refine ⟨pool, gs, es, rfl, S6.b.trans SB, hy3, (fun e => by rw [e, hr6] at hpool; cases hpool), (fun e => by rw [← e, hl16] at hpool; cases hpool), hgin, by omega, hr', he⟩
  rintro σ H6 ⟨o', os2, es, rfl, SB6, ho6, or2, ol2, hoi2, hol2, hr6, he6⟩
  have hb16 := SB6 _ _ b1r (S5 _ _ hb14)
  have hl16 := SB6 _ _ l1r (S5 _ _ hl14)
  refine ⟨_, rfl, _, rfl, b1, _, _, _, rfl, rfl, SqT.of hb16, rfl, _, rfl, (by show 2 ≤ sizeLine; decide), fun p1 hp1 => ⟨(by show 2 ≤ sizeLine; decide), fun p2 hp2 => ?_⟩⟩
  have S7 := same_new hp1 (.tup [.int many, .ref o'])
  have S8 := same_new hp2 (.tup [.ref b1, .ref p1])
  have S78 := S7.trans S8
  exact q p2 b1 l1 p1 o' many as os2 es _ (SB04.trans (S5.b.trans (SB6.trans S78.b))) upd_same (S78 _ _ hb16) (S78 _ _ hl16) (S8 _ _ upd_same) (S78 _ _ ho6) (S78 _ _ hr6) he6 ol2 l1r or2 m1 m8 ha12 hol2 ok1.bas hoi2

end
end OL.Q83

namespace OL.Q83
open PySem L2 OL
section
variable {P : Program} {w : World} {K : PySem.W.Frag} {mg : Str → Option Value} {base : Heap} {f : Addr} {fd : FuncData} {k : Nat}
theorem cutV_mem8 {xs : List V} {lo hi : Option Int} {z : V} (h : z ∈ cutV xs lo hi) : z ∈ xs := List.mem_of_mem_drop (List.mem_of_mem_take h)
theorem cutI_mem8 {xs : List Int} {lo hi : Option Int} {z : Int} (h : z ∈ cutI xs lo hi) : z ∈ xs := List.mem_of_mem_drop (List.mem_of_mem_take h)
theorem cutV_lo (ds : List V) {k : Int} (h0 : 0 ≤ k) : (cutV ds none (some k)).length ≤ k.toNat := by
  have e1 : HT.sIx ds.length ds.length (some k) ≤ k.toNat := by unfold HT.sIx; dsimp only; rw [if_neg (by omega)]; omega
  unfold cutV
  rw [HT.sIx_none, List.length_take, List.length_drop]
  omega
theorem cutV_hi (ds : List V) {k : Int} (h0 : 0 ≤ k) : (cutV ds (some k) none).length ≤ ds.length - k.toNat := by
  have e1 : k.toNat ≤ HT.sIx ds.length 0 (some k) ∨ ds.length ≤ HT.sIx ds.length 0 (some k) := by unfold HT.sIx; dsimp only; rw [if_neg (by omega)]; omega
  unfold cutV
  rw [HT.sIx_none, List.length_take, List.length_drop]
  omega
theorem cutI_lo (ds : List Int) {k : Int} (h0 : 0 ≤ k) : (cutI ds none (some k)).length ≤ k.toNat := by
  have := cutV_lo (ds.map V.int) h0
  rw [cut_ints, List.length_map] at this; exact this
theorem cutI_hi (ds : List Int) {k : Int} (h0 : 0 ≤ k) : (cutI ds (some k) none).length ≤ ds.length - k.toNat := by
  have := cutV_hi (ds.map V.int) h0
  rw [cut_ints, List.length_map, List.length_map] at this; exact this
noncomputable abbrev n_L_number : List Str := ["_law_number_here", "_law_more"]
theorem sc_L_number : FnScope n_L_number ["_law_number_here", "_law_more"] (defScope s_L_number) := ⟨rfl, rfl, rfl, by decide +kernel, rfl, by decide +kernel, by decide +kernel⟩
theorem ok_L_number (F : Fun K "_law_number" "_law_number" s_L_number f fd) (b : Binds K fd ["_law_number_here", "_law_more"] []) (m : mg "_law_number" = some (.ref f))   : Dfn P w K mg base (k + 1) "_law_number" ["_law_number_here", "_law_more"] spNum83 := by
  refine .of F b m sc_L_number (fun vs H Q E h => ?_) (fun cdv A outer s H vs Q E hr h => ?_)
  · obtain ⟨n, m, t, rfl, hn, q⟩ := h; rfl
  obtain ⟨n, m, t, rfl, hn, q⟩ := h
  have nd := sc_L_number.nd
  refine ⟨_, pss_one (ps_ret (pe_ix ix_list (pe_lst (pa_cons (pe_op op_add (pv 0) pe_int) (pa_cons (pe_op op_sub (pv 0) pe_int) (pa_cons (pe_op op_add (pv 0) pe_int) (pa_cons (pe_op op_sub (pv 0) pe_int) (pa_cons pe_int (pa_cons (pe_op op_add (pv 0) pe_int) (pa_cons (pe_un un_neg pe_int) (pa_cons (pe_op op_pow pe_int pe_int) (pa_cons (pe_op op_sub pe_int (pe_op op_pow pe_int pe_int)) pa_nil)))))))))) (pe_op op_mod (pv 1) pe_int) (fun _ _ => rfl))), ?_⟩
  refine ⟨_, rfl, _, _, rfl, rfl, _, rfl, _, _, rfl, rfl, _, rfl, _, _, rfl, rfl, _, rfl, _, _, rfl, rfl, _, rfl, _, _, rfl, rfl, _, rfl, _, _, rfl, rfl, ⟨by decide, by decide, by decide⟩, _, _, rfl, rfl, ⟨by decide, by decide, by decide⟩, _, _, rfl, rfl, (by show 9 ≤ sizeLine; decide), fun l hl => ?_⟩
  have hl1 : upd H l (.lst [.int (n + 1), .int (n - 1), .int (n + 2), .int (n - 3), .int 0, .int (n + 7), .int (-1), .int (10 ^ (39 : Int).toNat), .int (0 - 10 ^ (39 : Int).toNat)]) l = some (.lst ([n + 1, n - 1, n + 2, n - 3, 0, n + 7, -1, 10 ^ (39 : Int).toNat, 0 - 10 ^ (39 : Int).toNat].map V.int)) := upd_same
  have S1 := same_new hl (.lst [.int (n + 1), .int (n - 1), .int (n + 2), .int (n - 3), .int 0, .int (n + 7), .int (-1), .int (10 ^ (39 : Int).toNat), .int (0 - 10 ^ (39 : Int).toNat)])
  have hall : ∀ x ∈ [n + 1, n - 1, n + 2, n - 3, 0, n + 7, -1, (10 : Int) ^ (39 : Int).toNat, 0 - (10 : Int) ^ (39 : Int).toNat], BQ (t + 1) x := fun x hx => by
    simp only [List.mem_cons, List.not_mem_nil, or_false] at hx
    rcases hx with e | e | e | e | e | e | e | e | e <;> rw [e]
    · exact hn.near (by omega)
    · exact hn.near (by omega)
    · exact hn.near (by omega)
    · exact hn.near (by omega)
    · exact .small (by decide)
    · exact hn.near (by omega)
    · exact .small (by decide)
    · exact .big (by decide)
    · exact .big (by decide)
  obtain ⟨y, hat, hy⟩ := at_P (ns := [n + 1, n - 1, n + 2, n - 3, 0, n + 7, -1, (10 : Int) ^ (39 : Int).toNat, 0 - (10 : Int) ^ (39 : Int).toNat]) (k := m % 9) (P := BQ (t + 1)) (Int.emod_nonneg _ (by decide)) (Int.emod_lt_of_pos _ (by decide)) hall
  exact ⟨_, rfl, _, _, rfl, rfl, (by show (0 : Int) < 9; decide), l, _, _, _, rfl, rfl, SqL.of hl1, hat, q y _ S1 hy⟩
noncomputable abbrev n_L_in_list : List Str := ["_law_numbers", "_law_more", "_law_at_here", "_law_kind"]
theorem sc_L_in_list : FnScope n_L_in_list ["_law_numbers", "_law_more"] (defScope s_L_in_list) := ⟨rfl, rfl, rfl, by decide +kernel, rfl, by decide +kernel, by decide +kernel⟩
set_option maxHeartbeats 1000000 in
theorem ok_L_in_list (F : Fun K "_law_in_list" "_law_in_list" s_L_in_list f fd) (b : Binds K fd ["_law_numbers", "_law_more"] []) (m : mg "_law_in_list" = some (.ref f)) (M_len : mg "len" = none) (G_L_number : Dfn P w K mg base k "_law_number" ["_law_number_here", "_law_more"] spNum83) : Dfn P w K mg base (k + 1) "_law_in_list" ["_law_numbers", "_law_more"] spInL83 := by
  refine .of F b m sc_L_in_list (fun vs H Q E h => ?_) (fun cdv A outer s H vs Q E hr h => ?_)
  · obtain ⟨l, ns, m, t, rfl, hl, hB, hn, q⟩ := h; rfl
  obtain ⟨l, ns, m, t, rfl, hl, hB, hn, q⟩ := h
  have nd := sc_L_in_list.nd
  have le := Nat.le_refl k
  refine ⟨_, pss_cons (ps_if (pt_cmpR (op_eqD hr) (pv 0) (pe_lst pa_nil) (nomark _)) (pss_one (ps_ret (pe_lst (pa_cons (pe_op op_sub (pe_op op_mod (pv 1) pe_int) pe_int) pa_nil)))) pss_nil)
    (pss_cons (ps_set (i := 2) nd rfl (Or.inl rfl) (pe_op op_mod (pv 1) (pe_callB call_len_seq (by rfl) M_len PySem.boot_len (pa_cons (pv 0) pa_nil))))
    (pss_cons (ps_set (i := 3) nd rfl (Or.inl rfl) (pe_op op_mod (pe_op op_fdiv (pv 1) pe_int) pe_int))
    (pss_cons (ps_if (pt_cmpR op_eq (pv 3) pe_int (nomark _)) (pss_one (ps_ret (pe_op op_cat (pe_slice sl_list (pv 0) po_none (po_some (pv 2))) (pe_slice sl_list (pv 0) (po_some (pe_op op_add (pv 2) pe_int)) po_none)))) pss_nil)
    (pss_cons (ps_if (pt_cmpR op_eq (pv 3) pe_int (nomark _)) (pss_one (ps_ret (pe_op op_cat (pv 0) (pe_lst (pa_cons (pe_op op_sub (pe_op op_mod (pe_op op_fdiv (pv 1) pe_int) pe_int) pe_int) pa_nil))))) pss_nil)
    (pss_one (ps_ret (pe_op op_cat (pe_op op_cat (pe_slice sl_list (pv 0) po_none (po_some (pv 2))) (pe_lst (pa_cons (pe_def G_L_number hr le rfl (pa_cons (pe_ix ix_list (pv 0) (pv 2) (fun _ _ => rfl)) (pa_cons (pe_op op_fdiv (pv 1) pe_int) pa_nil))) pa_nil))) (pe_slice sl_list (pv 0) (po_some (pe_op op_add (pv 2) pe_int)) po_none)))))))), ?_⟩
  have r3 : ∀ k : Int, BQ (t + 1) (k % 3 - 1) := fun k => by
    have e0 := Int.emod_nonneg k (show (3 : Int) ≠ 0 by decide)
    have e1 := Int.emod_lt_of_pos k (show (0 : Int) < 3 by decide)
    exact .small (by omega)
  refine seq_if (b := (ns.map PyData.int).isEmpty) (fun Q h => ⟨_, rfl, eq_nilD (SqL.of hl) (fun _ _ => DRs.ints ns) (shaped_ints ns) fun H1 S1 => ⟨_, rfl, h _ S1⟩⟩) fun H1 S1 => ite2 (fun c => ?_) (fun c => ?_)
  · refine ⟨_, rfl, _, _, rfl, rfl, (by show (0 : Int) < 3; decide), _, _, rfl, rfl, (by show 1 ≤ sizeLine; decide), fun l1 hl1 => ?_⟩
    exact q l1 [m % 3 - 1] _ (S1.trans (same_new hl1 _)) (S1.free hl1) upd_same (fun x hx => by rw [List.mem_singleton.mp hx]; exact r3 m) (by show 1 ≤ _; omega)
  have hne : 0 < ns.length := by
    cases ns with
    | nil => exact absurd rfl c
    | cons a b => exact Nat.succ_pos _
  try dsimp only [tNext]
  refine ⟨_, rfl, _, rfl, l, _, rfl, .inl (SqL.of (S1 _ _ hl)), _, _, rfl, rfl, (by rw [List.length_map]; omega), ?_⟩
  rw [List.length_map]
  have a0 := Int.emod_nonneg m (show (ns.length : Int) ≠ 0 by omega)
  have a1 := Int.emod_lt_of_pos m (show (0 : Int) < ns.length by omega)
  try dsimp only [gName]
  generalize m % (ns.length : Int) = k at a0 a1
  have n1 := cutI_lo ns a0
  have n2 := cutI_hi ns (k := k + 1) (by omega)
  have m1 : ∀ x ∈ cutI ns none (some k), BQ (t + 1) x := fun x hx => (hB x (cutI_mem8 hx)).up
  have m2 : ∀ x ∈ cutI ns (some (k + 1)) none, BQ (t + 1) x := fun x hx => (hB x (cutI_mem8 hx)).up
  refine ⟨_, rfl, _, _, rfl, rfl, ⟨by decide, by decide⟩, _, _, rfl, rfl, (by show (0 : Int) < 6; decide), ?_⟩
  try dsimp only [gName]
  generalize m / 64 % 6 = kind
  refine seq_if (b := decide (V.int kind = V.int 0)) (.pure fun Q h => ⟨_, rfl, rfl, _, rfl, h⟩) fun H2 S2 => ite2 (fun _ => ?_) (fun _ => ?_)
  · have hl2 := (S1.trans S2) _ _ hl
    refine ⟨_, rfl, _, rfl, _, rfl, l, _, rfl, SqL.of hl2, fun l1 hl1 => ?_⟩
    have Sa := same_new hl1 (.lst (cutV (ns.map V.int) none (some k)))
    refine ⟨_, rfl, _, rfl, _, _, rfl, rfl, _, rfl, l, _, rfl, SqL.of (Sa _ _ hl2), fun l2 hl2' => ?_⟩
    have Sb := same_new hl2' (.lst (cutV (ns.map V.int) (some (k + 1)) none))
    refine ⟨l1, l2, _, _, rfl, rfl, Sb _ _ upd_same, upd_same, small (by rw [cut_ints, cut_ints, List.length_map, List.length_map]; omega), fun l3 hl3 => ?_⟩
    have Sc := same_new hl3 (.lst (cutV (ns.map V.int) none (some k) ++ cutV (ns.map V.int) (some (k + 1)) none))
    refine q l3 (cutI ns none (some k) ++ cutI ns (some (k + 1)) none) _ ((S1.trans S2).trans (Sa.trans (Sb.trans Sc))) (((S1.trans S2).trans (Sa.trans Sb)).free hl3) (by rw [upd_same, cut_ints, cut_ints, List.map_append]) (fun x hx => ?_) (by rw [List.length_append]; omega)
    rcases List.mem_append.mp hx with w | w
    · exact m1 x w
    · exact m2 x w
  have S12 := S1.trans S2
  try dsimp only [tNext]
  refine seq_if (b := decide (V.int kind = V.int 1)) (.pure fun Q h => ⟨_, rfl, rfl, _, rfl, h⟩) fun H3 S3 => ite2 (fun _ => ?_) (fun _ => ?_)
  · have S13 := S12.trans S3
    refine ⟨_, rfl, _, rfl, _, _, rfl, rfl, ⟨by decide, by decide⟩, _, _, rfl, rfl, (by show (0 : Int) < 3; decide), _, _, rfl, rfl, (by show 1 ≤ sizeLine; decide), fun l1 hl1 => ?_⟩
    have Sa := same_new hl1 (.lst [V.int (m / 400 % 3 - 1)])
    refine ⟨l, l1, _, _, rfl, rfl, Sa _ _ (S13 _ _ hl), upd_same, small (by rw [List.length_map]; show _ + 1 ≤ 1000; omega), fun l2 hl2 => ?_⟩
    refine q l2 (ns ++ [m / 400 % 3 - 1]) _ (S13.trans (Sa.trans (same_new hl2 _))) ((S13.trans Sa).free hl2) (by rw [upd_same, List.map_append]; rfl) (fun x hx => ?_) (by rw [List.length_append]; exact Nat.le_refl _)
    rcases List.mem_append.mp hx with w | w
    · exact (hB x w).up
    · rw [List.mem_singleton.mp w]; exact r3 _
  have S13 := S12.trans S3
  try dsimp only [tNext]
  have hl3 := S13 _ _ hl
  refine ⟨_, rfl, _, rfl, _, rfl, l, _, rfl, SqL.of hl3, fun l1 hl1 => ?_⟩
  have Sa := same_new hl1 (.lst (cutV (ns.map V.int) none (some k)))
  obtain ⟨y, hat, hy⟩ := at_P (ns := ns) (k := k) (P := BQ t) a0 a1 hB
  refine ⟨_, rfl, _, rfl, l, _, _, _, rfl, rfl, SqL.of (Sa _ _ hl3), hat, _, rfl, _, _, rfl, rfl, ⟨by decide, by decide⟩, y, m / 400, t, rfl, hy, fun x H4 S4 hx => ⟨(by show 1 ≤ sizeLine; decide), fun l2 hl2 => ?_⟩⟩
  have Sb := S4.trans (same_new hl2 (.lst [V.int x]))
  refine ⟨l1, l2, _, _, rfl, rfl, Sb _ _ upd_same, upd_same, small (by rw [cut_ints, List.length_map]; show _ + 1 ≤ 1000; omega), fun l3 hl3' => ?_⟩
  have Sc := same_new hl3' (.lst (cutV (ns.map V.int) none (some k) ++ [V.int x]))
  refine ⟨_, rfl, _, rfl, _, _, rfl, rfl, _, rfl, l, _, rfl, SqL.of ((Sa.trans (Sb.trans Sc)) _ _ hl3), fun l4 hl4 => ?_⟩
  have Sd := same_new hl4 (.lst (cutV (ns.map V.int) (some (k + 1)) none))
  refine ⟨l3, l4, _, _, rfl, rfl, Sd _ _ upd_same, upd_same, small (by rw [cut_ints, cut_ints, List.length_append, List.length_map, List.length_map]; show _ + 1 + _ ≤ 1000; omega), fun l5 hl5 => ?_⟩
  have Se := same_new hl5 (.lst (cutV (ns.map V.int) none (some k) ++ [V.int x] ++ cutV (ns.map V.int) (some (k + 1)) none))
  have S14 := S13.trans (Sa.trans (Sb.trans (Sc.trans Sd)))
  refine q l5 (cutI ns none (some k) ++ [x] ++ cutI ns (some (k + 1)) none) _ (S14.trans Se) (S14.free hl5) (by rw [upd_same, cut_ints, cut_ints, List.map_append, List.map_append]; rfl) (fun z hz => ?_) (by rw [List.length_append, List.length_append]; show _ + 1 + _ ≤ _; omega)
  rcases List.mem_append.mp hz with w | w
  · rcases List.mem_append.mp w with w | w
    · exact m1 z w
    · rw [List.mem_singleton.mp w]; exact hx
  · exact m2 z w
noncomputable abbrev n_L_row_bent : List Str := ["_law_row", "_law_more", "_law_lot", "_law_place", "_law_marks", "_law_backs", "_law_kind"]
theorem sc_L_row_bent : FnScope n_L_row_bent ["_law_row", "_law_more"] (defScope s_L_row_bent) := ⟨rfl, rfl, rfl, by decide +kernel, rfl, by decide +kernel, by decide +kernel⟩
set_option maxHeartbeats 1000000 in
theorem ok_L_row_bent (F : Fun K "_law_row_bent" "_law_row_bent" s_L_row_bent f fd) (b : Binds K fd ["_law_row", "_law_more"] []) (m : mg "_law_row_bent" = some (.ref f))  (G_L_number : Dfn P w K mg base k "_law_number" ["_law_number_here", "_law_more"] spNum83) (G_L_in_list : Dfn P w K mg base k "_law_in_list" ["_law_numbers", "_law_more"] spInL83) : Dfn P w K mg base (k + 1) "_law_row_bent" ["_law_row", "_law_more"] spRowB83 := by
  refine .of F b m sc_L_row_bent (fun vs H Q E h => ?_) (fun cdv A outer s H vs Q E hr h => ?_)
  · obtain ⟨v, m, t, r, o, rfl, hv, ht, hr0, q⟩ := h; rfl
  obtain ⟨v, m, t, r, o, rfl, hv, ht, hr0, q⟩ := h
  have nd := sc_L_row_bent.nd
  have le := Nat.le_refl k
  refine ⟨_, pss_cons (ps_asg (pv 0) (pg_tupK (n := 4) K rfl rfl (pgs_cons (pg_name (i := 2) nd rfl (Or.inl rfl)) (pgs_cons (pg_name (i := 3) nd rfl (Or.inl rfl)) (pgs_cons (pg_name (i := 4) nd rfl (Or.inl rfl)) (pgs_cons (pg_name (i := 5) nd rfl (Or.inl rfl)) pgs_nil))))))
    (pss_cons (ps_set (i := 6) nd rfl (Or.inl rfl) (pe_op op_mod (pv 1) pe_int))
    (pss_cons (ps_if (pt_cmpR op_eq (pv 6) pe_int (nomark _)) (pss_one (ps_ret (pe_tup (pa_cons (pe_def G_L_number hr le rfl (pa_cons (pv 2) (pa_cons (pe_op op_fdiv (pv 1) pe_int) pa_nil))) (pa_cons (pv 3) (pa_cons (pv 4) (pa_cons (pv 5) pa_nil))))))) pss_nil)
    (pss_cons (ps_if (pt_cmpR op_eq (pv 6) pe_int (nomark _)) (pss_one (ps_ret (pe_tup (pa_cons (pv 2) (pa_cons (pe_def G_L_number hr le rfl (pa_cons (pv 3) (pa_cons (pe_op op_fdiv (pv 1) pe_int) pa_nil))) (pa_cons (pv 4) (pa_cons (pv 5) pa_nil))))))) pss_nil)
    (pss_cons (ps_if (pt_cmpR op_eq (pv 6) pe_int (nomark _)) (pss_one (ps_ret (pe_tup (pa_cons (pv 2) (pa_cons (pv 3) (pa_cons (pe_def G_L_in_list hr le rfl (pa_cons (pv 4) (pa_cons (pe_op op_fdiv (pv 1) pe_int) pa_nil))) (pa_cons (pv 5) pa_nil))))))) pss_nil)
    (pss_one (ps_ret (pe_tup (pa_cons (pv 2) (pa_cons (pv 3) (pa_cons (pv 4) (pa_cons (pe_def G_L_in_list hr le rfl (pa_cons (pv 5) (pa_cons (pe_op op_fdiv (pv 1) pe_int) pa_nil))) pa_nil))))))))))), ?_⟩
  obtain ⟨⟨x, y, ms, ks⟩, ⟨a, lm, lk, rfl, ha, hm, hk⟩, hB⟩ := id hv
  dsimp only at ha hm hk
  have ha0 := hide_un ha
  have b1 := hB.lm
  have b2 := hB.lk
  dsimp only at b1 b2
  refine ⟨_, rfl, a, _, rfl, SqT.of ha0, rfl, _, _, rfl, _, _, rfl, _, _, rfl, _, _, rfl, rfl, ?_⟩
  try dsimp only [gName]
  refine ⟨_, rfl, _, _, rfl, rfl, (by show (0 : Int) < 4; decide), ?_⟩
  try dsimp only [gName]
  generalize m % 4 = kind
  have tlen : ∀ {x y u v : V}, [x, y, u, v].length ≤ sizeLine := fun {x y u v} => (by show 4 ≤ sizeLine; decide)
  refine seq_if (b := decide (V.int kind = V.int 0)) (.pure fun Q h => ⟨_, rfl, rfl, _, rfl, h⟩) fun H2 S2 => ite2 (fun _ => ?_) (fun _ => ?_)
  · refine ⟨_, rfl, _, rfl, _, _, rfl, rfl, ⟨by decide, by decide⟩, x, m / 4, t, rfl, hB.lot, fun z H3 S3 hz => ⟨_, rfl, _, rfl, _, rfl, tlen, fun p hp => ?_⟩⟩
    have S4 := (S2.trans S3).trans (same_new hp (.tup [.int z, .int y, .ref lm, .ref lk]))
    exact q _ _ S4 ⟨(z, y, ms, ks), ⟨p, lm, lk, rfl, hide_new ((S2.trans S3) _ _ hr0) hp, hideS S4 _ _ hm, hideS S4 _ _ hk⟩, ⟨hz, hB.pl.up, fun w hw => (hB.ms w hw).up, fun w hw => (hB.ks w hw).up, by show ms.length ≤ _; omega, by show ks.length ≤ _; omega⟩⟩
  try dsimp only [tNext]
  refine seq_if (b := decide (V.int kind = V.int 1)) (.pure fun Q h => ⟨_, rfl, rfl, _, rfl, h⟩) fun H3 S3 => ite2 (fun _ => ?_) (fun _ => ?_)
  · refine ⟨_, rfl, _, rfl, _, rfl, _, _, rfl, rfl, ⟨by decide, by decide⟩, y, m / 4, t, rfl, hB.pl, fun z H4 S4 hz => ⟨_, rfl, _, rfl, tlen, fun p hp => ?_⟩⟩
    have S24 := (S2.trans S3).trans S4
    have S5 := S24.trans (same_new hp (.tup [.int x, .int z, .ref lm, .ref lk]))
    exact q _ _ S5 ⟨(x, z, ms, ks), ⟨p, lm, lk, rfl, hide_new (S24 _ _ hr0) hp, hideS S5 _ _ hm, hideS S5 _ _ hk⟩, ⟨hB.lot.up, hz, fun w hw => (hB.ms w hw).up, fun w hw => (hB.ks w hw).up, by show ms.length ≤ _; omega, by show ks.length ≤ _; omega⟩⟩
  have S23 := S2.trans S3
  try dsimp only [tNext]
  refine seq_if (b := decide (V.int kind = V.int 2)) (.pure fun Q h => ⟨_, rfl, rfl, _, rfl, h⟩) fun H4 S4 => ite2 (fun _ => ?_) (fun _ => ?_)
  · have S24 := S23.trans S4
    refine ⟨_, rfl, _, rfl, _, rfl, _, rfl, _, _, rfl, rfl, ⟨by decide, by decide⟩, lm, ms, m / 4, t, rfl, S24 _ _ (hide_un hm), hB.ms, by omega, fun l' ns' H5 S5 hl0 hl' hB' hn' => ⟨_, rfl, tlen, fun p hp => ?_⟩⟩
    have S25 := S24.trans S5
    have S6 := S25.trans (same_new hp (.tup [.int x, .int y, .ref l', .ref lk]))
    have nlr : l' ≠ r := fun e => by rw [e, S24 _ _ hr0] at hl0; cases hl0
    exact q _ _ S6 ⟨(x, y, ns', ks), ⟨p, l', lk, rfl, hide_new (S25 _ _ hr0) hp, hide_of nlr ((same_new hp _) _ _ hl'), hideS S6 _ _ hk⟩, ⟨hB.lot.up, hB.pl.up, hB', fun w hw => (hB.ks w hw).up, by show ns'.length ≤ _; omega, by show ks.length ≤ _; omega⟩⟩
  · have S24 := S23.trans S4
    refine ⟨_, rfl, _, rfl, _, rfl, _, rfl, _, rfl, _, _, rfl, rfl, ⟨by decide, by decide⟩, lk, ks, m / 4, t, rfl, S24 _ _ (hide_un hk), hB.ks, by omega, fun l' ns' H5 S5 hl0 hl' hB' hn' => ⟨tlen, fun p hp => ?_⟩⟩
    have S25 := S24.trans S5
    have S6 := S25.trans (same_new hp (.tup [.int x, .int y, .ref lm, .ref l']))
    have nlr : l' ≠ r := fun e => by rw [e, S24 _ _ hr0] at hl0; cases hl0
    exact q _ _ S6 ⟨(x, y, ms, ns'), ⟨p, lm, l', rfl, hide_new (S25 _ _ hr0) hp, hideS S6 _ _ hm, hide_of nlr ((same_new hp _) _ _ hl')⟩, ⟨hB.lot.up, hB.pl.up, fun w hw => (hB.ms w hw).up, hB', by show ms.length ≤ _; omega, by show ns'.length ≤ _; omega⟩⟩
noncomputable abbrev n_L_moved : List Str := ["_law_word", "_law_place", "_law_at_here", "_law_many"]
theorem sc_L_moved : FnScope n_L_moved ["_law_word", "_law_place", "_law_at_here", "_law_many"] (defScope s_L_moved) := ⟨rfl, rfl, rfl, by decide +kernel, rfl, by decide +kernel, by decide +kernel⟩
theorem ok_L_moved (F : Fun K "_law_moved" "_law_moved" s_L_moved f fd) (b : Binds K fd ["_law_word", "_law_place", "_law_at_here", "_law_many"] []) (m : mg "_law_moved" = some (.ref f))   : Dfn P w K mg base (k + 1) "_law_moved" ["_law_word", "_law_place", "_law_at_here", "_law_many"] spMov83 := by
  refine .of F b m sc_L_moved (fun vs H Q E h => ?_) (fun cdv A outer s H vs Q E hr h => ?_)
  · obtain ⟨w, p, a, m, t, rfl, hp, hm, q⟩ := h; rfl
  obtain ⟨w, p, a, m, t, rfl, hp, hm, q⟩ := h
  have nd := sc_L_moved.nd
  refine ⟨_, pss_cons (ps_if (PW.pt (pw_and (pt_cmpR op_eq (pv 0) pe_str (nomark _)) (pw_and (pt_cmpR op_le pe_int (pv 1) (nomark _)) (pw_and1 (pt_cmpR op_lt (pv 1) (pv 3) (nomark _)))))) (pss_one (ps_ret (pe_op op_mod (pe_op op_sub (pv 1) (pv 2)) (pv 3)))) pss_nil)
    (pss_one (ps_ret (pv 1))), ?_⟩
  refine seq_if (b := decide (V.str w = V.str "by") && (decide (0 ≤ p) && decide (p < m))) (lookAnd (.pure fun Q h => ⟨_, rfl, rfl, _, rfl, h⟩) (fun _ H1 S1 => lookAnd (.pure fun Q h => ⟨_, rfl, _, _, rfl, rfl, _, rfl, h⟩) (fun _ H2 S2 => .pure fun Q h => ⟨_, rfl, _, rfl, _, _, rfl, rfl, _, rfl, h⟩))) fun H1 S1 => ite2 (fun c => ?_) (fun c => ?_)
  · have c2 : 0 ≤ p ∧ p < m := by
      simp only [Bool.and_eq_true, decide_eq_true_eq] at c
      exact c.2
    have e0 := Int.emod_nonneg (p - a) (show m ≠ 0 by omega)
    have e1 := Int.emod_lt_of_pos (p - a) (show 0 < m by omega)
    exact ⟨_, rfl, _, rfl, _, _, rfl, rfl, _, rfl, _, _, rfl, rfl, (by omega), q _ _ S1 (.small (by omega))⟩
  · try dsimp only [tNext]
    exact ⟨_, rfl, q _ _ S1 hp⟩

end
end OL.Q83

namespace OL.Q83
open PySem L2 OL
section
variable {P : Program} {w : World} {K : PySem.W.Frag} {mg : Str → Option Value} {base : Heap} {f : Addr} {fd : FuncData} {k : Nat}
theorem at_V8 {xs : List V} {k : Int} (h0 : 0 ≤ k) (h1 : k < xs.length) : ∃ v, atI xs k = some v ∧ v ∈ xs := by
  have hi : k.toNat < xs.length := by omega
  refine ⟨xs[k.toNat], ?_, List.getElem_mem hi⟩
  have : atI xs ((k.toNat : Nat) : Int) = some xs[k.toNat] := atI_nat (List.getElem?_eq_getElem hi)
  rw [show ((k.toNat : Nat) : Int) = k by omega] at this
  exact this
theorem small600 {n : Nat} (h : n ≤ 1000) : n ≤ sizeLine := small h
noncomputable abbrev n_L_bent : List Str := ["_law_paper", "_law_draws_here", "_law_rows", "_law_leads", "_law_number_here", "_law_kind", "_law_at_here", "_law_some", "_law_word", "_law_place"]
theorem sc_L_bent : FnScope n_L_bent ["_law_paper", "_law_draws_here"] (defScope s_L_bent) := ⟨rfl, rfl, rfl, by decide +kernel, rfl, by decide +kernel, by decide +kernel⟩
theorem nd_L_bent_0 : (["_law_word", "_law_place", "_law_at_here", "_law_rows"] : List Str).Nodup := by decide +kernel
set_option maxHeartbeats 2000000 in
theorem ok_L_bent (F : Fun K "_law_bent" "_law_bent" s_L_bent f fd) (b : Binds K fd ["_law_paper", "_law_draws_here"] []) (m : mg "_law_bent" = some (.ref f)) (M_len : mg "len" = none) (G_L_pop : Dfn P w K mg base k "_law_pop" ["_law_draws_here"] spPop) (G_L_row_bent : Dfn P w K mg base k "_law_row_bent" ["_law_row", "_law_more"] spRowB83) (G_L_moved : Dfn P w K mg base k "_law_moved" ["_law_word", "_law_place", "_law_at_here", "_law_many"] spMov83) (G_L_number : Dfn P w K mg base k "_law_number" ["_law_number_here", "_law_more"] spNum83) : Dfn P w K mg base (k + 1) "_law_bent" ["_law_paper", "_law_draws_here"] spBent83 := by
  refine .of F b m sc_L_bent (fun vs H Q E h => ?_) (fun cdv A outer s H vs Q E hr h => ?_)
  · obtain ⟨v, r, ds, t, rfl, hr0, hd0, hv, ht, q⟩ := h; rfl
  obtain ⟨v, r, ds, t, rfl, hr0, hd0, hv, ht, q⟩ := h
  have nd := sc_L_bent.nd
  have le := Nat.le_refl k
  refine ⟨_, pss_cons (ps_asg (pv 0) (pg_tupK (n := 2) K rfl rfl (pgs_cons (pg_name (i := 2) nd rfl (Or.inr rfl)) (pgs_cons (pg_name (i := 3) nd rfl (Or.inl rfl)) pgs_nil))))
    (pss_cons (ps_set (i := 4) nd rfl (Or.inl rfl) (pe_def G_L_pop hr le rfl (pa_cons (pv 1) pa_nil)))
    (pss_cons (ps_set (i := 5) nd rfl (Or.inl rfl) (pe_op op_mod (pv 4) pe_int))
    (pss_cons (ps_if (PW.pt (pw_and (pt_cmpR op_lt (pv 5) pe_int (nomark _)) (pw_and1 (pt_cmpR (op_neD hr) (pv 2) (pe_lst pa_nil) (nomark _))))) (pss_cons (ps_set (i := 6) nd rfl (Or.inr rfl) (pe_op op_mod (pe_op op_fdiv (pv 4) pe_int) (pe_callB call_len_seq (by rfl) M_len PySem.boot_len (pa_cons (pv 2) pa_nil))))
      (pss_one (ps_ret (pe_tup (pa_cons (pe_op op_cat (pe_op op_cat (pe_slice sl_list (pv 2) po_none (po_some (pv 6))) (pe_lst (pa_cons (pe_def G_L_row_bent hr le rfl (pa_cons (pe_ix ix_list (pv 2) (pv 6) (fun _ _ => rfl)) (pa_cons (pe_def G_L_pop hr le rfl (pa_cons (pv 1) pa_nil)) pa_nil))) pa_nil))) (pe_slice sl_list (pv 2) (po_some (pe_op op_add (pv 6) pe_int)) po_none)) (pa_cons (pv 3) pa_nil)))))) pss_nil)
    (pss_cons (ps_if (PW.pt (pw_and (pt_cmpR op_eq (pv 5) pe_int (nomark _)) (pw_and1 (pt_cmpR (op_neD hr) (pv 2) (pe_lst pa_nil) (nomark _))))) (pss_cons (ps_set (i := 6) nd rfl (Or.inr rfl) (pe_op op_mod (pe_op op_fdiv (pv 4) pe_int) (pe_callB call_len_seq (by rfl) M_len PySem.boot_len (pa_cons (pv 2) pa_nil))))
      (pss_cons (ps_set (i := 7) nd rfl (Or.inl rfl) (pe_lst (pa_cons (pe_op op_cat (pe_slice sl_list (pv 2) po_none (po_some (pv 6))) (pe_slice sl_list (pv 2) (po_some (pe_op op_add (pv 6) pe_int)) po_none)) (pa_cons (pe_op op_cat (pe_op op_cat (pe_slice sl_list (pv 2) po_none (po_some (pv 6))) (pe_lst (pa_cons (pe_ix ix_list (pv 2) (pv 6) (fun _ _ => rfl)) pa_nil))) (pe_slice sl_list (pv 2) (po_some (pv 6)) po_none)) (pa_cons (pe_op op_cat (pe_slice sl_list (pv 2) (po_some (pv 6)) po_none) (pe_slice sl_list (pv 2) po_none (po_some (pv 6)))) pa_nil)))))
      (pss_cons (ps_if (pt_cmpR op_eq (pe_op op_mod (pe_op op_fdiv (pv 4) pe_int) pe_int) pe_int (nomark _)) (pss_one (ps_ret (pe_tup (pa_cons (pe_ix ix_list (pv 7) pe_int (fun _ _ => rfl)) (pa_cons (pe_compC ["_law_word", "_law_place"] [6, 2] (sc := defScope s_L_bent) (N := n_L_bent) (.inl rfl) rfl ⟨rfl, by decide +kernel, by decide +kernel, by decide +kernel, by decide +kernel⟩ rfl (pi_list (pv 3)) (fun cl s H C fp => (pg_tupK (n := 2) K rfl rfl (pgs_cons (pg_name (i := 0) nd_L_bent_0 rfl (Or.inl rfl)) (pgs_cons (pg_name (i := 1) nd_L_bent_0 rfl (Or.inl rfl)) pgs_nil)))) (fun cl s H C fp => pifs_nil) (fun cl s H C fp => (pe_tup (pa_cons (pv 0) (pa_cons (pe_def G_L_moved hr le rfl (pa_cons (pv 0) (pa_cons (pv 1) (pa_cons (pv 2) (pa_cons (pe_callB (len_seqK K rfl) (by rfl) M_len PySem.boot_len (pa_cons (pv 3) pa_nil)) pa_nil))))) pa_nil))))) pa_nil))))) pss_nil)
      (pss_one (ps_ret (pe_tup (pa_cons (pe_ix ix_list (pv 7) (pe_op op_mod (pe_op op_fdiv (pv 4) pe_int) pe_int) (fun _ _ => rfl)) (pa_cons (pv 3) pa_nil)))))))) pss_nil)
    (pss_cons (ps_if (PW.pt (pw_or (pt_cmpR (op_eqD hr) (pv 3) (pe_lst pa_nil) (nomark _)) (pw_or1 (pt_cmpR op_eq (pv 5) pe_int (nomark _))))) (pss_one (ps_ret (pe_tup (pa_cons (pv 2) (pa_cons (pe_op op_cat (pv 3) (pe_lst (pa_cons (pe_tup (pa_cons pe_str (pa_cons pe_int pa_nil))) pa_nil))) pa_nil))))) pss_nil)
    (pss_cons (ps_set (i := 6) nd rfl (Or.inr rfl) (pe_op op_mod (pe_op op_fdiv (pv 4) pe_int) (pe_callB call_len_seq (by rfl) M_len PySem.boot_len (pa_cons (pv 3) pa_nil))))
    (pss_cons (ps_asg (pe_ix ix_list (pv 3) (pv 6) (fun _ _ => rfl)) (pg_tupK (n := 2) K rfl rfl (pgs_cons (pg_name (i := 8) nd rfl (Or.inl rfl)) (pgs_cons (pg_name (i := 9) nd rfl (Or.inl rfl)) pgs_nil))))
    (pss_cons (ps_if (pt_cmpR op_eq (pv 5) pe_int (nomark _)) (pss_one (ps_ret (pe_tup (pa_cons (pv 2) (pa_cons (pe_op op_cat (pe_slice sl_list (pv 3) po_none (po_some (pv 6))) (pe_slice sl_list (pv 3) (po_some (pe_op op_add (pv 6) pe_int)) po_none)) pa_nil))))) pss_nil)
    (pss_mid (ps_if (pt_cmpR op_eq (pe_op op_mod (pe_op op_fdiv (pv 4) pe_int) pe_int) pe_int (nomark _)) (pss_one (ps_set (i := 8) nd rfl (Or.inl rfl) (pe_ix ix_list (pe_lst (pa_cons pe_str (pa_cons pe_str (pa_cons pe_str pa_nil)))) (pe_op op_mod (pe_op op_fdiv (pv 4) pe_int) pe_int) (fun _ _ => rfl)))) (pss_one (ps_set (i := 9) nd rfl (Or.inl rfl) (pe_def G_L_number hr le rfl (pa_cons (pv 9) (pa_cons (pe_op op_fdiv (pv 4) pe_int) pa_nil))))))
    (pss_one (ps_ret (pe_tup (pa_cons (pv 2) (pa_cons (pe_op op_cat (pe_op op_cat (pe_slice sl_list (pv 3) po_none (po_some (pv 6))) (pe_lst (pa_cons (pe_tup (pa_cons (pv 8) (pa_cons (pv 9) pa_nil))) pa_nil))) (pe_slice sl_list (pv 3) (po_some (pe_op op_add (pv 6) pe_int)) po_none)) pa_nil)))))))))))))), ?_⟩
  obtain ⟨a, rl, ll, ys, zs, rfl, ha, hrl, hll, ny, nz, hY, hZ⟩ := id hv
  obtain ⟨R, hR, hRB⟩ := gather8 hY
  obtain ⟨L, hL, hLB⟩ := gather8 hZ
  have lR := Paired.length hR
  have lL := Paired.length hL
  have fresh : ∀ {H' : Hp} {p : Addr} {o : HO}, H' r = some o → H' p = none → p ≠ r := fun h1 h2 e => by rw [e, h1] at h2; cases h2
  have fin : ∀ (ds' : List Int) (H' : Hp) (rl' ll' : Addr) (ys' zs' : List V), SameB r H H' → H' r = some (.lst (ds'.map V.int)) → D31 ds' → rl' ≠ r → H' rl' = some (.lst ys') → ll' ≠ r → H' ll' = some (.lst zs') → ys'.length ≤ 256 + (t + 1) → zs'.length ≤ 12 + (t + 1) → (∀ y ∈ ys', y ∈ ys ∨ RowV8 (t + 1) (hide r H') y) → (∀ z ∈ zs', z ∈ zs ∨ LeadV8 (t + 1) (hide r H') z) → [V.ref rl', V.ref ll'].length ≤ sizeLine ∧ ∀ p, H' p = none → Q (.ref p) (upd H' p (.tup [.ref rl', .ref ll'])) := fun ds' H' rl' ll' ys' zs' SB hr' hd' n1 h1 n2 h2 l1 l2 hy hz => ⟨(by show 2 ≤ sizeLine; decide), fun p hp => by
    have Sp := same_new hp (.tup [.ref rl', .ref ll'])
    have hh := hideB (fun b o hb e => Sp _ _ (SB b o hb e))
    refine q _ ds' _ (fun b o hb e => Sp _ _ (SB b o hb e)) (Sp _ _ hr') hd' ⟨p, rl', ll', ys', zs', rfl, hide_new hr' hp, hide_of n1 (Sp _ _ h1), hide_of n2 (Sp _ _ h2), l1, l2, fun y m => ?_, fun z m => ?_⟩
    · exact (hy y m).elim (fun w => ((hY y w).same hh).up) fun w => w.same (hideS Sp)
    · exact (hz z m).elim (fun w => ((hZ z w).same hh).up) fun w => w.same (hideS Sp)⟩
  have nrl := hide_ne hrl
  have nll := hide_ne hll
  refine ⟨_, rfl, a, _, rfl, SqT.of (hide_un ha), rfl, _, _, rfl, _, _, rfl, rfl, ?_⟩
  try dsimp only [gName]
  refine ⟨_, rfl, r, ds, rfl, hr0, hd0, fun n ds1 H1 n0 n1 SB1 hr1 hd1 => ?_⟩
  have hh1 := hideB SB1
  have hrl1 := hide_un (hh1 _ _ hrl)
  have hll1 := hide_un (hh1 _ _ hll)
  have dR : ∀ {H'}, Same H1 H' → DRs K H' ys (R.map dQRow) := fun S => pdrs (fun _ _ z => z.dr) (Paired.imp' (fun _ _ z => (z.same hh1).same ((hide_same r H1).trans S)) hR)
  have dL : ∀ {H'}, Same H1 H' → DRs K H' zs (L.map dLead) := fun S => pdrs (fun _ _ z => z.dr) (Paired.imp' (fun _ _ z => (z.t hh1.t).t ((hide_same r H1).trans S).t) hL)
  have fin1 : ∀ (H' : Hp) (rl' ll' : Addr) (ys' zs' : List V), Same H1 H' → rl' ≠ r → H' rl' = some (.lst ys') → ll' ≠ r → H' ll' = some (.lst zs') → ys'.length ≤ 256 + (t + 1) → zs'.length ≤ 12 + (t + 1) → (∀ y ∈ ys', y ∈ ys) → (∀ z ∈ zs', z ∈ zs ∨ LeadV8 (t + 1) (hide r H') z) → [V.ref rl', V.ref ll'].length ≤ sizeLine ∧ ∀ p, H' p = none → Q (.ref p) (upd H' p (.tup [.ref rl', .ref ll'])) := fun H' rl' ll' ys' zs' S n1 h1 n2 h2 l1 l2 hy hz => fin ds1 H' rl' ll' ys' zs' (fun b o hb e => S _ _ (SB1 b o hb e)) (S _ _ hr1) hd1 n1 h1 n2 h2 l1 l2 (fun y m => .inl (hy y m)) hz
  try dsimp only [gName]
  refine ⟨_, rfl, _, _, rfl, rfl, (by show (0 : Int) < 8; decide), ?_⟩
  try dsimp only [gName]
  generalize n % 8 = kind
  refine seq_if (b := decide (kind < 4) && !(R.map dQRow).isEmpty) (lookAnd (.pure fun Q h => ⟨_, rfl, _, _, rfl, rfl, _, rfl, h⟩) (fun _ H2 S2 => fun Q h => ⟨_, rfl, eq_nilD (neg := true) (SqL.of (S2 _ _ hrl1)) (fun H3 S3 => dR (S2.trans S3)) ((shB_rows ht hRB).shaped (by decide)) fun H3 S3 => ⟨_, rfl, h _ S3⟩⟩)) fun H2 S2 => ite2 (fun c => ?_) (fun c => ?_)
  · have hne : 0 < ys.length := by
      rw [lR]
      cases R with
      | nil => simp at c
      | cons x y => exact Nat.succ_pos _
    refine ⟨_, rfl, _, _, rfl, rfl, ⟨by decide, by decide⟩, _, rfl, rl, _, rfl, .inl (SqL.of (S2 _ _ hrl1)), _, _, rfl, rfl, (by omega), ?_⟩
    have a0 := Int.emod_nonneg (n / 8) (show (ys.length : Int) ≠ 0 by omega)
    have a1 := Int.emod_lt_of_pos (n / 8) (show (0 : Int) < ys.length by omega)
    try dsimp only [gName]
    generalize n / 8 % (ys.length : Int) = k at a0 a1
    have n1 := cutV_lo ys a0
    have n2 := cutV_hi ys (k := k + 1) (by omega)
    refine ⟨_, rfl, _, rfl, _, rfl, rl, _, rfl, SqL.of (S2 _ _ hrl1), fun l1 hl1 => ?_⟩
    have Sa := S2.trans (same_new hl1 (.lst (cutV ys none (some k))))
    obtain ⟨y, hat, hy⟩ := at_V8 a0 a1
    refine ⟨_, rfl, _, rfl, rl, _, _, _, rfl, rfl, SqL.of (Sa _ _ hrl1), hat, _, rfl, r, ds1, rfl, Sa _ _ hr1, hd1, fun d ds2 H4 d0 d1 SB4 hr4 hd4 => ?_⟩
    have l1r : l1 ≠ r := fresh (S2 _ _ hr1) hl1
    have SB14 : SameB r H H4 := fun b o hb e => SB4 _ _ hb (Sa _ _ (SB1 _ _ hb e))
    refine ⟨y, d, t, r, _, rfl, (hY y hy).same (hideB SB14), by omega, hr4, fun y' H5 S5 hy' => ⟨(by show 1 ≤ sizeLine; decide), fun l2 hl2 => ?_⟩⟩
    have Sb := same_new hl2 (.lst [y'])
    have hl15 : H5 l1 = some (.lst (cutV ys none (some k))) := S5 _ _ (SB4 _ _ l1r upd_same)
    refine ⟨l1, l2, _, _, rfl, rfl, Sb _ _ hl15, upd_same, small600 (by show _ + 1 ≤ 1000; omega), fun l3 hl3 => ?_⟩
    have Sc := same_new hl3 (.lst (cutV ys none (some k) ++ [y']))
    have hrl5 : H5 rl = some (.lst ys) := hide_un (hideS S5 _ _ (hideB SB14 _ _ hrl))
    refine ⟨_, rfl, _, rfl, _, _, rfl, rfl, _, rfl, rl, _, rfl, SqL.of ((Sb.trans Sc) _ _ hrl5), fun l4 hl4 => ?_⟩
    have Sd := same_new hl4 (.lst (cutV ys (some (k + 1)) none))
    refine ⟨l3, l4, _, _, rfl, rfl, Sd _ _ upd_same, upd_same, small600 (by rw [List.length_append]; show _ + 1 + _ ≤ 1000; omega), fun l5 hl5 => ?_⟩
    have Se := same_new hl5 (.lst (cutV ys none (some k) ++ [y'] ++ cutV ys (some (k + 1)) none))
    have S5e := Sb.trans (Sc.trans (Sd.trans Se))
    have S4e := S5.trans S5e
    have hll4 : H4 ll = some (.lst zs) := hide_un (hideB SB14 _ _ hll)
    refine ⟨_, rfl, fin ds2 _ l5 ll _ zs (fun b o hb e => S4e _ _ (SB14 b o hb e)) (S4e _ _ hr4) hd4 (fresh ((S5.trans (Sb.trans (Sc.trans Sd))) _ _ hr4) hl5) upd_same nll (S4e _ _ hll4) (by rw [List.length_append, List.length_append]; show _ + 1 + _ ≤ _; omega) (by omega) (fun y m => ?_) (fun z m => .inl m)⟩
    rcases List.mem_append.mp m with w | w
    · rcases List.mem_append.mp w with w | w
      · exact .inl (cutV_mem8 w)
      · rw [List.mem_singleton.mp w]; exact .inr (hy'.same (hideS S5e))
    · exact .inl (cutV_mem8 w)
  try dsimp only [tNext]
  refine seq_if (b := decide (V.int kind = V.int 4) && !(R.map dQRow).isEmpty) (lookAnd (.pure fun Q h => ⟨_, rfl, rfl, _, rfl, h⟩) (fun _ H3 S3 => fun Q h => ⟨_, rfl, eq_nilD (neg := true) (SqL.of ((S2.trans S3) _ _ hrl1)) (fun H4 S4 => dR ((S2.trans S3).trans S4)) ((shB_rows ht hRB).shaped (by decide)) fun H4 S4 => ⟨_, rfl, h _ S4⟩⟩)) fun H3 S3 => ite2 (fun c => ?_) (fun c => ?_)
  · have hne : 0 < ys.length := by
      rw [lR]
      cases R with
      | nil => simp at c
      | cons x y => exact Nat.succ_pos _
    have S13 := S2.trans S3
    have hrl3 := S13 _ _ hrl1
    refine ⟨_, rfl, _, _, rfl, rfl, ⟨by decide, by decide⟩, _, rfl, rl, _, rfl, .inl (SqL.of hrl3), _, _, rfl, rfl, (by omega), ?_⟩
    have a0 := Int.emod_nonneg (n / 8) (show (ys.length : Int) ≠ 0 by omega)
    have a1 := Int.emod_lt_of_pos (n / 8) (show (0 : Int) < ys.length by omega)
    try dsimp only [gName]
    generalize n / 8 % (ys.length : Int) = k at a0 a1
    have n1 := cutV_lo ys a0
    have n2 := cutV_hi ys (k := k + 1) (by omega)
    have n3 := cutV_hi ys a0
    obtain ⟨y, hat, hy⟩ := at_V8 a0 a1
    refine ⟨_, rfl, _, rfl, _, rfl, rl, _, rfl, SqL.of hrl3, fun l1 hl1 => ?_⟩
    have T1 := same_new hl1 (.lst (cutV ys none (some k)))
    have g1 : upd H3 l1 (.lst (cutV ys none (some k))) l1 = some (.lst (cutV ys none (some k))) := upd_same
    generalize upd H3 l1 (.lst (cutV ys none (some k))) = G1 at T1 g1 ⊢
    refine ⟨_, rfl, _, rfl, _, _, rfl, rfl, _, rfl, rl, _, rfl, SqL.of (T1 _ _ hrl3), fun l2 hl2 => ?_⟩
    have T2 := same_new hl2 (.lst (cutV ys (some (k + 1)) none))
    have g2 : upd G1 l2 (.lst (cutV ys (some (k + 1)) none)) l2 = some (.lst (cutV ys (some (k + 1)) none)) := upd_same
    generalize upd G1 l2 (.lst (cutV ys (some (k + 1)) none)) = G2 at T2 g2 ⊢
    refine ⟨l1, l2, _, _, rfl, rfl, T2 _ _ g1, g2, small600 (by omega), fun l3 hl3 => ?_⟩
    have T3 := same_new hl3 (.lst (cutV ys none (some k) ++ cutV ys (some (k + 1)) none))
    have g3 : upd G2 l3 (.lst (cutV ys none (some k) ++ cutV ys (some (k + 1)) none)) l3 = some (.lst (cutV ys none (some k) ++ cutV ys (some (k + 1)) none)) := upd_same
    generalize upd G2 l3 (.lst (cutV ys none (some k) ++ cutV ys (some (k + 1)) none)) = G3 at T3 g3 ⊢
    have U3 := T1.trans (T2.trans T3)
    have r3 : l3 ≠ r := fresh ((T1.trans T2) _ _ (S13 _ _ hr1)) hl3
    clear hl1 hl2 hl3 T1 T2 T3 g1 g2
    refine ⟨_, rfl, _, rfl, _, rfl, rl, _, rfl, SqL.of (U3 _ _ hrl3), fun l4 hl4 => ?_⟩
    have T4 := same_new hl4 (.lst (cutV ys none (some k)))
    have g4 : upd G3 l4 (.lst (cutV ys none (some k))) l4 = some (.lst (cutV ys none (some k))) := upd_same
    generalize upd G3 l4 (.lst (cutV ys none (some k))) = G4 at T4 g4 ⊢
    refine ⟨_, rfl, _, rfl, rl, _, _, _, rfl, rfl, SqL.of ((U3.trans T4) _ _ hrl3), hat, (by show 1 ≤ sizeLine; decide), fun l5 hl5 => ?_⟩
    have T5 := same_new hl5 (.lst [y])
    have g5 : upd G4 l5 (.lst [y]) l5 = some (.lst [y]) := upd_same
    generalize upd G4 l5 (.lst [y]) = G5 at T5 g5 ⊢
    refine ⟨l4, l5, _, _, rfl, rfl, T5 _ _ g4, g5, small600 (by show _ + 1 ≤ 1000; omega), fun l6 hl6 => ?_⟩
    have T6 := same_new hl6 (.lst (cutV ys none (some k) ++ [y]))
    have g6 : upd G5 l6 (.lst (cutV ys none (some k) ++ [y])) l6 = some (.lst (cutV ys none (some k) ++ [y])) := upd_same
    generalize upd G5 l6 (.lst (cutV ys none (some k) ++ [y])) = G6 at T6 g6 ⊢
    have U6 := U3.trans (T4.trans (T5.trans T6))
    refine ⟨_, rfl, _, rfl, _, rfl, rl, _, rfl, SqL.of (U6 _ _ hrl3), fun l7 hl7 => ?_⟩
    have T7 := same_new hl7 (.lst (cutV ys (some k) none))
    have g7 : upd G6 l7 (.lst (cutV ys (some k) none)) l7 = some (.lst (cutV ys (some k) none)) := upd_same
    generalize upd G6 l7 (.lst (cutV ys (some k) none)) = G7 at T7 g7 ⊢
    refine ⟨l6, l7, _, _, rfl, rfl, T7 _ _ g6, g7, small600 (by rw [List.length_append]; show _ + 1 + _ ≤ 1000; omega), fun l8 hl8 => ?_⟩
    have T8 := same_new hl8 (.lst (cutV ys none (some k) ++ [y] ++ cutV ys (some k) none))
    have g8 : upd G7 l8 (.lst (cutV ys none (some k) ++ [y] ++ cutV ys (some k) none)) l8 = some (.lst (cutV ys none (some k) ++ [y] ++ cutV ys (some k) none)) := upd_same
    generalize upd G7 l8 (.lst (cutV ys none (some k) ++ [y] ++ cutV ys (some k) none)) = G8 at T8 g8 ⊢
    have V8 := T4.trans (T5.trans (T6.trans (T7.trans T8)))
    have g38 := V8 _ _ g3
    have U8 := U3.trans V8
    have r8 : l8 ≠ r := fresh ((U6.trans T7) _ _ (S13 _ _ hr1)) hl8
    clear hl4 hl5 hl6 hl7 hl8 T4 T5 T6 T7 T8 g3 g4 g5 g6 g7 V8 U6 U3
    refine ⟨_, rfl, _, rfl, _, rfl, rl, _, rfl, SqL.of (U8 _ _ hrl3), fun l9 hl9 => ?_⟩
    have T9 := same_new hl9 (.lst (cutV ys (some k) none))
    have g9 : upd G8 l9 (.lst (cutV ys (some k) none)) l9 = some (.lst (cutV ys (some k) none)) := upd_same
    generalize upd G8 l9 (.lst (cutV ys (some k) none)) = G9 at T9 g9 ⊢
    refine ⟨_, rfl, _, rfl, _, rfl, rl, _, rfl, SqL.of ((U8.trans T9) _ _ hrl3), fun l10 hl10 => ?_⟩
    have T10 := same_new hl10 (.lst (cutV ys none (some k)))
    have g10 : upd G9 l10 (.lst (cutV ys none (some k))) l10 = some (.lst (cutV ys none (some k))) := upd_same
    generalize upd G9 l10 (.lst (cutV ys none (some k))) = G10 at T10 g10 ⊢
    refine ⟨l9, l10, _, _, rfl, rfl, T10 _ _ g9, g10, small600 (by omega), fun l11 hl11 => ?_⟩
    have T11 := same_new hl11 (.lst (cutV ys (some k) none ++ cutV ys none (some k)))
    have g11 : upd G10 l11 (.lst (cutV ys (some k) none ++ cutV ys none (some k))) l11 = some (.lst (cutV ys (some k) none ++ cutV ys none (some k))) := upd_same
    generalize upd G10 l11 (.lst (cutV ys (some k) none ++ cutV ys none (some k))) = G11 at T11 g11 ⊢
    have V11 := T9.trans (T10.trans T11)
    have r11 : l11 ≠ r := fresh ((U8.trans (T9.trans T10)) _ _ (S13 _ _ hr1)) hl11
    refine ⟨(by show 3 ≤ sizeLine; decide), fun sl hsl => ?_⟩
    have T12 := same_new hsl (.lst [.ref l3, .ref l8, .ref l11])
    have g12 : upd G11 sl (.lst [.ref l3, .ref l8, .ref l11]) sl = some (.lst [.ref l3, .ref l8, .ref l11]) := upd_same
    generalize upd G11 sl (.lst [.ref l3, .ref l8, .ref l11]) = G12 at T12 g12 ⊢
    have U12 := S13.trans (U8.trans (V11.trans T12))
    have h3 := (V11.trans T12) _ _ g38
    have h8 := (V11.trans T12) _ _ g8
    have h11 := T12 _ _ g11
    clear hl9 hl10 hl11 hsl T9 T10 T11 T12 V11 U8 g8 g38 g9 g10 g11
    have m3 : ∀ z ∈ cutV ys none (some k) ++ cutV ys (some (k + 1)) none, z ∈ ys := fun z m => (List.mem_append.mp m).elim (fun w => cutV_mem8 w) fun w => cutV_mem8 w
    have m8 : ∀ z ∈ cutV ys none (some k) ++ [y] ++ cutV ys (some k) none, z ∈ ys := fun z m => by
      rcases List.mem_append.mp m with w | w
      · rcases List.mem_append.mp w with w | w
        · exact cutV_mem8 w
        · rw [List.mem_singleton.mp w]; exact hy
      · exact cutV_mem8 w
    have m11 : ∀ z ∈ cutV ys (some k) none ++ cutV ys none (some k), z ∈ ys := fun z m => (List.mem_append.mp m).elim (fun w => cutV_mem8 w) fun w => cutV_mem8 w
    try dsimp only [gName]
    refine seq_if (b := decide (V.int (n / 512 % 4) = V.int 3)) (.pure fun Q h => ⟨_, rfl, _, _, rfl, rfl, ⟨by decide, by decide⟩, _, _, rfl, rfl, (by show (0 : Int) < 4; decide), rfl, _, rfl, h⟩) fun H4 S4 => ite2 (fun c4 => ?_) (fun c4 => ?_)
    · have U4 := U12.trans S4
      refine ⟨_, rfl, sl, _, _, _, rfl, rfl, SqL.of (S4 _ _ g12), rfl, _, rfl, ll, rfl, ⟨_, SqL.of (U4 _ _ hll1)⟩, compA_list (SqL.of (U4 _ _ hll1)) (Paired.imp' (fun _ _ z => (z.t hh1.t).t ((hide_same r H1).trans U4).t) hL) (fun _ => true) (fun H' y _ => ∃ l', LeadS H' y l' ∧ l'.1 ∈ Words ∧ BQ (t + 1) l'.2) (fun A B y x TS h => by obtain ⟨l', h1, h2⟩ := h; exact ⟨l', h1.t TS, h2⟩) (by omega) (fun l v H5 hl hv S5 => ?_) (fun acc ws H5 hacc S5 h0 hP => ?_)⟩
      · obtain ⟨p, rfl, hp⟩ := hv.t S5.t
        intro PUT SKIP h1 h2
        refine ⟨p, _, rfl, SqT.of hp, rfl, _, _, rfl, _, _, rfl, rfl, Wk.set (i := 1) ((Wk.refl _).set (i := 0) (by decide)) (by decide), look_yes _ fun H6 S6 => iteT ?_⟩
        refine ⟨_, rfl, _, rfl, _, rfl, _, rfl, _, rfl, rl, _, rfl, .inl (SqL.of ((U4.trans (S5.trans S6)) _ _ hrl1)), l.1, l.2, k, _, t, rfl, (hLB l hl).2, by omega, fun x H7 S7 hx => ⟨(by show 2 ≤ sizeLine; decide), fun tp htp => ?_⟩⟩
        have S8 := S6.trans (S7.trans (same_new htp (.tup [.str l.1, .int x])))
        exact h1 rfl _ _ S8 ⟨(l.1, x), ⟨tp, rfl, upd_same⟩, (hLB l hl).1, hx.up⟩
      · rw [filter_true] at hP
        have lw := Paired.length hP
        have U5 := U4.trans S5
        refine fin1 _ l11 acc _ ws U5 r11 ((S4.trans S5) _ _ h11) (fresh (U4 _ _ hr1) hacc) h0 (by rw [List.length_append]; omega) (by omega) m11 fun z m => .inr ?_
        obtain ⟨j, hj⟩ := List.getElem?_of_mem m
        obtain ⟨x, _, l', hl', h2⟩ := paired_take hP hj
        obtain ⟨p, rfl, hp⟩ := hl'
        exact ⟨l', ⟨p, rfl, hide_of (fun e => by rw [e, U5 _ _ hr1] at hp; cases hp) hp⟩, h2⟩
    · have U4 := U12.trans S4
      try dsimp only [tNext]
      have e0 := Int.emod_nonneg (n / 512) (show (4 : Int) ≠ 0 by decide)
      have e1 := Int.emod_lt_of_pos (n / 512) (show (0 : Int) < 4 by decide)
      have e3 : n / 512 % 4 ≠ 3 := fun e => c4 (decide_eq_true (by rw [e]))
      obtain ⟨z, hz, hm⟩ := at_V8 (xs := [V.ref l3, .ref l8, .ref l11]) e0 (by show n / 512 % 4 < 3; omega)
      refine ⟨_, rfl, _, rfl, _, _, rfl, rfl, ⟨by decide, by decide⟩, _, _, rfl, rfl, (by show (0 : Int) < 4; decide), sl, _, _, _, rfl, rfl, SqL.of (S4 _ _ g12), hz, _, rfl, ?_⟩
      simp only [List.mem_cons, List.not_mem_nil, or_false] at hm
      rcases hm with rfl | rfl | rfl
      · exact fin1 _ l3 ll _ zs U4 r3 (S4 _ _ h3) nll (U4 _ _ hll1) (by rw [List.length_append]; omega) (by omega) m3 fun z m => .inl m
      · exact fin1 _ l8 ll _ zs U4 r8 (S4 _ _ h8) nll (U4 _ _ hll1) (by rw [List.length_append, List.length_append]; show _ + 1 + _ ≤ _; omega) (by omega) m8 fun z m => .inl m
      · exact fin1 _ l11 ll _ zs U4 r11 (S4 _ _ h11) nll (U4 _ _ hll1) (by rw [List.length_append]; omega) (by omega) m11 fun z m => .inl m
  have S13 := S2.trans S3
  try dsimp only [tNext]
  refine seq_if (b := (L.map dLead).isEmpty || decide (V.int kind = V.int 5)) (lookOr (fun Q h => ⟨_, rfl, eq_nilD (neg := false) (SqL.of (S13 _ _ hll1)) (fun H4 S4 => dL (S13.trans S4)) ((shB_leads ht hLB).shaped (by decide)) fun H4 S4 => ⟨_, rfl, h _ S4⟩⟩) (fun _ H4 S4 => .pure fun Q h => ⟨_, rfl, rfl, _, rfl, h⟩)) fun H4 S4 => ite2 (fun c5 => ?_) (fun c5 => ?_)
  · have S14 := S13.trans S4
    refine ⟨_, rfl, _, rfl, (by show 2 ≤ sizeLine; decide), fun tp htp => ⟨(by show 1 ≤ sizeLine; decide), fun l1 hl1 => ?_⟩⟩
    have T1 := same_new htp (.tup [.str "by", .int 0])
    have T2 := same_new hl1 (.lst [V.ref tp])
    refine ⟨ll, l1, _, _, rfl, rfl, (T1.trans T2) _ _ (S14 _ _ hll1), upd_same, small600 (by show _ + 1 ≤ 1000; omega), fun l2 hl2 => ?_⟩
    have T3 := same_new hl2 (.lst (zs ++ [V.ref tp]))
    have U3 := S14.trans (T1.trans (T2.trans T3))
    refine fin1 _ rl l2 ys _ U3 nrl (U3 _ _ hrl1) (fresh ((S14.trans (T1.trans T2)) _ _ hr1) hl2) upd_same (by omega) (by rw [List.length_append]; show _ + 1 ≤ _; omega) (fun y m => m) fun z m => ?_
    rcases List.mem_append.mp m with w | w
    · exact .inl w
    · rw [List.mem_singleton.mp w]
      exact .inr ⟨("by", 0), ⟨tp, rfl, hide_of (fresh (S14 _ _ hr1) htp) ((T2.trans T3) _ _ upd_same)⟩, .head _, .small (by decide)⟩
  have S14 := S13.trans S4
  have hnz : 0 < zs.length := by
    rw [lL]
    cases L with
    | nil => simp at c5
    | cons x y => exact Nat.succ_pos _
  try dsimp only [tNext]
  refine ⟨_, rfl, _, _, rfl, rfl, ⟨by decide, by decide⟩, _, rfl, ll, _, rfl, .inl (SqL.of (S14 _ _ hll1)), _, _, rfl, rfl, (by omega), ?_⟩
  have a0 := Int.emod_nonneg (n / 8) (show (zs.length : Int) ≠ 0 by omega)
  have a1 := Int.emod_lt_of_pos (n / 8) (show (0 : Int) < zs.length by omega)
  try dsimp only [gName]
  generalize n / 8 % (zs.length : Int) = k at a0 a1
  have n1 := cutV_lo zs a0
  have n2 := cutV_hi zs (k := k + 1) (by omega)
  obtain ⟨y, hat, hy⟩ := at_V8 a0 a1
  obtain ⟨⟨w, p⟩, ⟨pa, rfl, hpa⟩, hw, hp⟩ := hZ y hy
  have hpa1 := hide_un (hh1 _ _ hpa)
  dsimp only at hw hp hpa1
  refine ⟨_, rfl, _, rfl, ll, _, _, _, rfl, rfl, SqL.of (S14 _ _ hll1), hat, pa, _, rfl, SqT.of (S14 _ _ hpa1), rfl, _, _, rfl, _, _, rfl, rfl, ?_⟩
  try dsimp only [gName]
  refine seq_if (b := decide (V.int kind = V.int 6)) (.pure fun Q h => ⟨_, rfl, rfl, _, rfl, h⟩) fun H5 S5 => ite2 (fun c6 => ?_) (fun c6 => ?_)
  · have S15 := S14.trans S5
    have hll5 := S15 _ _ hll1
    refine ⟨_, rfl, _, rfl, _, rfl, _, rfl, ll, _, rfl, SqL.of hll5, fun l1 hl1 => ?_⟩
    have T1 := same_new hl1 (.lst (cutV zs none (some k)))
    refine ⟨_, rfl, _, rfl, _, _, rfl, rfl, _, rfl, ll, _, rfl, SqL.of (T1 _ _ hll5), fun l2 hl2 => ?_⟩
    have T2 := same_new hl2 (.lst (cutV zs (some (k + 1)) none))
    refine ⟨l1, l2, _, _, rfl, rfl, T2 _ _ upd_same, upd_same, small600 (by omega), fun l3 hl3 => ?_⟩
    have U3 := S15.trans (T1.trans (T2.trans (same_new hl3 (.lst (cutV zs none (some k) ++ cutV zs (some (k + 1)) none)))))
    refine fin1 _ rl l3 ys _ U3 nrl (U3 _ _ hrl1) (fresh ((S15.trans (T1.trans T2)) _ _ hr1) hl3) upd_same (by omega) (by rw [List.length_append]; omega) (fun y m => m) fun z m => .inl ?_
    exact (List.mem_append.mp m).elim (fun w => cutV_mem8 w) fun w => cutV_mem8 w
  have S15 := S14.trans S5
  try dsimp only [tNext]
  refine ⟨fun σ H' => ∃ (w : Str) (p : Int) (z7 : Option V), σ = [some (.ref a), some (.ref r), some (.ref rl), some (.ref ll), some (.int n), some (.int kind), some (.int k), z7, some (.str w), some (.int p)] ∧ Same H1 H' ∧ w ∈ Words ∧ BQ (t + 1) p, ?_, ?_⟩
  · refine one_if (b := decide (V.int (n / 4096 % 2) = V.int 0)) (.pure fun Q h => ⟨_, rfl, _, _, rfl, rfl, ⟨by decide, by decide⟩, _, _, rfl, rfl, (by show (0 : Int) < 2; decide), rfl, _, rfl, h⟩) fun H6 S6 => ite2 (fun c7 => ?_) (fun c7 => ?_)
    · obtain ⟨z, hz, hm⟩ := at_V8 (xs := [V.str "by", .str "in", .str "of"]) (k := n / 8192 % 3) (Int.emod_nonneg _ (by decide)) (by show n / 8192 % 3 < 3; exact Int.emod_lt_of_pos _ (by decide))
      refine ⟨(by show 3 ≤ sizeLine; decide), fun sl hsl => ⟨_, rfl, _, _, rfl, rfl, ⟨by decide, by decide⟩, _, _, rfl, rfl, (by show (0 : Int) < 3; decide), sl, _, _, _, rfl, rfl, SqL.of upd_same, hz, ?_⟩⟩
      have hm : z ∈ Words.map V.str := hm
      obtain ⟨w', hw', rfl⟩ := List.mem_map.mp hm
      exact ⟨w', p, _, rfl, S15.trans (S6.trans (same_new hsl _)), hw', hp.up⟩
    · exact ⟨_, rfl, _, rfl, _, _, rfl, rfl, ⟨by decide, by decide⟩, p, _, t, rfl, hp, fun x H7 S7 hx => ⟨w, x, _, rfl, S15.trans (S6.trans S7), hw, hx⟩⟩
  rintro σ H6 ⟨w, p, z7, rfl, S6, hw, hp⟩
  have hll6 := S6 _ _ hll1
  refine ⟨_, rfl, _, rfl, _, rfl, _, rfl, ll, _, rfl, SqL.of hll6, fun l1 hl1 => ?_⟩
  have T1 := same_new hl1 (.lst (cutV zs none (some k)))
  refine ⟨_, rfl, _, rfl, (by show 2 ≤ sizeLine; decide), fun tp htp => ⟨(by show 1 ≤ sizeLine; decide), fun l2 hl2 => ?_⟩⟩
  have T2 := same_new htp (.tup [.str w, .int p])
  have T3 := same_new hl2 (.lst [V.ref tp])
  refine ⟨l1, l2, _, _, rfl, rfl, (T2.trans T3) _ _ upd_same, upd_same, small600 (by show _ + 1 ≤ 1000; omega), fun l3 hl3 => ?_⟩
  have T4 := same_new hl3 (.lst (cutV zs none (some k) ++ [V.ref tp]))
  refine ⟨_, rfl, _, rfl, _, _, rfl, rfl, _, rfl, ll, _, rfl, SqL.of ((T1.trans (T2.trans (T3.trans T4))) _ _ hll6), fun l4 hl4 => ?_⟩
  have T5 := same_new hl4 (.lst (cutV zs (some (k + 1)) none))
  refine ⟨l3, l4, _, _, rfl, rfl, T5 _ _ upd_same, upd_same, small600 (by rw [List.length_append]; show _ + 1 + _ ≤ 1000; omega), fun l5 hl5 => ?_⟩
  have T6 := same_new hl5 (.lst (cutV zs none (some k) ++ [V.ref tp] ++ cutV zs (some (k + 1)) none))
  have U5 := S6.trans (T1.trans (T2.trans (T3.trans (T4.trans T5))))
  have U6 := U5.trans T6
  refine fin1 _ rl l5 ys _ U6 nrl (U6 _ _ hrl1) (fresh (U5 _ _ hr1) hl5) upd_same (by omega) (by rw [List.length_append, List.length_append]; show _ + 1 + _ ≤ _; omega) (fun y m => m) fun z m => ?_
  rcases List.mem_append.mp m with x | x
  · rcases List.mem_append.mp x with x | x
    · exact .inl (cutV_mem8 x)
    · rw [List.mem_singleton.mp x]
      exact .inr ⟨(w, p), ⟨tp, rfl, hide_of (fresh ((S6.trans T1) _ _ hr1) htp) ((T3.trans (T4.trans (T5.trans T6))) _ _ upd_same)⟩, hw, hp⟩
  · exact .inl (cutV_mem8 x)

end
end OL.Q83

namespace OL.Q83
open PySem L2 OL
section
variable {P : Program} {w : World} {K : PySem.W.Frag} {mg : Str → Option Value} {base : Heap} {f : Addr} {fd : FuncData} {k : Nat}
theorem pap0 {r : Addr} {o : List V} {H H' : Hp} {many : Int} {as bs T : List Int} {t rl ll : Addr} {ys zs : List V} {cs : List Addr} (hr : H r = some (.lst o)) (S : Same H H') (hT : LeastOf (partL many as bs) T) (m0 : 0 ≤ many) (m8 : many ≤ 8) (hain : ∀ x ∈ as, InB many x) (hbin : ∀ x ∈ bs, InB many x) (la : as.length ≤ 12) (lb : bs.length ≤ 24) (ht : H' t = some (.tup [.ref rl, .ref ll])) (hrl : H' rl = some (.lst ys)) (hLA : ListA QRowA H' ys (T.map (rowQ as bs)) cs) (hll : H' ll = some (.lst zs)) (hLe : Paired (LeadS H') zs (as.map (leadF T bs))) (hc : ∀ c ∈ cs, H c = none ∧ c ≠ rl ∧ c ≠ ll) (hrl0 : H rl = none) (hll0 : H ll = none) : PapV 0 (hide r H') (.ref t) := by
  have hr' := S _ _ hr
  have hp8 : (2 : Nat) ^ many.toNat ≤ 256 := Nat.pow_le_pow_right (n := 2) (i := many.toNat) (j := 8) (by decide) (by omega)
  have hTl : T.length ≤ 256 := Nat.le_trans hT.len (Nat.le_trans (partL_len _ _ _) hp8)
  have hTsm : ∀ t ∈ T, Sm t := fun t ht => .of (partT_in hain hbin hT ht).1 (by omega)
  have hnnb : ∀ x ∈ bs, 0 ≤ x := fun x hx => (hbin x hx).1
  have tr : ∀ {a : Addr} {xs : List V}, H' a = some (.tup xs) → a ≠ r := fun h e => by rw [e, hr'] at h; cases h
  have fr : ∀ {a : Addr}, H a = none → a ≠ r := fun h e => by rw [e, hr] at h; cases h
  have hyl := hLA.len
  have hzl := Paired.length hLe
  rw [List.length_map] at hyl hzl
  refine ⟨t, rl, ll, ys, zs, rfl, hide_of (tr ht) ht, hide_of (fr hrl0) hrl, hide_of (fr hll0) hll, by omega, by omega, fun y hy => ?_, fun z hz => ?_⟩
  · obtain ⟨i, hi⟩ := List.getElem?_of_mem hy
    obtain ⟨x, bs', hx, hR, hsub⟩ := hLA.get hi
    obtain ⟨u, hu, rfl⟩ := List.mem_map.mp (List.mem_of_getElem? hx)
    obtain ⟨a, lm, lk, rfl, h1, h2, h3, rfl⟩ := hR
    exact ⟨_, ⟨a, lm, lk, rfl, hide_of (tr h1) h1, hide_of (fr (hc lm (hsub lm (.head _))).1) h2, hide_of (fr (hc lk (hsub lk (.tail _ (.head _)))).1) h3⟩, rowQ_B (hTsm u hu) (by omega) (by omega) hnnb⟩
  · obtain ⟨i, hi⟩ := List.getElem?_of_mem hz
    obtain ⟨x, hx, a, rfl, h1⟩ := paired_take hLe hi
    obtain ⟨u, hu, rfl⟩ := List.mem_map.mp (List.mem_of_getElem? hx)
    have := leadF_small (T := T) (bs := bs) (b := u) (by omega) (by omega)
    exact ⟨_, ⟨a, rfl, hide_of (tr h1) h1⟩, this.1, .small (by have := this.2; omega)⟩
noncomputable abbrev n_law : List Str := ["_law_script", "_law_draws_here", "_law_one", "_law_other", "_law_paper", "_law_more", "_law_against", "_law_books", "_law_turn", "_law_kept", "_law_found"]
theorem sc_law : FnScope n_law ["_law_script"] (defScope s_law) := ⟨rfl, rfl, rfl, by decide +kernel, rfl, by decide +kernel, by decide +kernel⟩
set_option maxHeartbeats 4000000 in
theorem ok_law (F : Fun K "law" "law" s_law f fd) (M_str : mg "str" = none) (M_range : mg "range" = none) (M_isinstance : mg "isinstance" = none) (M_bool : mg "bool" = none) (G_L_draws : Dfn P w K mg base k "_law_draws" ["_law_script", "_law_turn", "_law_many"] (spDr K)) (G_L_two : Dfn P w K mg base k "_law_two" ["_law_draws_here"] spTwo7) (G_parting_paper : Dfn P w K mg base k "parting_paper" ["one", "other"] (spPPaper K)) (G_L_pop : Dfn P w K mg base k "_law_pop" ["_law_draws_here"] spPop) (G_parting_holds : Dfn P w K mg base k "parting_holds" ["one", "other", "paper"] (spPHolds K)) (G_L_right : Dfn P w K mg base k "_law_right" ["_law_one", "_law_other", "_law_paper"] (spRightL K)) (G_L_bent : Dfn P w K mg base k "_law_bent" ["_law_paper", "_law_draws_here"] spBent83) : FnOk P w K mg base CX0 (k + 1) f fd ["_law_script"] (spLaw K) := by
  refine F.ok sc_law (fun vs H Q E h => ?_) (fun cdv A outer s H vs Q E hr h => ?_)
  · obtain ⟨a, ns, rfl, hS, h63, q⟩ := h; rfl
  obtain ⟨a, ns, rfl, hS, h63, q⟩ := h
  have nd := sc_law.nd
  have le := Nat.le_refl k
  refine ⟨_, pss_cons (ps_set (i := 1) nd rfl (Or.inl rfl) (pe_def G_L_draws hr le rfl (pa_cons (pv 0) (pa_cons pe_int (pa_cons pe_int pa_nil)))))
    (pss_cons (ps_asg (pe_def G_L_two hr le rfl (pa_cons (pv 1) pa_nil)) (pg_tupK (n := 2) K rfl rfl (pgs_cons (pg_name (i := 2) nd rfl (Or.inl rfl)) (pgs_cons (pg_name (i := 3) nd rfl (Or.inl rfl)) pgs_nil))))
    (pss_cons (ps_set (i := 4) nd rfl (Or.inl rfl) (pe_def G_parting_paper hr le rfl (pa_cons (pv 2) (pa_cons (pv 3) pa_nil))))
    (pss_mid (ps_if (pt_cmpR op_eq (pe_op op_mod (pe_def G_L_pop hr le rfl (pa_cons (pv 1) pa_nil)) pe_int) pe_int (nomark _)) (pss_cons (ps_asg (pe_def G_L_two hr le rfl (pa_cons (pv 1) pa_nil)) (pg_tupK (n := 2) K rfl rfl (pgs_cons (pg_name (i := 5) nd rfl (Or.inl rfl)) (pgs_cons (pg_name (i := 6) nd rfl (Or.inl rfl)) pgs_nil))))
      (pss_one (ps_set (i := 4) nd rfl (Or.inl rfl) (pe_def G_parting_paper hr le rfl (pa_cons (pv 5) (pa_cons (pv 6) pa_nil)))))) pss_nil)
    (pss_cons (ps_set (i := 7) nd rfl (Or.inl rfl) (pe_callTy (call_strD hr) (by rfl) M_str PyProof.Rows.boot_str (pa_cons (pe_lst (pa_cons (pv 2) (pa_cons (pv 3) pa_nil))) pa_nil)))
    (pss_cons (ps_for PassesOwn.never rfl (pi_range1 rfl M_range (pa_cons pe_int pa_nil)) (pg_name (i := 8) nd rfl (Or.inl rfl))
      (pss_cons (ps_set (i := 9) nd rfl (Or.inl rfl) (pe_callTy (call_strD hr) (by rfl) M_str PyProof.Rows.boot_str (pa_cons (pv 4) pa_nil)))
      (pss_cons (ps_set (i := 10) nd rfl (Or.inl rfl) (pe_def G_parting_holds hr le rfl (pa_cons (pv 2) (pa_cons (pv 3) (pa_cons (pv 4) pa_nil)))))
      (pss_cons (ps_if (PW.pt (pw_or (pt_not (pt_val (pe_callB call_isinst (by rfl) M_isinstance PyProof.Rows.boot_isinstance (pa_cons (pv 10) (pa_cons (pe_bltn (v := .ty "bool") (by rfl) M_bool PyProof.Rows.boot_bool rfl) pa_nil))))) (pw_or1 (pt_cmpR op_ne (pv 10) (pe_def G_L_right hr le rfl (pa_cons (pv 2) (pa_cons (pv 3) (pa_cons (pv 4) pa_nil)))) (nomark _))))) (pss_one (ps_ret pe_bl)) pss_nil)
      (pss_cons (ps_if (PW.pt (pw_or (pt_cmpR op_ne (pe_callTy (call_strD hr) (by rfl) M_str PyProof.Rows.boot_str (pa_cons (pv 4) pa_nil)) (pv 9) (nomark _)) (pw_or1 (pt_cmpR op_ne (pe_callTy (call_strD hr) (by rfl) M_str PyProof.Rows.boot_str (pa_cons (pe_lst (pa_cons (pv 2) (pa_cons (pv 3) pa_nil))) pa_nil)) (pv 7) (nomark _))))) (pss_one (ps_ret pe_bl)) pss_nil)
      (pss_one (ps_set (i := 4) nd rfl (Or.inl rfl) (pe_def G_L_bent hr le rfl (pa_cons (pv 4) (pa_cons (pv 1) pa_nil))))))))))
    (pss_one (ps_ret pe_bl))))))), ?_⟩
  refine ⟨_, rfl, a, ns, 1, 120, rfl, hS, h63, by decide, by decide, by decide, by decide, fun r ds H1 S1 hr0 hr1 hd1 => ?_⟩
  try dsimp only [gName]
  refine ⟨_, rfl, r, ds, rfl, hr1, hd1, fun t b1 l1 b2 l2 many as bs ds1 H2 SB2 ht hb1 hl1 hb2 hl2 hr2 hd2 l12 l1r l2r m1 m8 za zb hain hbin => ⟨t, _, rfl, SqT.of ht, rfl, _, _, rfl, _, _, rfl, rfl, ?_⟩⟩
  have tr : ∀ {a : Addr} {xs : List V}, H2 a = some (.tup xs) → a ≠ r := fun h e => by rw [e, hr2] at h; cases h
  have hA2 : Bk K (hide r H2) b1 many as := ⟨l1, SqT.of (hide_of (tr hb1) hb1), SqL.of (hide_of l1r hl1)⟩
  have hB2 : Bk K (hide r H2) b2 many bs := ⟨l2, SqT.of (hide_of (tr hb2) hb2), SqL.of (hide_of l2r hl2)⟩
  have hBk1 : ∀ {H'}, SameB r H2 H' → Bk K H' b1 many as := fun S => (hA2.same (hideB S)).same (hide_same _ _)
  have hBk2 : ∀ {H'}, SameB r H2 H' → Bk K H' b2 many bs := fun S => (hB2.same (hideB S)).same (hide_same _ _)
  have bt : ∀ {A B C : Hp}, SameB r A B → Same B C → SameB r A C := fun h S b o n e => S _ _ (h b o n e)
  clear SB2 S1 hr0 hr1 hd1 ht tr hb1 hl1 hb2 hl2
  have shK : Sho (.list [.tuple [.int many, .list (as.map PyData.int)], .tuple [.int many, .list (bs.map PyData.int)]]) 100 3 := (Sho.list (ShoAll.cons (Sho.bk (by omega) fun x hx => (hain x hx).small (by omega)) (ShoAll.cons (Sho.bk (by omega) fun x hx => (hbin x hx).small (by omega)) .nil))).mono (by omega) (by decide)
  have hnnb : ∀ x ∈ bs, 0 ≤ x := fun x hx => (hbin x hx).1
  have hnna : ∀ x ∈ as, 0 ≤ x := fun x hx => (hain x hx).1
  have S22 := (Same.refl H2).b (l := r)
  try dsimp only [gName]
  refine ⟨_, rfl, _, rfl, b1, b2, many, as, bs, rfl, hBk1 S22, hBk2 S22, by omega, by omega, by omega, by omega, hain, hbin, fun t1 rl1 ll1 ys1 zs1 T H3 cs1 S3 hT ht1 hrl1 hLA1 hll1 hLe1 hn1 hc1 hrl10 hll10 _ => ?_⟩
  have hP1 := pap0 hr2 S3 hT (by omega) m8 hain hbin za zb ht1 hrl1 hLA1 hll1 hLe1 hc1 hrl10 hll10
  clear hn1 hc1 hrl10 hll10 hLe1 hll1 hLA1 hrl1 ht1 hT
  try dsimp only [gName]
  refine ⟨fun σ H' => ∃ (v4 : V) (z5 z6 : Option V) (ds' : List Int), σ = [some (.ref a), some (.ref r), some (.ref b1), some (.ref b2), some v4, z5, z6, none, none, none, none] ∧ SameB r H2 H' ∧ H' r = some (.lst (ds'.map V.int)) ∧ D31 ds' ∧ PapV 0 (hide r H') v4, ?_, ?_⟩
  · refine ⟨_, rfl, r, ds1, rfl, S3 _ _ hr2, hd2, fun d ds2 H4 d0 d1 SB4 hr4 hd4 => ⟨_, _, rfl, rfl, (by show (0 : Int) < 8; decide), rfl, _, rfl, ite2 (fun _ => ?_) (fun _ => ?_)⟩⟩
    · refine ⟨_, rfl, r, ds2, rfl, hr4, hd4, fun t b1' l1' b2' l2' many' as' bs' ds3 H5 SB5 ht hb1 hl1 hb2 hl2 hr5 hd5 _ l1r' l2r' m1' m8' za' zb' hain' hbin' => ⟨t, _, rfl, SqT.of ht, rfl, _, _, rfl, _, _, rfl, rfl, ?_⟩⟩
      try dsimp only [gName]
      refine ⟨_, rfl, _, rfl, b1', b2', many', as', bs', rfl, ⟨l1', SqT.of hb1, SqL.of hl1⟩, ⟨l2', SqT.of hb2, SqL.of hl2⟩, by omega, by omega, by omega, by omega, hain', hbin', fun t1 rl1 ll1 ys1 zs1 T H6 cs1 S6 hT ht1 hrl1 hLA1 hll1 hLe1 hn1 hc1 hrl10 hll10 _ => ?_⟩
      have hP := pap0 hr5 S6 hT (by omega) m8' hain' hbin' za' zb' ht1 hrl1 hLA1 hll1 hLe1 hc1 hrl10 hll10
      exact ⟨_, _, _, ds3, rfl, bt (fun b o n e => SB5 _ _ n (SB4 _ _ n (S3 _ _ e))) S6, S6 _ _ hr5, hd5, hP⟩
    · exact ⟨_, _, _, ds2, rfl, fun b o n e => SB4 _ _ n (S3 _ _ e), hr4, hd4, hP1.same (hideB SB4)⟩
  rintro σ H4 ⟨v4, z5, z6, ds2, rfl, SB4, hr4, hd4, hP4⟩
  clear hP1 S3
  refine ⟨_, rfl, _, rfl, (by show 2 ≤ sizeLine; decide), fun k1 hk1 => ?_⟩
  have Sk := same_new hk1 (.lst [.ref b1, .ref b2])
  refine ⟨k1, _, rfl, .lst (SqL.of upd_same) (.cons (hBk1 (bt SB4 Sk)).dr (.cons (hBk2 (bt SB4 Sk)).dr .nil)), shK.four (by omega) (by decide) ?_⟩
  have SB5 := bt SB4 Sk
  have hr5 := Sk _ _ hr4
  have hP5 := hP4.same (hideS Sk)
  generalize upd H4 k1 (.lst [.ref b1, .ref b2]) = H5 at SB5 hr5 hP5 ⊢
  clear SB4 hr4 hP4 hk1 Sk
  try dsimp only [gName]
  refine ⟨_, rfl, by decide, by decide, for_range (fun i σ H' => ∃ (v4 : V) (z5 z6 z8 z9 z10 : Option V) (ds' : List Int), σ = [some (.ref a), some (.ref r), some (.ref b1), some (.ref b2), some v4, z5, z6, some (.str (PyData.list [.tuple [.int many, .list (as.map PyData.int)], .tuple [.int many, .list (bs.map PyData.int)]]).shown), z8, z9, z10] ∧ SameB r H2 H' ∧ H' r = some (.lst (ds'.map V.int)) ∧ D31 ds' ∧ PapV i (hide r H') v4) ⟨v4, z5, z6, none, none, none, ds2, rfl, SB5, hr5, hd4, hP5⟩ ?_ ?_⟩
  · rintro i σ H6 hi ⟨v, w5, w6, w8, w9, w10, ds3, rfl, SB6, hr6, hd6, hP6⟩
    have hi : i < 3 := hi
    obtain ⟨R, L, hPS, lR, lL, hRB, hLB⟩ := hP6.out
    have sh := shB_paper (show i ≤ 3 by omega) lR lL hRB hLB
    obtain ⟨tp, _, _, _, _, rfl, _⟩ := id hPS
    have hP : ∀ {H'}, Same H6 H' → PapS H' (.ref tp) R L := fun S => (hPS.same (hide_same _ _)).same S
    try dsimp only [gName]
    refine ⟨_, rfl, tp, _, rfl, (hP (Same.refl _)).dr, sh.fourW (by decide) (by decide) ?_⟩
    try dsimp only [gName]
    refine ⟨_, rfl, _, rfl, _, rfl, b1, b2, _, many, as, bs, R, L, rfl, hBk1 SB6, hBk2 SB6, by omega, hnnb, by omega, by omega, hP (Same.refl _), fun H7 S7 => ?_⟩
    generalize hq : holdsQ many as bs R L = hold
    try dsimp only [gName]
    refine seq_if (b := false) (lookOr (c := false) (d := false) (.pure fun Q h => ⟨_, rfl, _, _, _, _, rfl, .bl _, kit_bb K, _, rfl, h⟩) (fun _ H8 S8 Q h => ⟨_, rfl, _, rfl, _, rfl, _, rfl, b1, b2, _, many, as, bs, R, L, rfl, hBk1 (bt SB6 (S7.trans S8)), hBk2 (bt SB6 (S7.trans S8)), by omega, by omega, hnna, hnnb, hP (S7.trans S8), by omega, fun H9 S9 => ⟨rfl, _, rfl, (by rw [hq, decide_eq_true rfl]; exact h _ S9)⟩⟩)) fun H8 S8 => iteF ?_
    have S68 := S7.trans S8
    try dsimp only [tNext]
    refine seq_if (b := false) (lookOr (c := false) (d := false) (.pure fun Q h => ⟨_, rfl, tp, _, rfl, (hP S68).dr, sh.fourW (by decide) (by decide) ⟨_, rfl, ne_str' h⟩⟩) (fun _ H9 S9 Q h => ⟨_, rfl, _, rfl, (by show 2 ≤ sizeLine; decide), fun k2 hk2 => ?_⟩)) fun H9 S9 => iteF ?_
    · have Sk := same_new hk2 (.lst [.ref b1, .ref b2])
      have SBk := bt SB6 (S68.trans (S9.trans Sk))
      exact ⟨k2, _, rfl, .lst (SqL.of upd_same) (.cons (hBk1 SBk).dr (.cons (hBk2 SBk).dr .nil)), shK.four (by omega) (by decide) ⟨_, rfl, ne_str' (h _ Sk)⟩⟩
    have S69 := S68.trans S9
    try dsimp only [tNext]
    refine ⟨_, rfl, _, rfl, _, r, ds3, i, rfl, S69 _ _ hr6, hd6, hP6.same (hideS S69), by omega, fun v' ds4 H10 SB10 hr10 hd10 hP10 => ⟨v', _, _, _, _, _, ds4, rfl, fun b o n e => SB10 _ _ n (bt SB6 S69 b o n e), hr10, hd10, hP10⟩⟩
  · rintro σ H6 ⟨v, w5, w6, w8, w9, w10, ds3, rfl, SB6, hr6, hd6, hP6⟩
    exact q _


end
end OL.Q83

namespace OL.Q83
open PySem L2 OL
theorem len1 {us : List Value} (h : us.length = 1) : ∃ x0, us = [x0] := by
  match us, h with
  | [x0], _ => exact ⟨x0, rfl⟩
theorem len2 {us : List Value} (h : us.length = 2) : ∃ x0 x1, us = [x0, x1] := by
  match us, h with
  | [x0, x1], _ => exact ⟨x0, x1, rfl⟩
theorem len3 {us : List Value} (h : us.length = 3) : ∃ x0 x1 x2, us = [x0, x1, x2] := by
  match us, h with
  | [x0, x1, x2], _ => exact ⟨x0, x1, x2, rfl⟩
theorem len4 {us : List Value} (h : us.length = 4) : ∃ x0 x1 x2 x3, us = [x0, x1, x2, x3] := by
  match us, h with
  | [x0, x1, x2, x3], _ => exact ⟨x0, x1, x2, x3, rfl⟩
set_option maxHeartbeats 4000000 in
theorem all_mk {l : PySem.W.OpenLaw} {w : World} {K : PySem.W.Frag} {h : Heap} {mg : Str → Option Value} {fa f0 f1 f2 f3 f4 f5 f6 f7 f8 f9 f10 f11 f12 f13 f14 f15 f16 f17 f18 f19 f20 f21 f22 f23 f24 f25 f26 f27 f28 f29 f30 f31 f32 f33 f34 f35 f36 f37 f38 f39 f40 f41 f42 : Addr} (X : K.In h) (G : h.Ns mainGlobals mg) (hfa : mg "law" = some (.ref fa))
    {od0 an0 od1 an1 od2 an2 od3 an3 od4 an4 od5 an5 od6 an6 od7 an7 od8 an8 od9 an9 od10 an10 od11 an11 od12 an12 od13 an13 od14 an14 od15 an15 od16 an16 od17 an17 od18 an18 od19 an19 od20 an20 od21 an21 od22 an22 od23 an23 od24 an24 od25 an25 od26 an26 od27 an27 od28 an28 od29 an29 od30 an30 od31 an31 od32 an32 od33 an33 od34 an34 od35 an35 od36 an36 od37 an37 od38 an38 od39 an39 od40 an40 od41 an41 od42 an42 : Option Addr} {sl0 sl1 sl2 sl3 sl4 sl5 sl6 sl7 sl8 sl9 sl10 sl11 sl12 sl13 sl14 sl15 sl16 sl17 sl18 sl19 sl20 sl21 sl22 sl23 sl24 sl25 sl26 sl27 sl28 sl29 sl30 sl31 sl32 sl33 sl34 sl35 sl36 sl37 sl38 sl39 sl40 sl41 sl42 : Array (Option Value)} {oc0 kV0 dc0 pm0 cd0 ct0 oc1 kV1 dc1 pm1 cd1 ct1 oc2 kV2 dc2 pm2 cd2 ct2 oc3 kV3 dc3 pm3 cd3 ct3 oc4 kV4 dc4 pm4 cd4 ct4 oc5 kV5 dc5 pm5 cd5 ct5 oc6 kV6 dc6 pm6 cd6 ct6 oc7 kV7 dc7 pm7 cd7 ct7 oc8 kV8 dc8 pm8 cd8 ct8 oc9 kV9 dc9 pm9 cd9 ct9 oc10 kV10 dc10 pm10 cd10 ct10 oc11 kV11 dc11 pm11 cd11 ct11 oc12 kV12 dc12 pm12 cd12 ct12 oc13 kV13 dc13 pm13 cd13 ct13 oc14 kV14 dc14 pm14 cd14 ct14 oc15 kV15 dc15 pm15 cd15 ct15 oc16 kV16 dc16 pm16 cd16 ct16 oc17 kV17 dc17 pm17 cd17 ct17 oc18 kV18 dc18 pm18 cd18 ct18 oc19 kV19 dc19 pm19 cd19 ct19 oc20 kV20 dc20 pm20 cd20 ct20 oc21 kV21 dc21 pm21 cd21 ct21 oc22 kV22 dc22 pm22 cd22 ct22 oc23 kV23 dc23 pm23 cd23 ct23 oc24 kV24 dc24 pm24 cd24 ct24 oc25 kV25 dc25 pm25 cd25 ct25 oc26 kV26 dc26 pm26 cd26 ct26 oc27 kV27 dc27 pm27 cd27 ct27 oc28 kV28 dc28 pm28 cd28 ct28 oc29 kV29 dc29 pm29 cd29 ct29 oc30 kV30 dc30 pm30 cd30 ct30 oc31 kV31 dc31 pm31 cd31 ct31 oc32 kV32 dc32 pm32 cd32 ct32 oc33 kV33 dc33 pm33 cd33 ct33 oc34 kV34 dc34 pm34 cd34 ct34 oc35 kV35 dc35 pm35 cd35 ct35 oc36 kV36 dc36 pm36 cd36 ct36 oc37 kV37 dc37 pm37 cd37 ct37 oc38 kV38 dc38 pm38 cd38 ct38 oc39 kV39 dc39 pm39 cd39 ct39 oc40 kV40 dc40 pm40 cd40 ct40 oc41 kV41 dc41 pm41 cd41 ct41 oc42 kV42 dc42 pm42 cd42 ct42 : Value}
    (a0 : PySem.W.nsIn K mainGlobals "things_below" = some (some (.ref f0))) (l0 : K.lookup f0 = some ⟨oc0, od0, .func (PySem.W.fnOf "things_below" "things_below" (defArgs sTop) (defBody sTop) (defScope sTop) .none kV0 dc0 pm0 an0 cd0 ct0), sl0⟩) (c0 : PySem.W.codeIn K cd0 "things_below" = true) (k0 : PySem.W.keepIn K (.ref f0) = true)
    (a1 : PySem.W.nsIn K mainGlobals "has" = some (some (.ref f1))) (l1 : K.lookup f1 = some ⟨oc1, od1, .func (PySem.W.fnOf "has" "has" (defArgs sHas) (defBody sHas) (defScope sHas) .none kV1 dc1 pm1 an1 cd1 ct1), sl1⟩) (c1 : PySem.W.codeIn K cd1 "has" = true) (k1 : PySem.W.keepIn K (.ref f1) = true)
    (a2 : PySem.W.nsIn K mainGlobals "has_any" = some (some (.ref f2))) (l2 : K.lookup f2 = some ⟨oc2, od2, .func (PySem.W.fnOf "has_any" "has_any" (defArgs sHasAny) (defBody sHasAny) (defScope sHasAny) .none kV2 dc2 pm2 an2 cd2 ct2), sl2⟩) (c2 : PySem.W.codeIn K cd2 "has_any" = true) (k2 : PySem.W.keepIn K (.ref f2) = true)
    (a3 : PySem.W.nsIn K mainGlobals "has_thing" = some (some (.ref f3))) (l3 : K.lookup f3 = some ⟨oc3, od3, .func (PySem.W.fnOf "has_thing" "has_thing" (defArgs sHasT) (defBody sHasT) (defScope sHasT) .none kV3 dc3 pm3 an3 cd3 ct3), sl3⟩) (c3 : PySem.W.codeIn K cd3 "has_thing" = true) (k3 : PySem.W.keepIn K (.ref f3) = true)
    (a4 : PySem.W.nsIn K mainGlobals "without" = some (some (.ref f4))) (l4 : K.lookup f4 = some ⟨oc4, od4, .func (PySem.W.fnOf "without" "without" (defArgs sWithout) (defBody sWithout) (defScope sWithout) .none kV4 dc4 pm4 an4 cd4 ct4), sl4⟩) (c4 : PySem.W.codeIn K cd4 "without" = true) (k4 : PySem.W.keepIn K (.ref f4) = true)
    (a5 : PySem.W.nsIn K mainGlobals "all_lots" = some (some (.ref f5))) (l5 : K.lookup f5 = some ⟨oc5, od5, .func (PySem.W.fnOf "all_lots" "all_lots" (defArgs sAll) (defBody sAll) (defScope sAll) .none kV5 dc5 pm5 an5 cd5 ct5), sl5⟩) (c5 : PySem.W.codeIn K cd5 "all_lots" = true) (k5 : PySem.W.keepIn K (.ref f5) = true)
    (a6 : PySem.W.nsIn K mainGlobals "things_in" = some (some (.ref f6))) (l6 : K.lookup f6 = some ⟨oc6, od6, .func (PySem.W.fnOf "things_in" "things_in" (defArgs sThings) (defBody sThings) (defScope sThings) .none kV6 dc6 pm6 an6 cd6 ct6), sl6⟩) (c6 : PySem.W.codeIn K cd6 "things_in" = true) (k6 : PySem.W.keepIn K (.ref f6) = true)
    (a7 : PySem.W.nsIn K mainGlobals "least_among" = some (some (.ref f7))) (l7 : K.lookup f7 = some ⟨oc7, od7, .func (PySem.W.fnOf "least_among" "least_among" (defArgs s_least_among) (defBody s_least_among) (defScope s_least_among) .none kV7 dc7 pm7 an7 cd7 ct7), sl7⟩) (c7 : PySem.W.codeIn K cd7 "least_among" = true) (k7 : PySem.W.keepIn K (.ref f7) = true)
    (a8 : PySem.W.nsIn K mainGlobals "one_thing_fewer" = some (some (.ref f8))) (l8 : K.lookup f8 = some ⟨oc8, od8, .func (PySem.W.fnOf "one_thing_fewer" "one_thing_fewer" (defArgs sFewer) (defBody sFewer) (defScope sFewer) .none kV8 dc8 pm8 an8 cd8 ct8), sl8⟩) (c8 : PySem.W.codeIn K cd8 "one_thing_fewer" = true) (k8 : PySem.W.keepIn K (.ref f8) = true)
    (a9 : PySem.W.nsIn K mainGlobals "is_place" = some (some (.ref f9))) (l9 : K.lookup f9 = some ⟨oc9, od9, .func (PySem.W.fnOf "is_place" "is_place" (defArgs s_is_place) (defBody s_is_place) (defScope s_is_place) .none kV9 dc9 pm9 an9 cd9 ct9), sl9⟩) (c9 : PySem.W.codeIn K cd9 "is_place" = true) (k9 : PySem.W.keepIn K (.ref f9) = true)
    (a10 : PySem.W.nsIn K mainGlobals "lots_rise" = some (some (.ref f10))) (l10 : K.lookup f10 = some ⟨oc10, od10, .func (PySem.W.fnOf "lots_rise" "lots_rise" (defArgs s_lots_rise) (defBody s_lots_rise) (defScope s_lots_rise) .none kV10 dc10 pm10 an10 cd10 ct10), sl10⟩) (c10 : PySem.W.codeIn K cd10 "lots_rise" = true) (k10 : PySem.W.keepIn K (.ref f10) = true)
    (a11 : PySem.W.nsIn K mainGlobals "count" = some (some (.ref f11))) (l11 : K.lookup f11 = some ⟨oc11, od11, .func (PySem.W.fnOf "count" "count" (defArgs sCount) (defBody sCount) (defScope sCount) .none kV11 dc11 pm11 an11 cd11 ct11), sl11⟩) (c11 : PySem.W.codeIn K cd11 "count" = true) (k11 : PySem.W.keepIn K (.ref f11) = true)
    (a12 : PySem.W.nsIn K mainGlobals "holders" = some (some (.ref f12))) (l12 : K.lookup f12 = some ⟨oc12, od12, .func (PySem.W.fnOf "holders" "holders" (defArgs sHold) (defBody sHold) (defScope sHold) .none kV12 dc12 pm12 an12 cd12 ct12), sl12⟩) (c12 : PySem.W.codeIn K cd12 "holders" = true) (k12 : PySem.W.keepIn K (.ref f12) = true)
    (a13 : PySem.W.nsIn K mainGlobals "counted" = some (some (.ref f13))) (l13 : K.lookup f13 = some ⟨oc13, od13, .func (PySem.W.fnOf "counted" "counted" (defArgs sCounted) (defBody sCounted) (defScope sCounted) .none kV13 dc13 pm13 an13 cd13 ct13), sl13⟩) (c13 : PySem.W.codeIn K cd13 "counted" = true) (k13 : PySem.W.keepIn K (.ref f13) = true)
    (a14 : PySem.W.nsIn K mainGlobals "mark_for" = some (some (.ref f14))) (l14 : K.lookup f14 = some ⟨oc14, od14, .func (PySem.W.fnOf "mark_for" "mark_for" (defArgs s_mark_for) (defBody s_mark_for) (defScope s_mark_for) .none kV14 dc14 pm14 an14 cd14 ct14), sl14⟩) (c14 : PySem.W.codeIn K cd14 "mark_for" = true) (k14 : PySem.W.keepIn K (.ref f14) = true)
    (a15 : PySem.W.nsIn K mainGlobals "marks_are_right" = some (some (.ref f15))) (l15 : K.lookup f15 = some ⟨oc15, od15, .func (PySem.W.fnOf "marks_are_right" "marks_are_right" (defArgs s_marks_are_right) (defBody s_marks_are_right) (defScope s_marks_are_right) .none kV15 dc15 pm15 an15 cd15 ct15), sl15⟩) (c15 : PySem.W.codeIn K cd15 "marks_are_right" = true) (k15 : PySem.W.keepIn K (.ref f15) = true)
    (a16 : PySem.W.nsIn K mainGlobals "mark_is_right" = some (some (.ref f16))) (l16 : K.lookup f16 = some ⟨oc16, od16, .func (PySem.W.fnOf "mark_is_right" "mark_is_right" (defArgs s_mark_is_right) (defBody s_mark_is_right) (defScope s_mark_is_right) .none kV16 dc16 pm16 an16 cd16 ct16), sl16⟩) (c16 : PySem.W.codeIn K cd16 "mark_is_right" = true) (k16 : PySem.W.keepIn K (.ref f16) = true)
    (a17 : PySem.W.nsIn K mainGlobals "parts" = some (some (.ref f17))) (l17 : K.lookup f17 = some ⟨oc17, od17, .func (PySem.W.fnOf "parts" "parts" (defArgs s_parts) (defBody s_parts) (defScope s_parts) .none kV17 dc17 pm17 an17 cd17 ct17), sl17⟩) (c17 : PySem.W.codeIn K cd17 "parts" = true) (k17 : PySem.W.keepIn K (.ref f17) = true)
    (a18 : PySem.W.nsIn K mainGlobals "least_parting" = some (some (.ref f18))) (l18 : K.lookup f18 = some ⟨oc18, od18, .func (PySem.W.fnOf "least_parting" "least_parting" (defArgs s_least_parting) (defBody s_least_parting) (defScope s_least_parting) .none kV18 dc18 pm18 an18 cd18 ct18), sl18⟩) (c18 : PySem.W.codeIn K cd18 "least_parting" = true) (k18 : PySem.W.keepIn K (.ref f18) = true)
    (a19 : PySem.W.nsIn K mainGlobals "parting_paper" = some (some (.ref f19))) (l19 : K.lookup f19 = some ⟨oc19, od19, .func (PySem.W.fnOf "parting_paper" "parting_paper" (defArgs s_parting_paper) (defBody s_parting_paper) (defScope s_parting_paper) .none kV19 dc19 pm19 an19 cd19 ct19), sl19⟩) (c19 : PySem.W.codeIn K cd19 "parting_paper" = true) (k19 : PySem.W.keepIn K (.ref f19) = true)
    (a20 : PySem.W.nsIn K mainGlobals "parting_row" = some (some (.ref f20))) (l20 : K.lookup f20 = some ⟨oc20, od20, .func (PySem.W.fnOf "parting_row" "parting_row" (defArgs s_parting_row) (defBody s_parting_row) (defScope s_parting_row) .none kV20 dc20 pm20 an20 cd20 ct20), sl20⟩) (c20 : PySem.W.codeIn K cd20 "parting_row" = true) (k20 : PySem.W.keepIn K (.ref f20) = true)
    (a21 : PySem.W.nsIn K mainGlobals "lead_for" = some (some (.ref f21))) (l21 : K.lookup f21 = some ⟨oc21, od21, .func (PySem.W.fnOf "lead_for" "lead_for" (defArgs s_lead_for) (defBody s_lead_for) (defScope s_lead_for) .none kV21 dc21 pm21 an21 cd21 ct21), sl21⟩) (c21 : PySem.W.codeIn K cd21 "lead_for" = true) (k21 : PySem.W.keepIn K (.ref f21) = true)
    (a22 : PySem.W.nsIn K mainGlobals "parting_holds" = some (some (.ref f22))) (l22 : K.lookup f22 = some ⟨oc22, od22, .func (PySem.W.fnOf "parting_holds" "parting_holds" (defArgs s_parting_holds) (defBody s_parting_holds) (defScope s_parting_holds) .none kV22 dc22 pm22 an22 cd22 ct22), sl22⟩) (c22 : PySem.W.codeIn K cd22 "parting_holds" = true) (k22 : PySem.W.keepIn K (.ref f22) = true)
    (a23 : PySem.W.nsIn K mainGlobals "parting_row_is_right" = some (some (.ref f23))) (l23 : K.lookup f23 = some ⟨oc23, od23, .func (PySem.W.fnOf "parting_row_is_right" "parting_row_is_right" (defArgs s_parting_row_is_right) (defBody s_parting_row_is_right) (defScope s_parting_row_is_right) .none kV23 dc23 pm23 an23 cd23 ct23), sl23⟩) (c23 : PySem.W.codeIn K cd23 "parting_row_is_right" = true) (k23 : PySem.W.keepIn K (.ref f23) = true)
    (a24 : PySem.W.nsIn K mainGlobals "backs_are_right" = some (some (.ref f24))) (l24 : K.lookup f24 = some ⟨oc24, od24, .func (PySem.W.fnOf "backs_are_right" "backs_are_right" (defArgs s_backs_are_right) (defBody s_backs_are_right) (defScope s_backs_are_right) .none kV24 dc24 pm24 an24 cd24 ct24), sl24⟩) (c24 : PySem.W.codeIn K cd24 "backs_are_right" = true) (k24 : PySem.W.keepIn K (.ref f24) = true)
    (a25 : PySem.W.nsIn K mainGlobals "lead_is_right" = some (some (.ref f25))) (l25 : K.lookup f25 = some ⟨oc25, od25, .func (PySem.W.fnOf "lead_is_right" "lead_is_right" (defArgs s_lead_is_right) (defBody s_lead_is_right) (defScope s_lead_is_right) .none kV25 dc25 pm25 an25 cd25 ct25), sl25⟩) (c25 : PySem.W.codeIn K cd25 "lead_is_right" = true) (k25 : PySem.W.keepIn K (.ref f25) = true)
    (a26 : PySem.W.nsIn K mainGlobals "place_has" = some (some (.ref f26))) (l26 : K.lookup f26 = some ⟨oc26, od26, .func (PySem.W.fnOf "place_has" "place_has" (defArgs s_place_has) (defBody s_place_has) (defScope s_place_has) .none kV26 dc26 pm26 an26 cd26 ct26), sl26⟩) (c26 : PySem.W.codeIn K cd26 "place_has" = true) (k26 : PySem.W.keepIn K (.ref f26) = true)
    (a27 : PySem.W.nsIn K mainGlobals "_law_mix" = some (some (.ref f27))) (l27 : K.lookup f27 = some ⟨oc27, od27, .func (PySem.W.fnOf "_law_mix" "_law_mix" (defArgs s_L_mix) (defBody s_L_mix) (defScope s_L_mix) .none kV27 dc27 pm27 an27 cd27 ct27), sl27⟩) (c27 : PySem.W.codeIn K cd27 "_law_mix" = true) (k27 : PySem.W.keepIn K (.ref f27) = true)
    (a28 : PySem.W.nsIn K mainGlobals "_law_draws" = some (some (.ref f28))) (l28 : K.lookup f28 = some ⟨oc28, od28, .func (PySem.W.fnOf "_law_draws" "_law_draws" (defArgs s_L_draws) (defBody s_L_draws) (defScope s_L_draws) .none kV28 dc28 pm28 an28 cd28 ct28), sl28⟩) (c28 : PySem.W.codeIn K cd28 "_law_draws" = true) (k28 : PySem.W.keepIn K (.ref f28) = true)
    (a29 : PySem.W.nsIn K mainGlobals "_law_pop" = some (some (.ref f29))) (l29 : K.lookup f29 = some ⟨oc29, od29, .func (PySem.W.fnOf "_law_pop" "_law_pop" (defArgs s_L_pop) (defBody s_L_pop) (defScope s_L_pop) .none kV29 dc29 pm29 an29 cd29 ct29), sl29⟩) (c29 : PySem.W.codeIn K cd29 "_law_pop" = true) (k29 : PySem.W.keepIn K (.ref f29) = true)
    (a30 : PySem.W.nsIn K mainGlobals "_law_book" = some (some (.ref f30))) (l30 : K.lookup f30 = some ⟨oc30, od30, .func (PySem.W.fnOf "_law_book" "_law_book" (defArgs s_L_book) (defBody s_L_book) (defScope s_L_book) .none kV30 dc30 pm30 an30 cd30 ct30), sl30⟩) (c30 : PySem.W.codeIn K cd30 "_law_book" = true) (k30 : PySem.W.keepIn K (.ref f30) = true)
    (a31 : PySem.W.nsIn K mainGlobals "_law_things" = some (some (.ref f31))) (l31 : K.lookup f31 = some ⟨oc31, od31, .func (PySem.W.fnOf "_law_things" "_law_things" (defArgs sThingsL) (defBody sThingsL) (defScope sThingsL) .none kV31 dc31 pm31 an31 cd31 ct31), sl31⟩) (c31 : PySem.W.codeIn K cd31 "_law_things" = true) (k31 : PySem.W.keepIn K (.ref f31) = true)
    (a32 : PySem.W.nsIn K mainGlobals "_law_two" = some (some (.ref f32))) (l32 : K.lookup f32 = some ⟨oc32, od32, .func (PySem.W.fnOf "_law_two" "_law_two" (defArgs s_L_two) (defBody s_L_two) (defScope s_L_two) .none kV32 dc32 pm32 an32 cd32 ct32), sl32⟩) (c32 : PySem.W.codeIn K cd32 "_law_two" = true) (k32 : PySem.W.keepIn K (.ref f32) = true)
    (a33 : PySem.W.nsIn K mainGlobals "_law_marks_right" = some (some (.ref f33))) (l33 : K.lookup f33 = some ⟨oc33, od33, .func (PySem.W.fnOf "_law_marks_right" "_law_marks_right" (defArgs s_L_marks_right) (defBody s_L_marks_right) (defScope s_L_marks_right) .none kV33 dc33 pm33 an33 cd33 ct33), sl33⟩) (c33 : PySem.W.codeIn K cd33 "_law_marks_right" = true) (k33 : PySem.W.keepIn K (.ref f33) = true)
    (a34 : PySem.W.nsIn K mainGlobals "_law_at" = some (some (.ref f34))) (l34 : K.lookup f34 = some ⟨oc34, od34, .func (PySem.W.fnOf "_law_at" "_law_at" (defArgs s_L_at) (defBody s_L_at) (defScope s_L_at) .none kV34 dc34 pm34 an34 cd34 ct34), sl34⟩) (c34 : PySem.W.codeIn K cd34 "_law_at" = true) (k34 : PySem.W.keepIn K (.ref f34) = true)
    (a35 : PySem.W.nsIn K mainGlobals "_law_row_right" = some (some (.ref f35))) (l35 : K.lookup f35 = some ⟨oc35, od35, .func (PySem.W.fnOf "_law_row_right" "_law_row_right" (defArgs s_L_row_right) (defBody s_L_row_right) (defScope s_L_row_right) .none kV35 dc35 pm35 an35 cd35 ct35), sl35⟩) (c35 : PySem.W.codeIn K cd35 "_law_row_right" = true) (k35 : PySem.W.keepIn K (.ref f35) = true)
    (a36 : PySem.W.nsIn K mainGlobals "_law_right" = some (some (.ref f36))) (l36 : K.lookup f36 = some ⟨oc36, od36, .func (PySem.W.fnOf "_law_right" "_law_right" (defArgs s_L_right) (defBody s_L_right) (defScope s_L_right) .none kV36 dc36 pm36 an36 cd36 ct36), sl36⟩) (c36 : PySem.W.codeIn K cd36 "_law_right" = true) (k36 : PySem.W.keepIn K (.ref f36) = true)
    (a37 : PySem.W.nsIn K mainGlobals "_law_number" = some (some (.ref f37))) (l37 : K.lookup f37 = some ⟨oc37, od37, .func (PySem.W.fnOf "_law_number" "_law_number" (defArgs s_L_number) (defBody s_L_number) (defScope s_L_number) .none kV37 dc37 pm37 an37 cd37 ct37), sl37⟩) (c37 : PySem.W.codeIn K cd37 "_law_number" = true) (k37 : PySem.W.keepIn K (.ref f37) = true)
    (a38 : PySem.W.nsIn K mainGlobals "_law_in_list" = some (some (.ref f38))) (l38 : K.lookup f38 = some ⟨oc38, od38, .func (PySem.W.fnOf "_law_in_list" "_law_in_list" (defArgs s_L_in_list) (defBody s_L_in_list) (defScope s_L_in_list) .none kV38 dc38 pm38 an38 cd38 ct38), sl38⟩) (c38 : PySem.W.codeIn K cd38 "_law_in_list" = true) (k38 : PySem.W.keepIn K (.ref f38) = true)
    (a39 : PySem.W.nsIn K mainGlobals "_law_row_bent" = some (some (.ref f39))) (l39 : K.lookup f39 = some ⟨oc39, od39, .func (PySem.W.fnOf "_law_row_bent" "_law_row_bent" (defArgs s_L_row_bent) (defBody s_L_row_bent) (defScope s_L_row_bent) .none kV39 dc39 pm39 an39 cd39 ct39), sl39⟩) (c39 : PySem.W.codeIn K cd39 "_law_row_bent" = true) (k39 : PySem.W.keepIn K (.ref f39) = true)
    (a40 : PySem.W.nsIn K mainGlobals "_law_moved" = some (some (.ref f40))) (l40 : K.lookup f40 = some ⟨oc40, od40, .func (PySem.W.fnOf "_law_moved" "_law_moved" (defArgs s_L_moved) (defBody s_L_moved) (defScope s_L_moved) .none kV40 dc40 pm40 an40 cd40 ct40), sl40⟩) (c40 : PySem.W.codeIn K cd40 "_law_moved" = true) (k40 : PySem.W.keepIn K (.ref f40) = true)
    (a41 : PySem.W.nsIn K mainGlobals "_law_bent" = some (some (.ref f41))) (l41 : K.lookup f41 = some ⟨oc41, od41, .func (PySem.W.fnOf "_law_bent" "_law_bent" (defArgs s_L_bent) (defBody s_L_bent) (defScope s_L_bent) .none kV41 dc41 pm41 an41 cd41 ct41), sl41⟩) (c41 : PySem.W.codeIn K cd41 "_law_bent" = true) (k41 : PySem.W.keepIn K (.ref f41) = true)
    (a42 : PySem.W.nsIn K mainGlobals "law" = some (some (.ref f42))) (l42 : K.lookup f42 = some ⟨oc42, od42, .func (PySem.W.fnOf "law" "law" (defArgs s_law) (defBody s_law) (defScope s_law) .none kV42 dc42 pm42 an42 cd42 ct42), sl42⟩) (c42 : PySem.W.codeIn K cd42 "law" = true) (k42 : PySem.W.keepIn K (.ref f42) = true)
    (z_len : PySem.W.nsIn K mainGlobals "len" = some none) (z_range : PySem.W.nsIn K mainGlobals "range" = some none) (z_list : PySem.W.nsIn K mainGlobals "list" = some none) (z_enumerate : PySem.W.nsIn K mainGlobals "enumerate" = some none) (z_zip : PySem.W.nsIn K mainGlobals "zip" = some none) (z_min : PySem.W.nsIn K mainGlobals "min" = some none) (z_str : PySem.W.nsIn K mainGlobals "str" = some none) (z_isinstance : PySem.W.nsIn K mainGlobals "isinstance" = some none) (z_bool : PySem.W.nsIn K mainGlobals "bool" = some none) :
    ∃ fd : FuncData, (∀ (s : Shared) (v : Value), BindsTo s fd ⟨[v], []⟩ [("_law_script", v)]) ∧ ∀ base : Heap, K.In base → base.Ns mainGlobals mg → FnOk l.prog w K mg base CX0 8 fa fd ["_law_script"] (spLaw K) := by
  have e := hfa.symm.trans (PySem.W.mg_of X G a42)
  cases e
  have F0 := fun_mk (st := sTop) l0 c0 k0
  have b0 := F0.binds (ps := ["number"]) fun _ _ _ _ _ _ us hl => by obtain ⟨_, rfl⟩ := len1 hl; rfl
  have m0 := PySem.W.mg_of X G a0
  have F1 := fun_mk (st := sHas) l1 c1 k1
  have b1 := F1.binds (ps := ["one", "other"]) fun _ _ _ _ _ _ us hl => by obtain ⟨_, _, rfl⟩ := len2 hl; rfl
  have m1 := PySem.W.mg_of X G a1
  have F2 := fun_mk (st := sHasAny) l2 c2 k2
  have b2 := F2.binds (ps := ["lot", "others"]) fun _ _ _ _ _ _ us hl => by obtain ⟨_, _, rfl⟩ := len2 hl; rfl
  have m2 := PySem.W.mg_of X G a2
  have F3 := fun_mk (st := sHasT) l3 c3 k3
  have b3 := F3.binds (ps := ["lot", "thing"]) fun _ _ _ _ _ _ us hl => by obtain ⟨_, _, rfl⟩ := len2 hl; rfl
  have m3 := PySem.W.mg_of X G a3
  have F4 := fun_mk (st := sWithout) l4 c4 k4
  have b4 := F4.binds (ps := ["lot", "other"]) fun _ _ _ _ _ _ us hl => by obtain ⟨_, _, rfl⟩ := len2 hl; rfl
  have m4 := PySem.W.mg_of X G a4
  have F5 := fun_mk (st := sAll) l5 c5 k5
  have b5 := F5.binds (ps := ["many"]) fun _ _ _ _ _ _ us hl => by obtain ⟨_, rfl⟩ := len1 hl; rfl
  have m5 := PySem.W.mg_of X G a5
  have F6 := fun_mk (st := sThings) l6 c6 k6
  have b6 := F6.binds (ps := ["lot"]) fun _ _ _ _ _ _ us hl => by obtain ⟨_, rfl⟩ := len1 hl; rfl
  have m6 := PySem.W.mg_of X G a6
  have F7 := fun_mk (st := s_least_among) l7 c7 k7
  have b7 := F7.binds (ps := ["lots"]) fun _ _ _ _ _ _ us hl => by obtain ⟨_, rfl⟩ := len1 hl; rfl
  have m7 := PySem.W.mg_of X G a7
  have F8 := fun_mk (st := sFewer) l8 c8 k8
  have b8 := F8.binds (ps := ["lot"]) fun _ _ _ _ _ _ us hl => by obtain ⟨_, rfl⟩ := len1 hl; rfl
  have m8 := PySem.W.mg_of X G a8
  have F9 := fun_mk (st := s_is_place) l9 c9 k9
  have b9 := F9.binds (ps := ["rows", "place"]) fun _ _ _ _ _ _ us hl => by obtain ⟨_, _, rfl⟩ := len2 hl; rfl
  have m9 := PySem.W.mg_of X G a9
  have F10 := fun_mk (st := s_lots_rise) l10 c10 k10
  have b10 := F10.binds (ps := ["many", "rows"]) fun _ _ _ _ _ _ us hl => by obtain ⟨_, _, rfl⟩ := len2 hl; rfl
  have m10 := PySem.W.mg_of X G a10
  have F11 := fun_mk (st := sCount) l11 c11 k11
  have b11 := F11.binds (ps := ["book", "lot"]) fun _ _ _ _ _ _ us hl => by obtain ⟨_, _, rfl⟩ := len2 hl; rfl
  have m11 := PySem.W.mg_of X G a11
  have F12 := fun_mk (st := sHold) l12 c12 k12
  have b12 := F12.binds (ps := ["book", "lot"]) fun _ _ _ _ _ _ us hl => by obtain ⟨_, _, rfl⟩ := len2 hl; rfl
  have m12 := PySem.W.mg_of X G a12
  have F13 := fun_mk (st := sCounted) l13 c13 k13
  have b13 := F13.binds (ps := ["book", "lots"]) fun _ _ _ _ _ _ us hl => by obtain ⟨_, _, rfl⟩ := len2 hl; rfl
  have m13 := PySem.W.mg_of X G a13
  have F14 := fun_mk (st := s_mark_for) l14 c14 k14
  have b14 := F14.binds (ps := ["basket", "lot"]) fun _ _ _ _ _ _ us hl => by obtain ⟨_, _, rfl⟩ := len2 hl; rfl
  have m14 := PySem.W.mg_of X G a14
  have F15 := fun_mk (st := s_marks_are_right) l15 c15 k15
  have b15 := F15.binds (ps := ["book", "row"]) fun _ _ _ _ _ _ us hl => by obtain ⟨_, _, rfl⟩ := len2 hl; rfl
  have m15 := PySem.W.mg_of X G a15
  have F16 := fun_mk (st := s_mark_is_right) l16 c16 k16
  have b16 := F16.binds (ps := ["basket", "lot", "mark"]) fun _ _ _ _ _ _ us hl => by obtain ⟨_, _, _, rfl⟩ := len3 hl; rfl
  have m16 := PySem.W.mg_of X G a16
  have F17 := fun_mk (st := s_parts) l17 c17 k17
  have b17 := F17.binds (ps := ["one", "other", "lot"]) fun _ _ _ _ _ _ us hl => by obtain ⟨_, _, _, rfl⟩ := len3 hl; rfl
  have m17 := PySem.W.mg_of X G a17
  have F18 := fun_mk (st := s_least_parting) l18 c18 k18
  have b18 := F18.binds (ps := ["one", "other"]) fun _ _ _ _ _ _ us hl => by obtain ⟨_, _, rfl⟩ := len2 hl; rfl
  have m18 := PySem.W.mg_of X G a18
  have F19 := fun_mk (st := s_parting_paper) l19 c19 k19
  have b19 := F19.binds (ps := ["one", "other"]) fun _ _ _ _ _ _ us hl => by obtain ⟨_, _, rfl⟩ := len2 hl; rfl
  have m19 := PySem.W.mg_of X G a19
  have F20 := fun_mk (st := s_parting_row) l20 c20 k20
  have b20 := F20.binds (ps := ["one", "other", "lot"]) fun _ _ _ _ _ _ us hl => by obtain ⟨_, _, _, rfl⟩ := len3 hl; rfl
  have m20 := PySem.W.mg_of X G a20
  have F21 := fun_mk (st := s_lead_for) l21 c21 k21
  have b21 := F21.binds (ps := ["rows", "other", "basket"]) fun _ _ _ _ _ _ us hl => by obtain ⟨_, _, _, rfl⟩ := len3 hl; rfl
  have m21 := PySem.W.mg_of X G a21
  have F22 := fun_mk (st := s_parting_holds) l22 c22 k22
  have b22 := F22.binds (ps := ["one", "other", "paper"]) fun _ _ _ _ _ _ us hl => by obtain ⟨_, _, _, rfl⟩ := len3 hl; rfl
  have m22 := PySem.W.mg_of X G a22
  have F23 := fun_mk (st := s_parting_row_is_right) l23 c23 k23
  have b23 := F23.binds (ps := ["one", "other", "row"]) fun _ _ _ _ _ _ us hl => by obtain ⟨_, _, _, rfl⟩ := len3 hl; rfl
  have m23 := PySem.W.mg_of X G a23
  have F24 := fun_mk (st := s_backs_are_right) l24 c24 k24
  have b24 := F24.binds (ps := ["other", "lot", "backs"]) fun _ _ _ _ _ _ us hl => by obtain ⟨_, _, _, rfl⟩ := len3 hl; rfl
  have m24 := PySem.W.mg_of X G a24
  have F25 := fun_mk (st := s_lead_is_right) l25 c25 k25
  have b25 := F25.binds (ps := ["rows", "other", "basket", "lead"]) fun _ _ _ _ _ _ us hl => by obtain ⟨_, _, _, _, rfl⟩ := len4 hl; rfl
  have m25 := PySem.W.mg_of X G a25
  have F26 := fun_mk (st := s_place_has) l26 c26 k26
  have b26 := F26.binds (ps := ["baskets", "place", "lot"]) fun _ _ _ _ _ _ us hl => by obtain ⟨_, _, _, rfl⟩ := len3 hl; rfl
  have m26 := PySem.W.mg_of X G a26
  have F27 := fun_mk (st := s_L_mix) l27 c27 k27
  have b27 := F27.binds (ps := ["_law_cell", "_law_turn"]) fun _ _ _ _ _ _ us hl => by obtain ⟨_, _, rfl⟩ := len2 hl; rfl
  have m27 := PySem.W.mg_of X G a27
  have F28 := fun_mk (st := s_L_draws) l28 c28 k28
  have b28 := F28.binds (ps := ["_law_script", "_law_turn", "_law_many"]) fun _ _ _ _ _ _ us hl => by obtain ⟨_, _, _, rfl⟩ := len3 hl; rfl
  have m28 := PySem.W.mg_of X G a28
  have F29 := fun_mk (st := s_L_pop) l29 c29 k29
  have b29 := F29.binds (ps := ["_law_draws_here"]) fun _ _ _ _ _ _ us hl => by obtain ⟨_, rfl⟩ := len1 hl; rfl
  have m29 := PySem.W.mg_of X G a29
  have F30 := fun_mk (st := s_L_book) l30 c30 k30
  have b30 := F30.binds (ps := ["_law_draws_here", "_law_most", "_law_at_most"]) fun _ _ _ _ _ _ us hl => by obtain ⟨_, _, _, rfl⟩ := len3 hl; rfl
  have m30 := PySem.W.mg_of X G a30
  have F31 := fun_mk (st := sThingsL) l31 c31 k31
  have b31 := F31.binds (ps := ["_law_lot"]) fun _ _ _ _ _ _ us hl => by obtain ⟨_, rfl⟩ := len1 hl; rfl
  have m31 := PySem.W.mg_of X G a31
  have F32 := fun_mk (st := s_L_two) l32 c32 k32
  have b32 := F32.binds (ps := ["_law_draws_here"]) fun _ _ _ _ _ _ us hl => by obtain ⟨_, rfl⟩ := len1 hl; rfl
  have m32 := PySem.W.mg_of X G a32
  have F33 := fun_mk (st := s_L_marks_right) l33 c33 k33
  have b33 := F33.binds (ps := ["_law_baskets", "_law_lot", "_law_marks"]) fun _ _ _ _ _ _ us hl => by obtain ⟨_, _, _, rfl⟩ := len3 hl; rfl
  have m33 := PySem.W.mg_of X G a33
  have F34 := fun_mk (st := s_L_at) l34 c34 k34
  have b34 := F34.binds (ps := ["_law_baskets", "_law_place", "_law_lot"]) fun _ _ _ _ _ _ us hl => by obtain ⟨_, _, _, rfl⟩ := len3 hl; rfl
  have m34 := PySem.W.mg_of X G a34
  have F35 := fun_mk (st := s_L_row_right) l35 c35 k35
  have b35 := F35.binds (ps := ["_law_one", "_law_other", "_law_row"]) fun _ _ _ _ _ _ us hl => by obtain ⟨_, _, _, rfl⟩ := len3 hl; rfl
  have m35 := PySem.W.mg_of X G a35
  have F36 := fun_mk (st := s_L_right) l36 c36 k36
  have b36 := F36.binds (ps := ["_law_one", "_law_other", "_law_paper"]) fun _ _ _ _ _ _ us hl => by obtain ⟨_, _, _, rfl⟩ := len3 hl; rfl
  have m36 := PySem.W.mg_of X G a36
  have F37 := fun_mk (st := s_L_number) l37 c37 k37
  have b37 := F37.binds (ps := ["_law_number_here", "_law_more"]) fun _ _ _ _ _ _ us hl => by obtain ⟨_, _, rfl⟩ := len2 hl; rfl
  have m37 := PySem.W.mg_of X G a37
  have F38 := fun_mk (st := s_L_in_list) l38 c38 k38
  have b38 := F38.binds (ps := ["_law_numbers", "_law_more"]) fun _ _ _ _ _ _ us hl => by obtain ⟨_, _, rfl⟩ := len2 hl; rfl
  have m38 := PySem.W.mg_of X G a38
  have F39 := fun_mk (st := s_L_row_bent) l39 c39 k39
  have b39 := F39.binds (ps := ["_law_row", "_law_more"]) fun _ _ _ _ _ _ us hl => by obtain ⟨_, _, rfl⟩ := len2 hl; rfl
  have m39 := PySem.W.mg_of X G a39
  have F40 := fun_mk (st := s_L_moved) l40 c40 k40
  have b40 := F40.binds (ps := ["_law_word", "_law_place", "_law_at_here", "_law_many"]) fun _ _ _ _ _ _ us hl => by obtain ⟨_, _, _, _, rfl⟩ := len4 hl; rfl
  have m40 := PySem.W.mg_of X G a40
  have F41 := fun_mk (st := s_L_bent) l41 c41 k41
  have b41 := F41.binds (ps := ["_law_paper", "_law_draws_here"]) fun _ _ _ _ _ _ us hl => by obtain ⟨_, _, rfl⟩ := len2 hl; rfl
  have m41 := PySem.W.mg_of X G a41
  have F42 := fun_mk (st := s_law) l42 c42 k42
  have y_len := PySem.W.mg_none_of X G z_len
  have y_range := PySem.W.mg_none_of X G z_range
  have y_list := PySem.W.mg_none_of X G z_list
  have y_enumerate := PySem.W.mg_none_of X G z_enumerate
  have y_zip := PySem.W.mg_none_of X G z_zip
  have y_min := PySem.W.mg_none_of X G z_min
  have y_str := PySem.W.mg_none_of X G z_str
  have y_isinstance := PySem.W.mg_none_of X G z_isinstance
  have y_bool := PySem.W.mg_none_of X G z_bool
  refine ⟨PySem.W.fnOf "law" "law" (defArgs s_law) (defBody s_law) (defScope s_law) .none kV42 dc42 pm42 an42 cd42 ct42, fun s v => .of_eq rfl, fun base _ _ => ?_⟩
  have D0 : Dfn l.prog w K mg base 1 _ _ _ := ok_top F0 b0 m0 
  have D1 : Dfn l.prog w K mg base 1 _ _ _ := ok_has F1 b1 m1 
  have D4 : Dfn l.prog w K mg base 1 _ _ _ := ok_without F4 b4 m4 
  have D9 : Dfn l.prog w K mg base 1 _ _ _ := ok_is_place F9 b9 m9 y_len
  have D27 : Dfn l.prog w K mg base 1 _ _ _ := ok_L_mix F27 b27 m27 
  have D29 : Dfn l.prog w K mg base 1 _ _ _ := ok_L_pop F29 b29 m29 
  have D31 : Dfn l.prog w K mg base 1 _ _ _ := ok_th12 F31 b31 m31 y_range
  have D34 : Dfn l.prog w K mg base 1 _ _ _ := ok_L_at F34 b34 m34 y_len
  have D37 : Dfn l.prog w K mg base 1 _ _ _ := ok_L_number F37 b37 m37 
  have D40 : Dfn l.prog w K mg base 1 _ _ _ := ok_L_moved F40 b40 m40 
  have D2 : Dfn l.prog w K mg base 2 _ _ _ := ok_hasany F2 b2 m2 D1
  have D3 : Dfn l.prog w K mg base 2 _ _ _ := ok_hasT F3 b3 m3 D1
  have D5 : Dfn l.prog w K mg base 2 _ _ _ := ok_all F5 b5 m5 y_list y_range D0
  have D10 : Dfn l.prog w K mg base 2 _ _ _ := ok_lots_rise F10 b10 m10 D0
  have D12 : Dfn l.prog w K mg base 2 _ _ _ := ok_hold F12 b12 m12 y_enumerate D1
  have D26 : Dfn l.prog w K mg base 2 _ _ _ := ok_place_has F26 b26 m26 D1 D9
  have D28 : Dfn l.prog w K mg base 2 _ _ _ := ok_L_draws F28 b28 m28 y_range y_len D27
  have D30 : Dfn l.prog w K mg base 2 _ _ _ := ok_L_book F30 b30 m30 y_range y_len D29
  have D33 : Dfn l.prog w K mg base 2 _ _ _ := ok_L_marks_right F33 b33 m33 y_len y_zip D31
  have D38 : Dfn l.prog w K mg base 2 _ _ _ := ok_L_in_list F38 b38 m38 y_len D37
  have D6 : Dfn l.prog w K mg base 3 _ _ _ := ok_things F6 b6 m6 y_range D3
  have D7 : Dfn l.prog w K mg base 3 _ _ _ := ok_least_among F7 b7 m7 D2
  have D11 : Dfn l.prog w K mg base 3 _ _ _ := ok_count F11 b11 m11 y_len D12
  have D21 : Dfn l.prog w K mg base 3 _ _ _ := ok_lead_for F21 b21 m21 y_enumerate (D1.mono (by decide)) D12
  have D25 : Dfn l.prog w K mg base 3 _ _ _ := ok_lead_is_right F25 b25 m25 (D1.mono (by decide)) (D9.mono (by decide)) D26
  have D32 : Dfn l.prog w K mg base 3 _ _ _ := ok_L_two F32 b32 m32 y_len D30 (D29.mono (by decide))
  have D35 : Dfn l.prog w K mg base 3 _ _ _ := ok_L_row_right F35 b35 m35 y_len y_range (D34.mono (by decide)) D33 (D31.mono (by decide))
  have D39 : Dfn l.prog w K mg base 3 _ _ _ := ok_L_row_bent F39 b39 m39 (D37.mono (by decide)) D38
  have D8 : Dfn l.prog w K mg base 4 _ _ _ := ok_fewer F8 b8 m8 D6
  have D13 : Dfn l.prog w K mg base 4 _ _ _ := ok_counted F13 b13 m13 D11
  have D14 : Dfn l.prog w K mg base 4 _ _ _ := ok_mark_for F14 b14 m14 y_min D6 (D4.mono (by decide))
  have D16 : Dfn l.prog w K mg base 4 _ _ _ := ok_mark_is_right F16 b16 m16 (D1.mono (by decide)) D6 (D4.mono (by decide))
  have D17 : Dfn l.prog w K mg base 4 _ _ _ := ok_parts F17 b17 m17 D11
  have D36 : Dfn l.prog w K mg base 4 _ _ _ := ok_L_right F36 b36 m36 y_len y_range y_zip D35 (D34.mono (by decide))
  have D41 : Dfn l.prog w K mg base 4 _ _ _ := ok_L_bent F41 b41 m41 y_len (D29.mono (by decide)) D39 (D40.mono (by decide)) (D37.mono (by decide))
  have D15 : Dfn l.prog w K mg base 5 _ _ _ := ok_marks_are_right F15 b15 m15 y_len y_zip D16
  have D18 : Dfn l.prog w K mg base 5 _ _ _ := ok_least_parting F18 b18 m18 D13 (D7.mono (by decide)) D17 (D5.mono (by decide))
  have D20 : Dfn l.prog w K mg base 5 _ _ _ := ok_parting_row F20 b20 m20 D14 D8 (D12.mono (by decide))
  have D24 : Dfn l.prog w K mg base 5 _ _ _ := ok_backs_are_right F24 b24 m24 y_len y_zip D8 (D26.mono (by decide))
  have D19 : Dfn l.prog w K mg base 6 _ _ _ := ok_parting_paper F19 b19 m19 D18 D20 (D21.mono (by decide))
  have D23 : Dfn l.prog w K mg base 6 _ _ _ := ok_parting_row_is_right F23 b23 m23 (D26.mono (by decide)) D24 D15
  have D22 : Dfn l.prog w K mg base 7 _ _ _ := ok_parting_holds F22 b22 m22 y_len y_zip (D10.mono (by decide)) D23 (D25.mono (by decide))
  exact ok_law F42 y_str y_range y_isinstance y_bool (D28.mono (by decide)) (D32.mono (by decide)) (D19.mono (by decide)) (D29.mono (by decide)) D22 (D36.mono (by decide)) (D41.mono (by decide))
theorem walk {l : PySem.W.OpenLaw} {q : Program} {loose : List Str} {XP : (Str → Option Value) → Heap → Prop} {YP : World → Heap → Prop} {d : DefRec} {K : Params → PySem.W.Frag} (hn : l.most = some 63) (hdf : d.params.defaults = [])
    (hY : ∀ (w : World) (h : Heap), YP w h → (K w.params).In h)
    (F : ∀ (w : World) (mg : Str → Option Value) (fa : Addr) (h : Heap), (K w.params).In h → h.Ns mainGlobals mg → mg d.name = some (.ref fa) →
      ∃ fd : FuncData, (∀ (s : Shared) (u : Value), BindsTo s fd ⟨[u], []⟩ [("_law_script", u)]) ∧ ∀ base : Heap, (K w.params).In base → base.Ns mainGlobals mg → FnOk l.prog w (K w.params) mg base CX0 8 fa fd ["_law_script"] (spLaw (K w.params))) :
    PySem.W.WalkO q loose XP YP l.row.toRowW d [] (fun f vs => PySem.call f vs) :=
  L2.walk_of (n := 63) (k := 8) (x := "_law_script") (CX := fun _ => CX0) (sp := fun w => spLaw (K w.params)) hn (by decide) hdf ⟨rfl, by decide, by decide, rfl⟩ hY F (fun _ _ a ns hl _ hS => ⟨a, ns, rfl, hS, hl, fun _ => rfl⟩) fun _ _ _ _ _ z => z
end OL.Q83
open PySem PySem.W PyProof.Rows
set_option maxRecDepth 100000 in
set_option maxHeartbeats 0 in
theorem PySem.Challenge.cw_oftenlots_k83_parting_papers_looked_at_holds : PySem.Challenge.rw_oftenlots_k83_parting_papers_looked_at.Holds := by
  w_on; o_law; k_head; (case hw => w_witness2)
  k_fill
  refine OL.Q83.walk (l := PySem.Challenge.rw_oftenlots_k83_parting_papers_looked_at) rfl rfl (fun w h Y => PySem.W.kIn_of Y) ?F
  case F =>
    intro w mg fa h KX G hmg
    refine' OL.Q83.all_mk KX G hmg ?a0 ?l0 ?c0 ?k0 ?a1 ?l1 ?c1 ?k1 ?a2 ?l2 ?c2 ?k2 ?a3 ?l3 ?c3 ?k3 ?a4 ?l4 ?c4 ?k4 ?a5 ?l5 ?c5 ?k5 ?a6 ?l6 ?c6 ?k6 ?a7 ?l7 ?c7 ?k7 ?a8 ?l8 ?c8 ?k8 ?a9 ?l9 ?c9 ?k9 ?a10 ?l10 ?c10 ?k10 ?a11 ?l11 ?c11 ?k11 ?a12 ?l12 ?c12 ?k12 ?a13 ?l13 ?c13 ?k13 ?a14 ?l14 ?c14 ?k14 ?a15 ?l15 ?c15 ?k15 ?a16 ?l16 ?c16 ?k16 ?a17 ?l17 ?c17 ?k17 ?a18 ?l18 ?c18 ?k18 ?a19 ?l19 ?c19 ?k19 ?a20 ?l20 ?c20 ?k20 ?a21 ?l21 ?c21 ?k21 ?a22 ?l22 ?c22 ?k22 ?a23 ?l23 ?c23 ?k23 ?a24 ?l24 ?c24 ?k24 ?a25 ?l25 ?c25 ?k25 ?a26 ?l26 ?c26 ?k26 ?a27 ?l27 ?c27 ?k27 ?a28 ?l28 ?c28 ?k28 ?a29 ?l29 ?c29 ?k29 ?a30 ?l30 ?c30 ?k30 ?a31 ?l31 ?c31 ?k31 ?a32 ?l32 ?c32 ?k32 ?a33 ?l33 ?c33 ?k33 ?a34 ?l34 ?c34 ?k34 ?a35 ?l35 ?c35 ?k35 ?a36 ?l36 ?c36 ?k36 ?a37 ?l37 ?c37 ?k37 ?a38 ?l38 ?c38 ?k38 ?a39 ?l39 ?c39 ?k39 ?a40 ?l40 ?c40 ?k40 ?a41 ?l41 ?c41 ?k41 ?a42 ?l42 ?c42 ?k42 ?z_len ?z_range ?z_list ?z_enumerate ?z_zip ?z_min ?z_str ?z_isinstance ?z_bool
    (case a0 => k_is)
    (case l0 => k_is)
    (case c0 => k_is)
    (case k0 => k_is)
    (case a1 => k_is)
    (case l1 => k_is)
    (case c1 => k_is)
    (case k1 => k_is)
    (case a2 => k_is)
    (case l2 => k_is)
    (case c2 => k_is)
    (case k2 => k_is)
    (case a3 => k_is)
    (case l3 => k_is)
    (case c3 => k_is)
    (case k3 => k_is)
    (case a4 => k_is)
    (case l4 => k_is)
    (case c4 => k_is)
    (case k4 => k_is)
    (case a5 => k_is)
    (case l5 => k_is)
    (case c5 => k_is)
    (case k5 => k_is)
    (case a6 => k_is)
    (case l6 => k_is)
    (case c6 => k_is)
    (case k6 => k_is)
    (case a7 => k_is)
    (case l7 => k_is)
    (case c7 => k_is)
    (case k7 => k_is)
    (case a8 => k_is)
    (case l8 => k_is)
    (case c8 => k_is)
    (case k8 => k_is)
    (case a9 => k_is)
    (case l9 => k_is)
    (case c9 => k_is)
    (case k9 => k_is)
    (case a10 => k_is)
    (case l10 => k_is)
    (case c10 => k_is)
    (case k10 => k_is)
    (case a11 => k_is)
    (case l11 => k_is)
    (case c11 => k_is)
    (case k11 => k_is)
    (case a12 => k_is)
    (case l12 => k_is)
    (case c12 => k_is)
    (case k12 => k_is)
    (case a13 => k_is)
    (case l13 => k_is)
    (case c13 => k_is)
    (case k13 => k_is)
    (case a14 => k_is)
    (case l14 => k_is)
    (case c14 => k_is)
    (case k14 => k_is)
    (case a15 => k_is)
    (case l15 => k_is)
    (case c15 => k_is)
    (case k15 => k_is)
    (case a16 => k_is)
    (case l16 => k_is)
    (case c16 => k_is)
    (case k16 => k_is)
    (case a17 => k_is)
    (case l17 => k_is)
    (case c17 => k_is)
    (case k17 => k_is)
    (case a18 => k_is)
    (case l18 => k_is)
    (case c18 => k_is)
    (case k18 => k_is)
    (case a19 => k_is)
    (case l19 => k_is)
    (case c19 => k_is)
    (case k19 => k_is)
    (case a20 => k_is)
    (case l20 => k_is)
    (case c20 => k_is)
    (case k20 => k_is)
    (case a21 => k_is)
    (case l21 => k_is)
    (case c21 => k_is)
    (case k21 => k_is)
    (case a22 => k_is)
    (case l22 => k_is)
    (case c22 => k_is)
    (case k22 => k_is)
    (case a23 => k_is)
    (case l23 => k_is)
    (case c23 => k_is)
    (case k23 => k_is)
    (case a24 => k_is)
    (case l24 => k_is)
    (case c24 => k_is)
    (case k24 => k_is)
    (case a25 => k_is)
    (case l25 => k_is)
    (case c25 => k_is)
    (case k25 => k_is)
    (case a26 => k_is)
    (case l26 => k_is)
    (case c26 => k_is)
    (case k26 => k_is)
    (case a27 => k_is)
    (case l27 => k_is)
    (case c27 => k_is)
    (case k27 => k_is)
    (case a28 => k_is)
    (case l28 => k_is)
    (case c28 => k_is)
    (case k28 => k_is)
    (case a29 => k_is)
    (case l29 => k_is)
    (case c29 => k_is)
    (case k29 => k_is)
    (case a30 => k_is)
    (case l30 => k_is)
    (case c30 => k_is)
    (case k30 => k_is)
    (case a31 => k_is)
    (case l31 => k_is)
    (case c31 => k_is)
    (case k31 => k_is)
    (case a32 => k_is)
    (case l32 => k_is)
    (case c32 => k_is)
    (case k32 => k_is)
    (case a33 => k_is)
    (case l33 => k_is)
    (case c33 => k_is)
    (case k33 => k_is)
    (case a34 => k_is)
    (case l34 => k_is)
    (case c34 => k_is)
    (case k34 => k_is)
    (case a35 => k_is)
    (case l35 => k_is)
    (case c35 => k_is)
    (case k35 => k_is)
    (case a36 => k_is)
    (case l36 => k_is)
    (case c36 => k_is)
    (case k36 => k_is)
    (case a37 => k_is)
    (case l37 => k_is)
    (case c37 => k_is)
    (case k37 => k_is)
    (case a38 => k_is)
    (case l38 => k_is)
    (case c38 => k_is)
    (case k38 => k_is)
    (case a39 => k_is)
    (case l39 => k_is)
    (case c39 => k_is)
    (case k39 => k_is)
    (case a40 => k_is)
    (case l40 => k_is)
    (case c40 => k_is)
    (case k40 => k_is)
    (case a41 => k_is)
    (case l41 => k_is)
    (case c41 => k_is)
    (case k41 => k_is)
    (case a42 => k_is)
    (case l42 => k_is)
    (case c42 => k_is)
    (case k42 => k_is)
    (case z_len => k_is)
    (case z_range => k_is)
    (case z_list => k_is)
    (case z_enumerate => k_is)
    (case z_zip => k_is)
    (case z_min => k_is)
    (case z_str => k_is)
    (case z_isinstance => k_is)
    (case z_bool => k_is)
#print axioms PySem.Challenge.cw_oftenlots_k83_parting_papers_looked_at_holds
