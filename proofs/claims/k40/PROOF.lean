import PyProof.Rows.All
import Wide.All
import OpenK.AllK
import Wide.FinOn
import Lean
import PyProof.EqAt
import PyProof.EqKinds
import PyProof.TupleCall
import PyProof.Rows.SortShellK
import KE.KSortTup
import PyProof.AttrMissHeap
import KE.KDictOf
import KE.KDictSum
import KE.KRevSl
import KE.KItemsList
import PyProof.ReprBulk
import PyProof.Rows.ZipGen
import PyProof.ListRange
import KE.KDictList
import PyProof.StrBlockH
import PyProof.StrLawsChain
import PyProof.Rows.StrItems
import PyProof.Rows.StrSplitCount
import PyProof.Rows.StrJoin2
import PyProof.SliceStr2
import PyProof.Rows.StrClose
import PyProof.Rows.CatFin
import PyProof.StrBlock2
import PyProof.Rows.SortStr
import PyProof.StrWalks
import PySem.Challenge.RW_oftenlots_k40_whole_texts_led_about
set_option Elab.async false
set_option linter.all false
set_option maxRecDepth 100000

/-! THE HAND LAYER, for ints, bools, texts, own classes, LISTS and tuples (index, slices, in, append, pop ..), calls, loops. Paste it whole ahead of your own text; what your proof does not reach may be deleted. -/
namespace L2
open PySem PySem.Spec PyProof.Rows

/-- a key: an int or a str -/
abbrev Key := Sum Int Str
def keyIs : Key → Value → Bool
  | .inl k, v => Value.isInt k v
  | .inr x, v => Value.isStrOf x v
def keyH (w : World) : Key → Int
  | .inl k => hashInt k
  | .inr x => hashStr w x
theorem keyIs_shape : ∀ {k : Key} {v : Value}, keyIs k v = true → (∃ i t, k = Sum.inl i ∧ v = Value.int i t) ∨ (∃ x t, k = Sum.inr x ∧ v = Value.str x t)
  | .inl i, v, h => by
    obtain ⟨t, e⟩ := Value.isInt_shape (k := i) (v := v) h
    exact .inl ⟨i, t, rfl, e⟩
  | .inr x, v, h => by
    obtain ⟨t, e⟩ := Value.isStrOf_shape (x := x) (v := v) h
    exact .inr ⟨x, t, rfl, e⟩
theorem key_ll (a b : Int) : decide ((Sum.inl a : Key) = Sum.inl b) = (a == b) := by
  by_cases e : a = b
  · subst e; simp
  · have h : ¬ (Sum.inl a : Key) = Sum.inl b := fun q => e (Sum.inl.inj q)
    rw [decide_eq_false h]
    exact (beq_eq_false_iff_ne.mpr e).symm
theorem key_rr (a b : Str) : decide ((Sum.inr a : Key) = Sum.inr b) = decide (a = b) := by
  by_cases e : a = b
  · subst e; simp
  · have h : ¬ (Sum.inr a : Key) = Sum.inr b := fun q => e (Sum.inr.inj q)
    rw [decide_eq_false h, decide_eq_false e]
theorem key_lr (a : Int) (b : Str) : decide ((Sum.inl a : Key) = Sum.inr b) = false := decide_eq_false (fun q => nomatch q)
theorem key_rl (a : Str) (b : Int) : decide ((Sum.inr a : Key) = Sum.inl b) = false := decide_eq_false (fun q => nomatch q)

def mixKind (prog : Program) (w : World) : PySem.KeyKind prog w Key where
  is := keyIs
  hash := keyH w
  inj := fun v a b ha hb => by
    rcases keyIs_shape ha with ⟨i, t, rfl, rfl⟩ | ⟨x, t, rfl, rfl⟩
    · rcases keyIs_shape hb with ⟨j, u, rfl, e⟩ | ⟨y, u, rfl, e⟩
      · injection e with e1 _; rw [e1]
      · exact nomatch e
    · rcases keyIs_shape hb with ⟨j, u, rfl, e⟩ | ⟨y, u, rfl, e⟩
      · exact nomatch e
      · injection e with e1 _; rw [e1]
  byValue := fun k v h => by
    rcases keyIs_shape h with ⟨i, t, rfl, rfl⟩ | ⟨x, t, rfl, rfl⟩ <;> rfl
  pyHash := fun hv h => by
    rcases keyIs_shape hv with ⟨i, t, rfl, rfl⟩ | ⟨x, t, rfl, rfl⟩
    · exact wpAny_pyHash_int h
    · exact wpAny_pyHash_str h
  eqBool := fun hu hv h => by
    rcases keyIs_shape hu with ⟨i, t, rfl, rfl⟩ | ⟨x, t, rfl, rfl⟩
    · rcases keyIs_shape hv with ⟨j, u, rfl, rfl⟩ | ⟨y, u, rfl, rfl⟩
      · rw [key_ll] at h; exact wpAny_eqBool_int h
      · rw [key_lr] at h; exact SeqAt.EqAt.int_str i t y u _ _ _ _ h
    · rcases keyIs_shape hv with ⟨j, u, rfl, rfl⟩ | ⟨y, u, rfl, rfl⟩
      · rw [key_rl] at h; exact SeqAt.EqAt.str_int x t j u _ _ _ _ h
      · rw [key_rr] at h; exact wpAny_eqBool_str h
  «strs» := fun k x t v h => by
    rcases keyIs_shape h with ⟨i, u, rfl, e⟩ | ⟨y, u, rfl, e⟩
    · exact nomatch e
    · injection e with e1 _
      subst e1
      cases v <;> rfl

end L2

namespace L2
open PySem PySem.Spec PyProof.Rows

/-- a value, without the heap -/
inductive V where
  | non | bl (b : Bool) | int (i : Int) | str (x : Str) | byt (b : Array UInt8) | flt (b : UInt64) | ref (a : Addr) | ty (n : String)
  deriving DecidableEq

def RelV : V → Value → Prop
  | .non, u => u = Value.none
  | .bl b, u => u = Value.bool b
  | .int i, u => ∃ t, u = Value.int i t
  | .str x, u => ∃ t, u = Value.str x t
  | .byt b, u => ∃ t, u = Value.bytes b t
  | .flt b, u => ∃ t, u = Value.float b t
  | .ref a, u => u = Value.ref a
  | .ty n, u => u = Value.type n

abbrev Vals : List V → List Value → Prop := Paired RelV
theorem Vals.length {xs : List V} {us : List Value} (r : Vals xs us) : xs.length = us.length := Paired.length r
theorem Vals.get : ∀ {xs : List V} {us : List Value} {i : Nat} {x : V}, Vals xs us → xs[i]? = some x → ∃ u, us[i]? = some u ∧ RelV x u
  | _, _, _, _, .nil, e => by simp at e
  | _, _, 0, _, .cons r _, e => by simp at e; subst e; exact ⟨_, rfl, r⟩
  | _, _, i + 1, x, .cons _ t, e => by
    obtain ⟨u, h1, h2⟩ := Vals.get (i := i) (x := x) t (by simpa using e)
    exact ⟨u, by simpa using h1, h2⟩
theorem Vals.set {x : V} {u : Value} (r : RelV x u) : ∀ {xs : List V} {us : List Value} (i : Nat), Vals xs us → Vals (xs.set i x) (us.set i u)
  | _, _, _, .nil => .nil
  | _, _, 0, .cons _ t => .cons r t
  | _, _, i + 1, .cons q t => .cons q (Vals.set r i t)
theorem Vals.append : ∀ {xs ys : List V} {us ws : List Value}, Vals xs us → Vals ys ws → Vals (xs ++ ys) (us ++ ws)
  | _, _, _, _, .nil, s => s
  | _, _, _, _, .cons r t, s => .cons r (Vals.append t s)
theorem Vals.take : ∀ {xs : List V} {us : List Value} (n : Nat), Vals xs us → Vals (xs.take n) (us.take n)
  | _, _, 0, _ => .nil
  | _, _, _ + 1, .nil => .nil
  | _, _, n + 1, .cons r t => .cons r (Vals.take n t)
theorem Vals.drop : ∀ {xs : List V} {us : List Value} (n : Nat), Vals xs us → Vals (xs.drop n) (us.drop n)
  | _, _, 0, r => r
  | _, _, _ + 1, .nil => .nil
  | _, _, n + 1, .cons _ t => Vals.drop n t
def RelO : Option V → Option Value → Prop
  | some v, some u => RelV v u
  | none, none => True
  | _, _ => False
def KV {κ : Type} : List (κ × V) → List (κ × Value) → Prop := Paired fun (p : κ × V) (q : κ × Value) => p.1 = q.1 ∧ RelV p.2 q.2

/-- a key of a dict (00_mix): an int or a text -/
def kV : Key → V
  | .inl i => .int i
  | .inr x => .str x

/-- what stands at a tracked address -/
inductive HO where
  /-- a list -/
  | lst (xs : List V)
  /-- a tuple (never changes) -/
  | tup (xs : List V)
  /-- a dict whose keys are ints and texts; one whose keys are tuples of ints and texts (the empty one is both) -/
  | dK (kvs : List (Key × V)) | dT (kvs : List (List Key × V))
  /-- a set of ints: its members, its size -/
  | set (S : Int → Bool) (n : Nat)
  /-- an instance of the class at C, its dict at dx, its attributes -/
  | ins (C dx : Addr) (fs : List (Str × V))
  /-- the dict of the instance at x -/
  | own (x : Addr)
  /-- the dict of an exception -/
  | xd (fs : List (Str × V))
  /-- a bound method, f of x -/
  | met (f x : Addr)
  /-- a range object lo, lo + 1, .. below hi -/
  | rng (lo hi : Int)
  /-- a thing that is known to the object (the script; a dict while a loop walks it): read, never written while it is so -/
  | frz (o : Obj) (u : HO)
  /-- a code object's table -/
  | tbl (ps : Array Value)
  /-- any other thing, by what is true of its one object (a def of one's own: SetO a S n := HO.ext fun h => ..) -/
  | ext (φ : Heap → Prop)

abbrev Hp := Addr → Option HO
def upd (H : Hp) (a : Addr) (o : HO) : Hp := fun b => if b = a then some o else H b
theorem upd_same {H : Hp} {a : Addr} {o : HO} : upd H a o a = some o := by unfold upd; rw [if_pos rfl]
theorem upd_ne {H : Hp} {a b : Addr} {o : HO} (h : b ≠ a) : upd H a o b = H b := by unfold upd; rw [if_neg h]
/-- two objects of different content stand apart -/
theorem ne_of {H : Hp} {a b : Addr} {o u : HO} (h : H a = some o) (h' : H b = some u) (d : o ≠ u) : a ≠ b := by
  intro e; subst e; rw [h] at h'; exact d (Option.some.inj h')
theorem ne_of_none {H : Hp} {a b : Addr} {o : HO} (h : H a = some o) (h' : H b = none) : a ≠ b := by
  intro e; subst e; rw [h] at h'; cases h'

section
variable (P : Program) (w : World)
def ObjOk (H : Hp) (h : Heap) (a : Addr) : HO → Prop
  | .lst xs => xs.length ≤ sizeLine ∧ ∃ (its : List Value) (n : Nat), Vals xs its ∧ h.get? a = some { cls := .type "list", data := .seq its.toArray n }
  | .tup xs => xs.length ≤ sizeLine ∧ ∃ its : List Value, Vals xs its ∧ IsTup h a its.toArray
  | .dK kvs => kvs.length ≤ sizeLine ∧ (a == sysModules) = false ∧ ∃ vs, KV kvs vs ∧ h.DictOf (mixKind P w) a vs
  | .dT kvs => kvs.length ≤ sizeLine ∧ (a == sysModules) = false ∧ ∃ xs : List (List Key × Addr × Value),
      Paired (fun (p : List Key × V) (q : List Key × Addr × Value) => p.1 = q.1 ∧ H q.2.1 = some (.tup (p.1.map kV)) ∧ RelV p.2 q.2.2) kvs xs ∧
      ∃ o es ep, h.get? a = some o ∧ o.ExactDict ∧ o.data = .dict es ep ∧ es.toList = xs.map (entryOfKey (tupleKind (mixKind P w))) ∧ (xs.map (·.1)).Nodup
  | .set S n => h.SetOf (intKind P w) a S n
  | .ins C dx fs => H dx = some (.own a) ∧ fs.length ≤ 1000 ∧ dx ≠ a ∧ h.get? a = some (PySem.W.instObj C dx) ∧
      ∃ mA, h.Ns1 dx mA ∧ (∀ f, RelO (fs.lookup f) (mA f)) ∧ PySem.Within mA (fs.map (·.1))
  | .own _ => ∃ o, h.get? a = some o
  | .xd fs => ∃ mA, h.Ns1 a mA ∧ ∀ f, RelO (fs.lookup f) (mA f)
  | .rng lo hi => ∃ t u v, h.get? a = some { cls := .type "range", data := .fields #[.int lo t, .int hi u, .int 1 v] }
  | .frz o u => h.get? a = some o ∧ ObjOk H h a u
  | .tbl ps => h.get? a = some { cls := .none, data := .fields ps }
  | .met f x => h.get? a = some (PySem.W.methodObj (.ref f) (.ref x))
  | .ext φ => φ h ∧ (∃ o, h.get? a = some o) ∧ ∀ h1 h2 : Heap, φ h1 → (∀ o, h1.get? a = some o → h2.get? a = some o) → φ h2
/-- the abstract heap is held -/
def HOk (H : Hp) (h : Heap) : Prop := ∀ a o, H a = some o → ObjOk P w H h a o
end

section
variable {P : Program} {w : World} {H H' : Hp} {h h' : Heap} {a : Addr} {o : HO}
theorem ObjOk.lt (x : ObjOk P w H h a o) : a < h.objs.size := by
  cases o with
  | lst xs => obtain ⟨_, _, _, _, e⟩ := x; exact Heap.lt_size e
  | tup xs => obtain ⟨_, _, _, p⟩ := x; exact p.lt
  | dK kvs => obtain ⟨_, _, _, _, o, _, _, e, _⟩ := x; exact Heap.lt_size e
  | dT kvs => obtain ⟨_, _, _, _, o, _, _, e, _⟩ := x; exact Heap.lt_size e
  | set S n => obtain ⟨o, _, _, _, e, _⟩ := x; exact Heap.lt_size e
  | ins C dx fs => obtain ⟨_, _, _, e, _⟩ := x; exact Heap.lt_size e
  | own y => obtain ⟨_, e⟩ := x; exact Heap.lt_size e
  | xd fs => obtain ⟨_, ⟨_, _, _, e, _⟩, _⟩ := x; exact Heap.lt_size e
  | rng lo hi => obtain ⟨_, _, _, e⟩ := x; exact Heap.lt_size e
  | frz ob u => obtain ⟨e, _⟩ := x; exact Heap.lt_size e
  | tbl ps => exact Heap.lt_size (show h.get? a = some _ from x)
  | met f y => exact Heap.lt_size (show h.get? a = some _ from x)
  | ext φ => obtain ⟨_, ⟨_, e⟩, _⟩ := x; exact Heap.lt_size e
theorem Paired.mapP {α β : Type} {F G : α → β → Prop} : ∀ {l₁ : List α} {l₂ : List β}, Paired F l₁ l₂ → (∀ a b, F a b → G a b) → Paired G l₁ l₂
  | _, _, .nil, _ => .nil
  | _, _, .cons r t, f => .cons (f _ _ r) (Paired.mapP t f)
theorem Paired.imp' {α β : Type} {F G : α → β → Prop} (f : ∀ a b, F a b → G a b) {l₁ : List α} {l₂ : List β} (r : Paired F l₁ l₂) : Paired G l₁ l₂ := Paired.mapP r f
/-- what an object's description leans on: its own object, its own dict, the tuples -/
theorem ObjOk.stay (x : ObjOk P w H h a o) (k : ∀ b u, (b = a ∨ H b = some (.own a)) → h.get? b = some u → h'.get? b = some u)
    (ho : ∀ b, H b = some (.own a) → H' b = some (.own a)) (ht : ∀ b xs, H b = some (.tup xs) → H' b = some (.tup xs)) : ObjOk P w H' h' a o := by
  induction o with
  | lst xs => obtain ⟨z, its, n, r, e⟩ := x; exact ⟨z, its, n, r, k _ _ (.inl rfl) e⟩
  | tup xs => obtain ⟨z, its, r, ob, e, c⟩ := x; exact ⟨z, its, r, ob, k _ _ (.inl rfl) e, c⟩
  | dK kvs => obtain ⟨z, y, vs, r, ob, es, ep, e, c⟩ := x; exact ⟨z, y, vs, r, ob, es, ep, k _ _ (.inl rfl) e, c⟩
  | dT kvs =>
    obtain ⟨z, y, xs, r, ob, es, ep, e, c⟩ := x
    exact ⟨z, y, xs, Paired.mapP r fun p q z => ⟨z.1, ht _ _ z.2.1, z.2.2⟩, ob, es, ep, k _ _ (.inl rfl) e, c⟩
  | set S n => obtain ⟨ob, es, ep, t, e, c⟩ := x; exact ⟨ob, es, ep, t, k _ _ (.inl rfl) e, c⟩
  | ins C dx fs =>
    obtain ⟨d, z, ne, e, mA, ⟨od, es, ep, e2, c⟩, r⟩ := x
    exact ⟨ho _ d, z, ne, k _ _ (.inl rfl) e, mA, ⟨od, es, ep, k _ _ (.inr d) e2, c⟩, r⟩
  | own y => obtain ⟨ob, e⟩ := x; exact ⟨ob, k _ _ (.inl rfl) e⟩
  | xd fs => obtain ⟨mA, ⟨od, es, ep, e, c⟩, r⟩ := x; exact ⟨mA, ⟨od, es, ep, k _ _ (.inl rfl) e, c⟩, r⟩
  | rng lo hi => obtain ⟨t, u, v, e⟩ := x; exact ⟨t, u, v, k _ _ (.inl rfl) e⟩
  | frz ob u ih => obtain ⟨e, q⟩ := x; exact ⟨k _ _ (.inl rfl) e, ih q⟩
  | tbl ps =>
    have e : h.get? a = some { cls := .none, data := .fields ps } := x
    show h'.get? a = some { cls := .none, data := .fields ps }
    exact k a _ (.inl rfl) e
  | met f y =>
    have e : h.get? a = some (PySem.W.methodObj (.ref f) (.ref y)) := x
    show h'.get? a = some (PySem.W.methodObj (.ref f) (.ref y))
    exact k a _ (.inl rfl) e
  | ext φ => obtain ⟨p, ⟨o, e⟩, st⟩ := x; exact ⟨st _ _ p fun o q => k _ _ (.inl rfl) q, ⟨o, k _ _ (.inl rfl) e⟩, st⟩
theorem HOk.lt (x : HOk P w H h) (e : H a = some o) : a < h.objs.size := (x a o e).lt
theorem HOk.fresh (x : HOk P w H h) (e : h.objs.size ≤ a) : H a = none := by
  cases q : H a with
  | none => rfl
  | some u => exact absurd (Nat.lt_of_lt_of_le (x.lt q) e) (Nat.lt_irrefl _)
/-- every object of the heap is kept -/
theorem HOk.kept (x : HOk P w H h) (k : ∀ b u, h.get? b = some u → h'.get? b = some u) : HOk P w H h' := fun a o e =>
  (x a o e).stay (fun b u _ q => k b u q) (fun _ q => q) fun _ _ q => q
/-- a new object is laid and tracked -/
theorem HOk.laid (x : HOk P w H h) (k : ∀ b u, h.get? b = some u → h'.get? b = some u) (hp : h.objs.size ≤ a) (new : ObjOk P w (upd H a o) h' a o) : HOk P w (upd H a o) h' := fun b u e => by
  have hn := x.fresh hp
  by_cases hb : b = a
  · subst hb; rw [upd_same] at e; cases e; exact new
  · rw [upd_ne hb] at e
    exact (x b u e).stay (fun c v _ q => k c v q) (fun c q => by rw [upd_ne (ne_of_none q hn)]; exact q) fun c xs q => by rw [upd_ne (ne_of_none q hn)]; exact q
end

/-- what may be read as u: it is u, or a known u -/
def Rd (H : Hp) (a : Addr) (u : HO) : Prop := H a = some u ∨ ∃ o, H a = some (.frz o u)
theorem Rd.of {H : Hp} {a : Addr} {u : HO} (h : H a = some u) : Rd H a u := .inl h
theorem Rd.ok {P : Program} {w : World} {H : Hp} {h : Heap} {a : Addr} {u : HO} (r : Rd H a u) (x : HOk P w H h) : ObjOk P w H h a u := by
  rcases r with r | ⟨o, r⟩
  · exact x a u r
  · obtain ⟨_, q⟩ := x a _ r
    exact q
/-- what may be written -/
def Mut : Option HO → Prop
  | some (.lst _) => True
  | some (.dK _) => True
  | some (.dT _) => True
  | some (.set _ _) => True
  | some (.ins _ _ _) => True
  | some (.ext _) => True
  | _ => False
section
variable {P : Program} {w : World} {H : Hp} {h h' : Heap} {x e : Addr} {o' : HO}
/-- the object at e is changed: x itself, or the dict of the instance x -/
theorem HOk.write (ok : HOk P w H h) (mu : Mut (H x)) (he : e = x ∨ H e = some (.own x)) (k : ∀ b u, b ≠ e → h.get? b = some u → h'.get? b = some u) (heo : ∃ u, h'.get? e = some u)
    (new : ObjOk P w (upd H x o') h' x o') : HOk P w (upd H x o') h' := fun b u q => by
  have nown : ∀ c y, H c = some (.own y) → c ≠ x := fun c y r z => by subst z; rw [r] at mu; exact mu
  have ntup : ∀ c xs, H c = some (.tup xs) → c ≠ x := fun c xs r z => by subst z; rw [r] at mu; exact mu
  by_cases hb : b = x
  · subst hb; rw [upd_same] at q; cases q; exact new
  · rw [upd_ne hb] at q
    by_cases hbe : b = e
    · have q' : H b = some (.own x) := by
        rcases he with z | z
        · exact absurd (hbe.trans z) hb
        · rw [hbe]; exact z
      rw [q] at q'; cases q'
      obtain ⟨v, hv⟩ := heo
      exact ⟨v, by rw [hbe]; exact hv⟩
    · refine (ok b u q).stay (fun c v hc r => k c v ?_ r) (fun c r => by rw [upd_ne (nown c b r)]; exact r) fun c xs r => by rw [upd_ne (ntup c xs r)]; exact r
      rcases hc with rfl | hc
      · exact hbe
      · rintro rfl
        rcases he with z | z
        · exact nown c b hc z
        · rw [hc] at z; cases z; exact hb rfl
end

/-! ### kept unless tracked; of the frames at fs (the callers') the slots may change (an exception that passes writes there); of the records at ex (iterators) nothing is said -/
structure Un (fs ex : List Addr) (H H' : Hp) (h h' : Heap) : Prop where
  keep : ∀ b o, h.get? b = some o → H b = none → b ∉ fs → b ∉ ex → h'.get? b = some o
  slot : ∀ b o, h.get? b = some o → H b = none → b ∈ fs → b ∉ ex → ∃ sl, h'.get? b = some { o with slots := sl }
  free : ∀ b o, h.get? b = some o → H b = none → b ∉ ex → H' b = none
  there : ∀ b o, h.get? b = some o → b ∉ ex → ∃ o', h'.get? b = some o'
  tups : ∀ b xs, H b = some (.tup xs) → H' b = some (.tup xs)
  frzs : ∀ b o u, H b = some (.frz o u) → H' b = some (.frz o u)
  tbls : ∀ b ps, H b = some (.tbl ps) → ∃ more, H' b = some (.tbl (ps ++ more))
section
variable {fs fs' ex ex' : List Addr} {H H1 H2 : Hp} {h h1 h2 h' : Heap} {a x e : Addr} {o : HO}
theorem Un.any (u : Un fs ex H H1 h h1) {b : Addr} {ob : Obj} (q : h.get? b = some ob) (n : H b = none) (hx : b ∉ ex) : ∃ sl, h1.get? b = some { ob with slots := sl } := by
  by_cases hb : b ∈ fs
  · exact u.slot b ob q n hb hx
  · exact ⟨ob.slots, u.keep b ob q n hb hx⟩
theorem Un.trans (a : Un fs ex H H1 h h1) (b : Un fs ex H1 H2 h1 h2) : Un fs ex H H2 h h2 where
  keep := fun c ob q n hc hx => b.keep c ob (a.keep c ob q n hc hx) (a.free c ob q n hx) hc hx
  slot := fun c ob q n hc hx => by
    obtain ⟨sl, e1⟩ := a.slot c ob q n hc hx
    obtain ⟨sl', e2⟩ := b.slot c _ e1 (a.free c ob q n hx) hc hx
    exact ⟨sl', e2⟩
  free := fun c ob q n hx => by
    obtain ⟨o', e1⟩ := a.there c ob q hx
    exact b.free c o' e1 (a.free c ob q n hx) hx
  there := fun c ob q hx => by
    obtain ⟨o', e1⟩ := a.there c ob q hx
    exact b.there c o' e1 hx
  tups := fun c xs q => b.tups c xs (a.tups c xs q)
  frzs := fun c ob xs q => b.frzs c ob xs (a.frzs c ob xs q)
  tbls := fun c ps q => by
    obtain ⟨m1, e1⟩ := a.tbls c ps q
    obtain ⟨m2, e2⟩ := b.tbls c _ e1
    exact ⟨m1 ++ m2, by rw [e2, Array.append_assoc]⟩
theorem Un.kept (k : ∀ b u, h.get? b = some u → h'.get? b = some u) : Un fs ex H H h h' :=
  ⟨fun b ob q _ _ _ => k b ob q, fun b ob q _ _ _ => ⟨ob.slots, k b ob q⟩, fun _ _ _ n _ => n, fun b ob q _ => ⟨ob, k b ob q⟩, fun _ _ q => q, fun _ _ _ q => q, fun _ ps q => ⟨#[], by rw [q]; simp⟩⟩
theorem Un.refl : Un fs ex H H h h := Un.kept fun _ _ q => q
theorem Un.laid (k : ∀ b u, h.get? b = some u → h'.get? b = some u) (hp : h.objs.size ≤ a) (hn : H a = none) : Un fs ex H (upd H a o) h h' where
  keep := fun b u q _ _ _ => k b u q
  slot := fun b u q _ _ _ => ⟨u.slots, k b u q⟩
  free := fun b u q n _ => by rw [upd_ne (Nat.ne_of_lt (Nat.lt_of_lt_of_le (Heap.lt_size q) hp))]; exact n
  there := fun b u q _ => ⟨u, k b u q⟩
  tups := fun b xs q => by rw [upd_ne (ne_of_none q hn)]; exact q
  frzs := fun b u xs q => by rw [upd_ne (ne_of_none q hn)]; exact q
  tbls := fun b ps q => ⟨#[], by rw [upd_ne (ne_of_none q hn), q]; simp⟩
theorem Un.write (mu : Mut (H x)) (he : e = x ∨ H e = some (.own x)) (k : ∀ b u, b ≠ e → h.get? b = some u → h'.get? b = some u) (heo : ∃ u, h'.get? e = some u) : Un fs ex H (upd H x o) h h' := by
  have hx : ∀ b, H b = none → b ≠ x := fun b n z => by subst z; rw [n] at mu; exact mu
  have hb : ∀ b, H b = none → b ≠ e := fun b n z => by
    subst z
    rcases he with r | r
    · exact hx b n r
    · rw [n] at r; cases r
  have hm : ∀ b u, H b = some u → ¬ Mut (some u) → b ≠ x := fun b u q nm z => by subst z; rw [q] at mu; exact nm mu
  refine ⟨fun b u q n _ _ => k b u (hb b n) q, fun b u q n _ _ => ⟨u.slots, k b u (hb b n) q⟩, fun b u q n _ => by rw [upd_ne (hx b n)]; exact n, fun b u q _ => ?_,
    fun b xs q => by rw [upd_ne (hm b _ q fun z => z)]; exact q, fun b u xs q => by rw [upd_ne (hm b _ q fun z => z)]; exact q, fun b ps q => ⟨#[], by rw [upd_ne (hm b _ q fun z => z), q]; simp⟩⟩
  by_cases hbe : b = e
  · subst hbe; exact heo
  · exact ⟨u, k b u hbe q⟩
theorem Un.mono (u : Un fs ex H H1 h h1) (hs : ∀ b ∈ fs, b ∈ fs') (hx : ∀ b ∈ ex, b ∈ ex') : Un fs' ex' H H1 h h1 :=
  ⟨fun b ob q n hb he => u.keep b ob q n (fun z => hb (hs b z)) fun z => he (hx b z), fun _ _ q n _ he => u.any q n fun z => he (hx _ z), fun b ob q n he => u.free b ob q n fun z => he (hx b z), fun b ob q he => u.there b ob q fun z => he (hx b z), u.tups, u.frzs, u.tbls⟩
end

/-! ### the heap without what is tracked -/
def trk (h : Heap) (H : Hp) : List Addr := (List.range h.objs.size).filter fun a => (H a).isSome
def hidT (h : Heap) (H : Hp) : Heap := PySem.W.hideAll h (trk h H)
theorem hidT_size (h : Heap) (H : Hp) : (hidT h H).objs.size = h.objs.size := PySem.W.hideAll_size _ _
theorem hidT_get {h : Heap} {H : Hp} {b : Addr} {o : Obj} (e : h.get? b = some o) (n : H b = none) : (hidT h H).get? b = some o :=
  PySem.W.hideAll_get _ e fun hm => by
    have q : (H b).isSome = true := (List.mem_filter.mp hm).2
    rw [n] at q; simp at q
theorem of_hidT {h : Heap} {H : Hp} {b : Addr} {o : Obj} (e : (hidT h H).get? b = some o) : h.get? b = some o ∧ H b = none := by
  have e' : h.get? b = some o := PySem.W.of_hideAll (trk h H) e
  refine ⟨e', ?_⟩
  cases q : H b with
  | none => rfl
  | some x =>
    have hm : b ∈ trk h H := List.mem_filter.mpr ⟨List.mem_range.mpr (Heap.lt_size e'), by simp [q]⟩
    have z : (hidT h H).get? b = none := PySem.W.hideAll_none (trk h H) hm
    rw [z] at e; cases e

/-! ### OpenK's ledger, filled with every new object but one -/
def allNews (g h : Heap) (L : Addr) : List (Addr × Obj) := (List.range h.objs.size).filterMap fun a => if a = L ∨ (g.get? a).isSome = true then none else (h.get? a).map fun o => (a, o)
def rest (g h : Heap) (L d : Addr) : List (Addr × Obj) := (allNews g h L).filter fun p => decide (p.1 ≠ d)
end L2

namespace L2
open PySem PySem.Spec PyProof.Rows

/-- the module's facts, over the base: the heap at the law's entry without what is tracked there -/
structure Mod (K : PySem.W.Frag) (mg : Str → Option Value) (base : Heap) : Prop where
  kin : K.In base
  glob : base.Ns mainGlobals mg
  blt : ∃ mb, base.Ns builtinsNs mb ∧ ∀ x : Str, x ≠ "__name__" → mb x = bootBuiltins x
  nolimit : base.NoLimit

/-- the context: a def's body (or a comprehension's block) running. base: fixed through the whole law; s₀, H₀: the entry; outer: the frames whose slots others may change (a def's callers); stack: all frames that run;
   ex: iterators that were made ahead of the entry and are walked here (a comprehension's); fn: the names whose cells were made at the entry (a def: all; a comprehension's block: its own); calm: not within an except suite; pn: pins that every state bears; xe: what is wanted of an exception that leaves the code -/
structure Cx where
  prog : Program
  w : World
  K : PySem.W.Frag
  mg : Str → Option Value
  base : Heap
  A : Around
  N : List Str
  s₀ : Shared
  H₀ : Hp
  env : Env
  outer : List Env
  stack : List Env
  ex : List Addr
  fn : Str → Bool
  calm : Bool
  pn : List (Addr × Obj)
  xe : Value → Shared → Prop
/-- the callers' frames -/
def frs (l : List Env) : List Addr := l.filterMap (·.frame)
abbrev Cx.fs (X : Cx) : List Addr := frs X.outer

def Vis (sc : Scope) (x : Str) : Prop := sc.names.lookup x = some .local ∨ sc.names.lookup x = some .cell ∨ sc.names.lookup x = some .free
def Loc (sc : Scope) (x : Str) : Prop := sc.names.lookup x = some .local ∨ sc.names.lookup x = some .cell
def Look (env : Env) (h : Heap) (m : Str → Option Value) (x : Str) (u : Value) : Prop :=
  (env.kindOf x = some .local ∧ m x = some u) ∨ ((env.kindOf x = some .cell ∨ env.kindOf x = some .free) ∧ ∃ c, env.cells.lookup x = some c ∧ h.IsCell c (some u))

structure Cx.Ok (X : Cx) : Prop where
  mod : Mod X.K X.mg X.base
  kind : X.env.scope.kind = .function
  glob : X.env.globals = mainGlobals
  blt : X.env.builtins = builtinsNs
  above : X.s₀.heap.objs.size ≤ X.env.locals
  inj : ∀ x y c, X.env.cells.lookup x = some c → X.env.cells.lookup y = some c → x = y
  has : ∀ x, (X.env.kindOf x = some .cell ∨ X.env.kindOf x = some .free) → ∃ c, X.env.cells.lookup x = some c
  cab : ∀ x c, X.fn x = true → X.env.cells.lookup x = some c → X.s₀.heap.objs.size ≤ c
  hd : X.calm = true → X.A.handled = none
  frames : X.A.frames = some X.stack
  stk : X.stack = X.outer ∨ (X.stack = X.env :: X.outer ∧ X.env.frame = some X.env.locals)
  exf : ∀ b ∈ X.ex, b ≠ X.env.locals ∧ ∀ x c, X.env.cells.lookup x = some c → c ≠ b
  bs : ∀ b o, X.base.get? b = some o → X.s₀.heap.get? b = some o ∧ X.H₀ b = none
  bsz : X.base.objs.size ≤ X.s₀.heap.objs.size
  noex : ∀ b o, X.base.get? b = some o → b ∉ X.ex
  exfs : ∀ b ∈ X.ex, b ∉ X.fs
  funs : X.s₀.heap.FunFrames X.base X.outer
  frf : ∀ b ∈ X.fs, X.H₀ b = none

structure Inv (X : Cx) (pins : List (Addr × Obj)) (σ : List (Option V)) (H : Hp) (s : Shared) : Prop where
  ok : X.Ok
  os : s.os = X.s₀.os
  bare : AllBare s.gens
  base : Un X.fs X.ex X.H₀ H X.s₀.heap s.heap
  loc : ∃ m, s.heap.Ns X.env.locals m ∧ ∀ (i : Nat) (x : Str) (v : V), X.N[i]? = some x → σ[i]? = some (some v) → Vis X.env.scope x → ∃ u, RelV v u ∧ Look X.env s.heap m x u
  cell : ∀ x c, X.env.cells.lookup x = some c → ∃ v, s.heap.IsCell c v
  free : H X.env.locals = none
  freeC : ∀ x c, X.env.cells.lookup x = some c → H c = none
  pin : ∀ p ∈ X.pn ++ pins, s.heap.get? p.1 = some p.2 ∧ H p.1 = none ∧ p.1 ≠ X.env.locals ∧ p.1 ∉ X.fs ∧ ∀ v, p.2.data ≠ .cell v
  hok : HOk X.prog X.w H s.heap
  len : σ.length = X.N.length

section
variable {X : Cx} {pins : List (Addr × Obj)} {σ : List (Option V)} {H H' : Hp} {s : Shared} {h' : Heap}

theorem Cx.Ok.nofr (ok : X.Ok) {b : Addr} {o : Obj} (e : X.base.get? b = some o) : b ∉ X.fs := fun hb => by
  have := (ok.funs.mem hb).1
  rw [e] at this; cases this
theorem Inv.bs (I : Inv X pins σ H s) : ∀ b o, X.base.get? b = some o → s.heap.get? b = some o ∧ H b = none := fun b o e =>
  ⟨I.base.keep b o (I.ok.bs b o e).1 (I.ok.bs b o e).2 (I.ok.nofr e) (I.ok.noex b o e), I.base.free b o (I.ok.bs b o e).1 (I.ok.bs b o e).2 (I.ok.noex b o e)⟩
theorem Inv.bk (I : Inv X pins σ H s) : ∀ b o, X.base.get? b = some o → s.heap.get? b = some o := fun b o e => (I.bs b o e).1
theorem Inv.mod (I : Inv X pins σ H s) : Mod X.K X.mg X.base := I.ok.mod
theorem Inv.kIn (I : Inv X pins σ H s) : X.K.In s.heap := I.ok.mod.kin.keeps I.bk
theorem Inv.nolimit (I : Inv X pins σ H s) : s.heap.NoLimit := I.ok.mod.nolimit.keeps I.bk
/-- the frame over the base: for OpenK's rules (K.In X.base is I.mod.kin) -/
theorem Inv.fr (I : Inv X pins σ H s) : ∃ m, Fr X.base X.env.locals s.heap m :=
  let ⟨m, hn, _⟩ := I.loc
  ⟨m, hn, I.bk, Nat.le_trans I.ok.bsz I.ok.above⟩
theorem Inv.lt (I : Inv X pins σ H s) : X.env.locals < s.heap.objs.size := let ⟨_, hn, _⟩ := I.loc; hn.lt
theorem Inv.sz (I : Inv X pins σ H s) : X.s₀.heap.objs.size ≤ s.heap.objs.size := Nat.le_trans I.ok.above (Nat.le_of_lt I.lt)
theorem Inv.nofs (I : Inv X pins σ H s) {a : Addr} (h : s.heap.objs.size ≤ a) : a ∉ X.fs := fun hb => by
  obtain ⟨_, o, ho, _⟩ := I.ok.funs.mem hb
  exact absurd (Nat.lt_of_lt_of_le (Heap.lt_size ho) (Nat.le_trans I.sz h)) (Nat.lt_irrefl _)
theorem Inv.cne (I : Inv X pins σ H s) : ∀ x c, X.env.cells.lookup x = some c → c ≠ X.env.locals := fun x c e z => by
  obtain ⟨v, o, ho, hd⟩ := I.cell x c e
  obtain ⟨m, ⟨o', es, ep, ho', hd', _⟩, _⟩ := I.loc
  rw [z, ho'] at ho; cases ho; rw [hd'] at hd; cases hd
theorem Inv.funs (I : Inv X pins σ H s) : s.heap.FunFrames X.base X.outer := by
  have all : ∀ (l : List Env), (∀ b ∈ frs l, b ∈ X.fs) → X.s₀.heap.FunFrames X.base l → s.heap.FunFrames X.base l := by
    intro l
    induction l with
    | nil => intro _ _; trivial
    | cons env r ih =>
      intro hs hl
      obtain ⟨hk, ⟨L, o, hf, hn, ho, hd⟩, hr⟩ := hl
      have hL : L ∈ X.fs := hs L (by unfold frs; rw [List.filterMap_cons, hf]; exact List.mem_cons_self)
      obtain ⟨sl, e⟩ := I.base.slot L o ho (I.ok.frf L hL) hL fun z => I.ok.exfs L z hL
      exact ⟨hk, ⟨L, _, hf, hn, e, hd⟩, ih (fun b hb => hs b (by unfold frs; rw [List.filterMap_cons, hf]; exact List.mem_cons_of_mem _ hb)) hr⟩
  exact all X.outer (fun _ hb => hb) I.ok.funs

/-- the frames that run, for a call -/
theorem Inv.stack (I : Inv X pins σ H s) : s.heap.FunFrames X.base X.stack := by
  rcases I.ok.stk with e | ⟨e, hf⟩
  · rw [e]; exact I.funs
  · rw [e]
    obtain ⟨m, hn, _⟩ := I.loc
    refine .cons (by rw [I.ok.kind]; decide) hf hn ?_ I.funs
    exact Heap.get?_none_of_le (Nat.le_trans I.ok.bsz I.ok.above)
theorem Inv.stkSub (I : Inv X pins σ H s) : ∀ b ∈ frs X.stack, b ∈ X.env.locals :: X.fs := fun b hb => by
  rcases I.ok.stk with e | ⟨e, hf⟩
  · rw [e] at hb; exact List.mem_cons_of_mem _ hb
  · rw [e] at hb
    unfold frs at hb
    rw [List.filterMap_cons, hf] at hb
    exact hb
theorem Inv.stkFree (I : Inv X pins σ H s) : ∀ b ∈ frs X.stack, H b = none := fun b hb => by
  rcases List.mem_cons.mp (I.stkSub b hb) with e | hb
  · rw [e]; exact I.free
  · obtain ⟨_, o, ho, _⟩ := I.ok.funs.mem hb
    exact I.base.free b o ho (I.ok.frf b hb) fun z => I.ok.exfs b z hb

/-- THE STEP: the untracked objects but the frame and the records at ch are kept (the callers' frames up to slots), the frame's map is kept, the new abstract heap is held -/
theorem Inv.step {g' : Array GenState} {t' : Nat} {d' : Drawn} {ch : List Addr} (I : Inv X pins σ H s)
    (hch : ∀ b ∈ ch, (b ∈ X.ex ∨ X.s₀.heap.objs.size ≤ b) ∧ b ≠ X.env.locals ∧ (∀ x c, X.env.cells.lookup x = some c → c ≠ b) ∧ ∀ p ∈ X.pn ++ pins, p.1 ≠ b)
    (keep : ∀ b o, b ≠ X.env.locals → b ∉ X.fs → b ∉ ch → s.heap.get? b = some o → H b = none → h'.get? b = some o)
    (slot : ∀ b o, b ≠ X.env.locals → b ∈ X.fs → b ∉ ch → s.heap.get? b = some o → H b = none → ∃ sl, h'.get? b = some { o with slots := sl }) (free : ∀ b o, b ∉ ch → s.heap.get? b = some o → H b = none → H' b = none)
    (there : ∀ b o, b ∉ ch → s.heap.get? b = some o → ∃ o', h'.get? b = some o')
    (tups : ∀ b xs, H b = some (.tup xs) → H' b = some (.tup xs)) (frzs : ∀ b o u, H b = some (.frz o u) → H' b = some (.frz o u)) (tbls : ∀ b ps, H b = some (.tbl ps) → ∃ more, H' b = some (.tbl (ps ++ more)))
    (ns : ∀ m, s.heap.Ns X.env.locals m → h'.Ns X.env.locals m) (hok : HOk X.prog X.w H' h') (hg : AllBare g') :
    Inv X pins σ H' { s with heap := h', gens := g', drawn := d', toks := t' } := by
  have neL : ∀ b o, X.s₀.heap.get? b = some o → b ≠ X.env.locals := fun b o e => Nat.ne_of_lt (Nat.lt_of_lt_of_le (Heap.lt_size e) I.ok.above)
  have neC : ∀ b o, X.s₀.heap.get? b = some o → b ∉ X.ex → b ∉ ch := fun b o e hx hb => by
    rcases (hch b hb).1 with z | z
    · exact hx z
    · exact absurd (Nat.lt_of_lt_of_le (Heap.lt_size e) z) (Nat.lt_irrefl _)
  have cellK : ∀ x c, X.env.cells.lookup x = some c → ∀ v, s.heap.IsCell c v → h'.IsCell c v := fun x c e v ⟨o, ho, hd⟩ => by
    have nch : c ∉ ch := fun z => (hch c z).2.2.1 x c e rfl
    by_cases hc : c ∈ X.fs
    · obtain ⟨sl, q⟩ := slot c o (I.cne x c e) hc nch ho (I.freeC x c e)
      exact ⟨_, q, hd⟩
    · exact ⟨o, keep c o (I.cne x c e) hc nch ho (I.freeC x c e), hd⟩
  refine ⟨I.ok, I.os, hg, ⟨fun b o e n hb hx => ?_, fun b o e n hb hx => ?_, fun b o e n hx => ?_, fun b o e hx => ?_, fun b xs e => tups b xs (I.base.tups b xs e), fun b o xs e => frzs b o xs (I.base.frzs b o xs e), fun b ps e => ?_⟩, ?_, fun x c e => ?_, ?_, fun x c e => ?_, fun p hp => ?_, hok, I.len⟩
  · exact keep b o (neL b o e) hb (neC b o e hx) (I.base.keep b o e n hb hx) (I.base.free b o e n hx)
  · obtain ⟨sl, e1⟩ := I.base.slot b o e n hb hx
    obtain ⟨sl', e2⟩ := slot b _ (neL b o e) hb (neC b o e hx) e1 (I.base.free b o e n hx)
    exact ⟨sl', e2⟩
  · obtain ⟨o', e1⟩ := I.base.there b o e hx
    exact free b o' (neC b o e hx) e1 (I.base.free b o e n hx)
  · obtain ⟨o', e1⟩ := I.base.there b o e hx
    exact there b o' (neC b o e hx) e1
  · obtain ⟨m1, e1⟩ := I.base.tbls b ps e
    obtain ⟨m2, e2⟩ := tbls b _ e1
    exact ⟨m1 ++ m2, by rw [e2, Array.append_assoc]⟩
  · obtain ⟨m, hn, hl⟩ := I.loc
    refine ⟨m, ns m hn, fun i x v e1 e2 e3 => ?_⟩
    obtain ⟨u, r, l⟩ := hl i x v e1 e2 e3
    refine ⟨u, r, ?_⟩
    rcases l with l | ⟨k, c, e, z⟩
    · exact .inl l
    · exact .inr ⟨k, c, e, cellK x c e _ z⟩
  · obtain ⟨v, z⟩ := I.cell x c e
    exact ⟨v, cellK x c e v z⟩
  · obtain ⟨m, ⟨o, _, _, ho, _⟩, _⟩ := I.loc
    exact free _ o (fun z => (hch _ z).2.1 rfl) ho I.free
  · obtain ⟨v, o, ho, hd⟩ := I.cell x c e
    exact free c o (fun z => (hch c z).2.2.1 x c e rfl) ho (I.freeC x c e)
  · obtain ⟨e, n, ne, nf, d⟩ := I.pin p hp
    have nch : p.1 ∉ ch := fun z => (hch p.1 z).2.2.2 p hp rfl
    exact ⟨keep p.1 p.2 ne nf nch e n, free p.1 p.2 nch e n, ne, nf, d⟩
/-- .. where the frame's own object is kept too -/
theorem Inv.un {t' : Nat} (I : Inv X pins σ H s) (u : Un X.fs [] H H' s.heap h') (hok : HOk X.prog X.w H' h') : Inv X pins σ H' { s with heap := h', toks := t' } := by
  obtain ⟨m, ⟨o, es, ep, ho, r⟩, _⟩ := id I.loc
  obtain ⟨sl, hL⟩ := u.any ho I.free (by simp)
  exact I.step (g' := s.gens) (d' := s.drawn) (ch := []) (fun _ z => nomatch z) (fun b o _ hb _ e n => u.keep b o e n hb (by simp)) (fun b o _ hb _ e n => u.slot b o e n hb (by simp)) (fun b o _ e n => u.free b o e n (by simp)) (fun b o _ e => u.there b o e (by simp)) u.tups u.frzs u.tbls (fun m' hm => by
    obtain ⟨o', es', ep', ho', r'⟩ := hm
    rw [ho] at ho'; cases ho'
    exact ⟨_, es', ep', hL, r'⟩) hok I.bare
/-- behind a call (or a comprehension's block): the slots of this frame may have changed too, the records at ch may have turned -/
theorem Inv.call {g' : Array GenState} {t' : Nat} {d' : Drawn} {ch : List Addr} (I : Inv X pins σ H s) (u : Un (frs X.stack) ch H H' s.heap h') (hok : HOk X.prog X.w H' h') (hg : AllBare g')
    (hch : ∀ b ∈ ch, (b ∈ X.ex ∨ X.s₀.heap.objs.size ≤ b) ∧ b ≠ X.env.locals ∧ (∀ x c, X.env.cells.lookup x = some c → c ≠ b) ∧ ∀ p ∈ X.pn ++ pins, p.1 ≠ b) :
    Inv X pins σ H' { s with heap := h', gens := g', drawn := d', toks := t' } := by
  obtain ⟨m, ⟨o, es, ep, ho, r⟩, _⟩ := id I.loc
  obtain ⟨sl, hL⟩ := u.any ho I.free fun z => (hch _ z).2.1 rfl
  exact I.step (ch := ch) hch (fun b o hL hb hc e n => u.keep b o e n (fun z => (List.mem_cons.mp (I.stkSub b z)).elim hL hb) hc) (fun b o _ _ hc e n => u.any e n hc) (fun b o hc e n => u.free b o e n hc) (fun b o hc e => u.there b o e hc) u.tups u.frzs u.tbls (fun m' hm => by
    obtain ⟨o', es', ep', ho', r'⟩ := hm
    rw [ho] at ho'; cases ho'
    exact ⟨_, es', ep', hL, r'⟩) hok hg
/-- an untracked record of ours (an iterator) has turned -/
theorem Inv.turned {t' : Nat} {it : Addr} (I : Inv X pins σ H s) (k : ∀ b o, b ≠ it → s.heap.get? b = some o → h'.get? b = some o) (hn : H it = none) (hL : it ≠ X.env.locals)
    (h1 : it ∈ X.ex ∨ X.s₀.heap.objs.size ≤ it) (h2 : ∀ x c, X.env.cells.lookup x = some c → c ≠ it) (h3 : ∀ p ∈ X.pn ++ pins, p.1 ≠ it) : Inv X pins σ H { s with heap := h', toks := t' } := by
  have nit : ∀ b u, H b = some u → b ≠ it := fun b u e z => by rw [z, hn] at e; cases e
  refine I.step (g' := s.gens) (d' := s.drawn) (ch := [it]) (fun b hb => ?_) (fun b o _ _ hc e _ => k b o (fun z => hc (by simp [z])) e) (fun b o _ _ hc e _ => ⟨o.slots, k b o (fun z => hc (by simp [z])) e⟩) (fun _ _ _ _ n => n)
    (fun b o hc e => ⟨o, k b o (fun z => hc (by simp [z])) e⟩) (fun _ _ e => e) (fun _ _ _ e => e) (fun b ps e => ⟨#[], by rw [e]; simp⟩) (fun m hm => ?_) (fun b u e => ?_) I.bare
  · have e : b = it := by simpa using hb
    subst e
    exact ⟨h1, hL, h2, h3⟩
  · obtain ⟨o, es, ep, ho, r⟩ := hm
    exact ⟨o, es, ep, k _ o (Ne.symm hL) ho, r⟩
  · refine (I.hok b u e).stay (fun c v hc q => k c v ?_ q) (fun _ q => q) fun _ _ q => q
    rcases hc with z | z
    · rw [z]; exact nit b u e
    · exact nit c _ z
theorem Inv.tok (I : Inv X pins σ H s) (t : Nat) : Inv X pins σ H { s with toks := t } := I.un (h' := s.heap) (t' := t) Un.refl I.hok
/-- all objects kept -/
theorem Inv.kept {t' : Nat} (I : Inv X pins σ H s) (k : ∀ b u, s.heap.get? b = some u → h'.get? b = some u) : Inv X pins σ H { s with heap := h', toks := t' } := I.un (Un.kept k) (I.hok.kept k)
/-- a new object laid and tracked -/
theorem Inv.laid {a : Addr} {o : HO} {t' : Nat} (I : Inv X pins σ H s) (k : ∀ b u, s.heap.get? b = some u → h'.get? b = some u) (hp : s.heap.objs.size ≤ a) (new : ObjOk X.prog X.w (upd H a o) h' a o) :
    Inv X pins σ (upd H a o) { s with heap := h', toks := t' } := I.un (Un.laid k hp (I.hok.fresh hp)) (I.hok.laid k hp new)
/-- an object written -/
theorem Inv.write {x e : Addr} {o : HO} {t' : Nat} (I : Inv X pins σ H s) (mu : Mut (H x)) (he : e = x ∨ H e = some (.own x)) (k : ∀ b u, b ≠ e → s.heap.get? b = some u → h'.get? b = some u) (heo : ∃ u, h'.get? e = some u)
    (new : ObjOk X.prog X.w (upd H x o) h' x o) : Inv X pins σ (upd H x o) { s with heap := h', toks := t' } := I.un (Un.write mu he k heo) (I.hok.write mu he k heo new)
/-- forgetting slots, pins -/
theorem Inv.weak {σ' : List (Option V)} (I : Inv X pins σ H s) (hl : σ'.length = σ.length) (w : ∀ (i : Nat) v, σ'[i]? = some (some v) → σ[i]? = some (some v)) : Inv X pins σ' H s :=
  ⟨I.ok, I.os, I.bare, I.base, let ⟨m, hn, hl'⟩ := I.loc; ⟨m, hn, fun i x v e1 e2 e3 => hl' i x v e1 (w i v e2) e3⟩, I.cell, I.free, I.freeC, I.pin, I.hok, hl.trans I.len⟩
theorem Inv.pins_of {pins' : List (Addr × Obj)} (I : Inv X pins σ H s) (h : ∀ p ∈ pins', s.heap.get? p.1 = some p.2 ∧ H p.1 = none ∧ p.1 ≠ X.env.locals ∧ p.1 ∉ X.fs ∧ ∀ v, p.2.data ≠ .cell v) : Inv X pins' σ H s :=
  ⟨I.ok, I.os, I.bare, I.base, I.loc, I.cell, I.free, I.freeC, fun p hp => (List.mem_append.mp hp).elim (fun z => I.pin p (List.mem_append_left _ z)) (h p), I.hok, I.len⟩

theorem nodup_ix {N : List Str} (hN : N.Nodup) {i j : Nat} {x : Str} (a : N[i]? = some x) (b : N[j]? = some x) : i = j := by
  obtain ⟨h1, e1⟩ := List.getElem?_eq_some_iff.mp a
  obtain ⟨h2, e2⟩ := List.getElem?_eq_some_iff.mp b
  exact (List.getElem_inj hN).mp (e1.trans e2.symm)

/-- a name is stored; what changed -/
theorem store_ok2 {M : Model} {A : Around} {E : Value → Shared → Prop} {i : Nat} {x : Str} {v : V} {u : Value} {Q : Unit → Shared → Prop} (I : Inv X pins σ H s) (hN : X.N.Nodup) (hi : X.N[i]? = some x) (hx : Loc X.env.scope x) (r : RelV v u)
    (h : ∀ s', Inv X pins (σ.set i (some v)) H s' → (∃ a, Heap.SameBut a s.heap s'.heap ∧ (a = X.env.locals ∨ X.env.cells.lookup x = some a)) → Q () s') (hf : X.fn x = true ∨ X.env.scope.names.lookup x = some .local := by first | exact .inl rfl | exact .inr rfl | assumption) : wpAny M A (storeName X.env x u) Q E s := by
  obtain ⟨m, hn, hl⟩ := id I.loc
  have hcls : (X.env.scope.kind == .class || (X.env.scope.kind == .module && X.env.locals != X.env.globals)) = false := by rw [I.ok.kind]; rfl
  have hiσ : i < σ.length := by rw [I.len]; exact (List.getElem?_eq_some_iff.mp hi).1
  have cne := I.cne
  have tracked : ∀ {a : Addr} {h' : Heap}, (∃ o, s.heap.get? a = some o ∧ H a = none) → Heap.SameBut a s.heap h' → HOk X.prog X.w H h' := fun {a h'} ha hs b ob e => by
    obtain ⟨_, _, hfree⟩ := ha
    refine (I.hok b ob e).stay (fun c w' hc q => (hs.2 c ?_).trans q) (fun _ q => q) fun _ _ q => q
    rintro rfl
    rcases hc with rfl | hc
    · rw [hfree] at e; cases e
    · rw [hfree] at hc; cases hc
  rcases hx with hk | hk
  · refine wpAny_storeName_local hk hn (fun h' hn' hs => ?_) hcls
    obtain ⟨oL, _, _, hoL, _⟩ := id hn
    refine h _ ⟨I.ok, I.os, I.bare, ⟨fun b o e n hb hx => ?_, fun b o e n hb hx => ?_, I.base.free, fun b o e hx => ?_, I.base.tups, I.base.frzs, I.base.tbls⟩, ⟨_, hn', fun j y v' e1 e2 e3 => ?_⟩, fun y c e => ?_, I.free, I.freeC, fun p hp => ?_, tracked ⟨oL, hoL, I.free⟩ hs, by simpa using I.len⟩ ⟨_, hs, .inl rfl⟩
    · exact (hs.2 b (Nat.ne_of_lt (Nat.lt_of_lt_of_le (Heap.lt_size e) I.ok.above))).trans (I.base.keep b o e n hb hx)
    · obtain ⟨sl, e1⟩ := I.base.slot b o e n hb hx
      exact ⟨sl, (hs.2 b (Nat.ne_of_lt (Nat.lt_of_lt_of_le (Heap.lt_size e) I.ok.above))).trans e1⟩
    · obtain ⟨o', e1⟩ := I.base.there b o e hx
      exact ⟨o', (hs.2 b (Nat.ne_of_lt (Nat.lt_of_lt_of_le (Heap.lt_size e) I.ok.above))).trans e1⟩
    · by_cases hj : j = i
      · subst hj
        rw [hi] at e1; cases e1
        rw [List.getElem?_set_self hiσ] at e2
        cases e2
        exact ⟨u, r, .inl ⟨hk, by simp⟩⟩
      · rw [List.getElem?_set_ne (Ne.symm hj)] at e2
        obtain ⟨u', r', q⟩ := hl j y v' e1 e2 e3
        refine ⟨u', r', ?_⟩
        rcases q with ⟨k, e⟩ | ⟨k, c, e, z⟩
        · refine .inl ⟨k, ?_⟩
          have : y ≠ x := fun e => hj (nodup_ix hN e1 (e ▸ hi))
          simp [this, e]
        · exact .inr ⟨k, c, e, z.sameBut hs (cne y c e)⟩
    · obtain ⟨w', z⟩ := I.cell y c e
      exact ⟨w', z.sameBut hs (cne y c e)⟩
    · obtain ⟨e, n, ne, nf, d⟩ := I.pin p hp
      exact ⟨(hs.2 p.1 ne).trans e, n, ne, nf, d⟩
  · have hfn : X.fn x = true := by
      rcases hf with z | z
      · exact z
      · rw [z] at hk; cases hk
    obtain ⟨c, hc⟩ := I.ok.has x (.inl hk)
    obtain ⟨w', z⟩ := I.cell x c hc
    refine wpAny_storeName_cell I.ok.kind hk hc z (fun h' hc' hs => ?_)
    obtain ⟨oc, hoc, hocd⟩ := id z
    refine h { s with heap := h' } ⟨I.ok, I.os, I.bare, ⟨fun b o e n hb hx => ?_, fun b o e n hb hx => ?_, I.base.free, fun b o e hx => ?_, I.base.tups, I.base.frzs, I.base.tbls⟩, ⟨m, hn.sameBut hs (Ne.symm (cne x c hc)), fun j y v' e1 e2 e3 => ?_⟩, fun y c' e => ?_, I.free, I.freeC, fun p hp => ?_, tracked ⟨oc, hoc, I.freeC x c hc⟩ hs, by simpa using I.len⟩ ⟨c, hs, .inr hc⟩
    · exact (hs.2 b (Nat.ne_of_lt (Nat.lt_of_lt_of_le (Heap.lt_size e) (I.ok.cab x c hfn hc)))).trans (I.base.keep b o e n hb hx)
    · obtain ⟨sl, e1⟩ := I.base.slot b o e n hb hx
      exact ⟨sl, (hs.2 b (Nat.ne_of_lt (Nat.lt_of_lt_of_le (Heap.lt_size e) (I.ok.cab x c hfn hc)))).trans e1⟩
    · obtain ⟨o', e1⟩ := I.base.there b o e hx
      exact ⟨o', (hs.2 b (Nat.ne_of_lt (Nat.lt_of_lt_of_le (Heap.lt_size e) (I.ok.cab x c hfn hc)))).trans e1⟩
    · by_cases hj : j = i
      · subst hj
        rw [hi] at e1; cases e1
        rw [List.getElem?_set_self hiσ] at e2
        cases e2
        exact ⟨u, r, .inr ⟨.inl hk, c, hc, hc'⟩⟩
      · rw [List.getElem?_set_ne (Ne.symm hj)] at e2
        obtain ⟨u', r', q⟩ := hl j y v' e1 e2 e3
        refine ⟨u', r', ?_⟩
        rcases q with q | ⟨k, c', e, z'⟩
        · exact .inl q
        · refine .inr ⟨k, c', e, z'.sameBut hs ?_⟩
          rintro rfl
          exact hj (nodup_ix hN e1 (I.ok.inj _ _ _ e hc ▸ hi))
    · by_cases hcc : c' = c
      · subst hcc; exact ⟨_, hc'⟩
      · obtain ⟨w2, z2⟩ := I.cell y c' e
        exact ⟨w2, z2.sameBut hs hcc⟩
    · obtain ⟨e, n, ne, nf, d⟩ := I.pin p hp
      refine ⟨(hs.2 p.1 ?_).trans e, n, ne, nf, d⟩
      intro q
      rw [q, hoc] at e
      have q' : oc = p.2 := Option.some.inj e
      exact d w' (by rw [← q']; exact hocd)
theorem store_ok {M : Model} {A : Around} {E : Value → Shared → Prop} {i : Nat} {x : Str} {v : V} {u : Value} {Q : Unit → Shared → Prop} (I : Inv X pins σ H s) (hN : X.N.Nodup) (hi : X.N[i]? = some x) (hx : Loc X.env.scope x) (r : RelV v u)
    (h : ∀ s', Inv X pins (σ.set i (some v)) H s' → Q () s') (hf : X.fn x = true ∨ X.env.scope.names.lookup x = some .local := by first | exact .inl rfl | exact .inr rfl | assumption) : wpAny M A (storeName X.env x u) Q E s :=
  store_ok2 I hN hi hx r (fun s' I' _ => h s' I') hf
/-- behind a call or a block, the state as it is -/
theorem Inv.call' {s' : Shared} {ch : List Addr} (I : Inv X pins σ H s) (ho : s'.os = s.os) (u : Un (frs X.stack) ch H H' s.heap s'.heap) (hok : HOk X.prog X.w H' s'.heap) (hg : AllBare s'.gens)
    (hch : ∀ b ∈ ch, (b ∈ X.ex ∨ X.s₀.heap.objs.size ≤ b) ∧ b ≠ X.env.locals ∧ (∀ x c, X.env.cells.lookup x = some c → c ≠ b) ∧ ∀ p ∈ X.pn ++ pins, p.1 ≠ b) : Inv X pins σ H' s' := by
  obtain ⟨h', g', d', t', o'⟩ := s'
  have e : o' = s.os := ho
  subst e
  exact I.call (g' := g') (t' := t') (d' := d') u hok hg hch
end

/-! ### the judgements -/
/-- an exception: its class, its own dict's address (where it has one), the abstract heap behind it -/
abbrev XK := Value → Option Addr → Hp → Prop
abbrev St := List (Option V)
abbrev VK := V → Hp → Prop
/-- an expression's reading; a test's; an argument list's -/
abbrev TE := St → Hp → VK → Prop
abbrev TT := St → Hp → (Bool → Hp → Prop) → Prop
abbrev TA := St → Hp → (List V → Hp → Prop) → Prop
/-- what is wanted behind a statement -/
structure Ends where
  nx : St → Hp → Prop
  rt : VK
  bk : St → Hp → Prop := fun _ _ => False
  ct : St → Hp → Prop := fun _ _ => False
abbrev TS := Ends → St → Hp → Prop

def EP (X : Cx) (pins : List (Addr × Obj)) (σ : St) (Q : VK) (u : Value) (s' : Shared) : Prop := ∃ v H', Inv X pins σ H' s' ∧ RelV v u ∧ Q v H'
def TP (X : Cx) (pins : List (Addr × Obj)) (σ : St) (Q : Bool → Hp → Prop) (b : Bool) (s' : Shared) : Prop := ∃ H', Inv X pins σ H' s' ∧ Q b H'
def AP (X : Cx) (pins : List (Addr × Obj)) (σ : St) (Q : List V → Hp → Prop) (us : List Value) (s' : Shared) : Prop := ∃ vs H', Inv X pins σ H' s' ∧ Vals vs us ∧ Q vs H'
def SP (X : Cx) (pins : List (Addr × Obj)) (D : Ends) (f : Flow) (s' : Shared) : Prop :=
  match f with
  | .next => ∃ σ' H', Inv X pins σ' H' s' ∧ D.nx σ' H'
  | .brk => ∃ σ' H', Inv X pins σ' H' s' ∧ D.bk σ' H'
  | .cont => ∃ σ' H', Inv X pins σ' H' s' ∧ D.ct σ' H'
  | .ret u => ∃ v σ' H', Inv X pins σ' H' s' ∧ RelV v u ∧ D.rt v H'

def PE (X : Cx) (e : Expr) (t : TE) : Prop :=
  ∀ (pins : List (Addr × Obj)) (s : Shared) (σ : St) (H : Hp) (Q : VK), Inv X pins σ H s → t σ H Q → wpAny (model X.prog X.w) X.A (eval e X.env) (EP X pins σ Q) X.xe s
def PT (X : Cx) (e : Expr) (t : TT) : Prop :=
  ∀ (pins : List (Addr × Obj)) (s : Shared) (σ : St) (H : Hp) (Q : Bool → Hp → Prop), Inv X pins σ H s → t σ H Q → wpAny (model X.prog X.w) X.A (isTrue e X.env (eval e X.env)) (TP X pins σ Q) X.xe s
/-- a test whatever its 'whole' is (and, or) -/
def PW (X : Cx) (e : Expr) (t : TT) : Prop :=
  ∀ (whole : Sem Value) (pins : List (Addr × Obj)) (s : Shared) (σ : St) (H : Hp) (Q : Bool → Hp → Prop), Inv X pins σ H s → t σ H Q → wpAny (model X.prog X.w) X.A (isTrue e X.env whole) (TP X pins σ Q) X.xe s
theorem PW.pt {X : Cx} {e : Expr} {t : TT} (h : PW X e t) : PT X e t := h _
/-- an argument list (no star), from the left -/
def PA (X : Cx) (es : List Expr) (t : TA) : Prop :=
  ∀ (pos : Pos) (pins : List (Addr × Obj)) (s : Shared) (σ : St) (H : Hp) (Q : List V → Hp → Prop), Inv X pins σ H s → t σ H Q → wpAny (model X.prog X.w) X.A (spliced (backTo pos (starEach es X.env))) (AP X pins σ Q) X.xe s
def PS (X : Cx) (st : Stmt) (t : TS) : Prop :=
  ∀ (pins : List (Addr × Obj)) (s : Shared) (σ : St) (H : Hp) (D : Ends), Inv X pins σ H s → t D σ H → wpAny (model X.prog X.w) X.A (exec st X.env) (SP X pins D) X.xe s
def PSs (X : Cx) (st : List Stmt) (t : TS) : Prop :=
  ∀ (pins : List (Addr × Obj)) (s : Shared) (σ : St) (H : Hp) (D : Ends), Inv X pins σ H s → t D σ H → wpAny (model X.prog X.w) X.A (execs st X.env) (SP X pins D) X.xe s
/-- weaken the end -/
theorem thn {α : Type} {t : Sem α} {Q Q' : α → Shared → Prop} {M : Model} {A : Around} {E : Value → Shared → Prop} {s : Shared} (h : wpAny M A t Q E s) (hQ : ∀ a s, Q a s → Q' a s) : wpAny M A t Q' E s := wpAny_mono h hQ fun _ _ x => x
end L2

namespace L2
open PySem PySem.Spec PyProof.Rows
section
variable {X : Cx}

/-- two expressions in a row -/
theorem bin {a b : Expr} {ta tb : TE} (ha : PE X a ta) (hb : PE X b tb) {pins : List (Addr × Obj)} {s : Shared} {σ : St} {H : Hp} {R : V → V → Hp → Prop} (I : Inv X pins σ H s) (h : ta σ H fun x H1 => tb σ H1 fun y H2 => R x y H2)
    {α : Type} {Q : α → Shared → Prop} {f : Value → Value → Sem α}
    (hf : ∀ v u s2 x y H2, Inv X pins σ H2 s2 → RelV x v → RelV y u → R x y H2 → wpAny (model X.prog X.w) X.A (f v u) Q X.xe s2) :
    wpAny (model X.prog X.w) X.A (eval a X.env) (fun v s₁ => wpAny (model X.prog X.w) X.A (eval b X.env) (fun u s₂ => wpAny (model X.prog X.w) X.A (f v u) Q X.xe s₂) X.xe s₁) X.xe s := by
  refine thn (ha pins s σ H _ I h) fun v s1 ⟨x, H1, I1, r1, q1⟩ => ?_
  refine thn (hb pins s1 σ H1 _ I1 q1) fun u s2 ⟨y, H2, I2, r2, q2⟩ => ?_
  exact hf v u s2 x y H2 I2 r1 r2 q2

/-! ### names and constants -/
def tVar (i : Nat) : TE := fun σ H Q => ∃ v, σ[i]? = some (some v) ∧ Q v H
def tC (v : V) : TE := fun _ H Q => Q v H
theorem pe_var {i : Nat} {x : Str} {pos : Pos} (hN : X.N[i]? = some x) (hv : Vis X.env.scope x) (hd : (x == ("__debug__" : Str)) = false := by decide) (hcd : (x == ("__classdict__" : Str)) = false := by decide) : PE X (.Name x pos) (tVar i) := by
  intro pins s σ H Q I h
  obtain ⟨v, e, h⟩ := h
  obtain ⟨m, hn, hl⟩ := I.loc
  obtain ⟨u, r, l⟩ := hl i x v hN e hv
  have fin : EP X pins σ Q u s := ⟨v, H, I, r, h⟩
  rcases l with ⟨hk, hm⟩ | ⟨hk, c, hc, hcell⟩
  · exact wpAny_Name (wpAny_loadName_local I.ok.kind hk hn hm fin) hd
  · rcases hk with hk | hk
    · exact wpAny_Name (wpAny_loadName_cell I.ok.kind hk hc hcell fin) hd
    · exact wpAny_Name (wpAny_loadName_free I.ok.kind hk hc hcell fin hcd) hd
theorem pe_int {i j pos} : PE X (.Constant (.int i) j pos) (tC (.int i)) := fun _ _ _ H _ I h => wpAny_Constant_int ⟨.int i, H, I.tok _, ⟨_, rfl⟩, h⟩
theorem pe_bl {b j pos} : PE X (.Constant (.bool b) j pos) (tC (.bl b)) := fun _ _ _ H _ I h => Constant_bool ⟨.bl b, H, I, rfl, h⟩
theorem pe_str {x j pos} : PE X (.Constant (.str x) j pos) (tC (.str x)) := fun _ _ _ H _ I h => Calls.Constant_str ⟨.str x, H, I.tok _, ⟨_, rfl⟩, h⟩

/-- a global name of the def -/
def Gl (X : Cx) (x : Str) : Prop := X.env.kindOf x = some .globalImplicit
theorem ld_glob {E : Value → Shared → Prop} {pins : List (Addr × Obj)} {s : Shared} {σ : St} {H : Hp} {x : Str} {u : Value} {pos : Pos} {Q : Value → Shared → Prop} (I : Inv X pins σ H s) (hg : Gl X x) (hm : X.mg x = some u) (h : Q u s)
    (hd : (x == ("__debug__" : Str)) = false := by decide) : wpAny (model X.prog X.w) X.A (eval (.Name x pos) X.env) Q E s :=
  Calls.Name_function_global I.ok.kind hg (Calls.loadGlobal_global (by rw [I.ok.glob]; exact I.mod.glob.keeps I.bk) hm h) hd
theorem ld_blt {E : Value → Shared → Prop} {pins : List (Addr × Obj)} {s : Shared} {σ : St} {H : Hp} {x : Str} {u : Value} {pos : Pos} {Q : Value → Shared → Prop} (I : Inv X pins σ H s) (hg : Gl X x) (hm : X.mg x = none) (hv : bootBuiltins x = some u) (h : Q u s)
    (hn : x ≠ "__name__" := by decide) (hd : (x == ("__debug__" : Str)) = false := by decide) : wpAny (model X.prog X.w) X.A (eval (.Name x pos) X.env) Q E s := by
  obtain ⟨mb, h1, h2⟩ := I.mod.blt
  exact Calls.Name_function_global I.ok.kind hg (Calls.loadGlobal_builtin (by rw [I.ok.glob]; exact I.mod.glob.keeps I.bk) hm (by rw [I.ok.blt]; exact h1.keeps I.bk) ((h2 x hn).trans hv) h) hd
/-! ### arithmetic -/
/-- two ints -/
def t2I (ta tb : TE) (k : Int → Int → Hp → Prop) : St → Hp → Prop := fun σ H => ta σ H fun x H1 => tb σ H1 fun y H2 => ∃ i j, x = .int i ∧ y = .int j ∧ k i j H2
def tAdd (ta tb : TE) : TE := fun σ H Q => t2I ta tb (fun i j H2 => Q (.int (i + j)) H2) σ H
def tSub (ta tb : TE) : TE := fun σ H Q => t2I ta tb (fun i j H2 => Q (.int (i - j)) H2) σ H
/-- the left factor below 2^64 -/
def tMul (ta tb : TE) : TE := fun σ H Q => t2I ta tb (fun i j H2 => (-(2 ^ 64) < i ∧ i < 2 ^ 64) ∧ Q (.int (i * j)) H2) σ H
variable {a b : Expr} {ta tb : TE} {pos : Pos}
/-! ### comparisons -/
def PC (X : Cx) (op : CmpOp) (a b : Expr) (t : TE) : Prop :=
  ∀ (pins : List (Addr × Obj)) (s : Shared) (σ : St) (H : Hp) (Q : VK), Inv X pins σ H s → t σ H Q →
    wpAny (model X.prog X.w) X.A (eval a X.env) (fun v s₁ => wpAny (model X.prog X.w) X.A (eval b X.env) (fun u s₂ => wpAny (model X.prog X.w) X.A (compareOp op v u) (EP X pins σ Q) X.xe s₂) X.xe s₁) X.xe s
theorem nobehind (b : Expr) {op : CmpOp} (h : op ≠ .In) (h2 : op ≠ .NotIn) : behindInMarks op b = false := by
  have e1 : (op == CmpOp.In) = false := by cases op <;> first | rfl | exact absurd rfl h
  have e2 : (op == CmpOp.NotIn) = false := by cases op <;> first | rfl | exact absurd rfl h2
  cases b <;> simp [behindInMarks, e1, e2]
def tCmp (p : Int → Int → Bool) (ta tb : TE) : TE := fun σ H Q => t2I ta tb (fun i j H2 => Q (.bl (p i j)) H2) σ H
abbrev tLt : TE → TE → TE := tCmp fun i j => decide (i < j)
abbrev tLe : TE → TE → TE := tCmp fun i j => decide (i ≤ j)
abbrev tGt : TE → TE → TE := tCmp fun i j => decide (j < i)
abbrev tGe : TE → TE → TE := tCmp fun i j => decide (j ≤ i)
abbrev tEqI : TE → TE → TE := tCmp fun i j => decide (i = j)
abbrev tNeI : TE → TE → TE := tCmp fun i j => !decide (i = j)
/-- is None -/
def tIsN (ta : TE) : TE := fun σ H Q => ta σ H fun x H1 => Q (.bl (decide (x = .non))) H1
def tNotN (ta : TE) : TE := fun σ H Q => ta σ H fun x H1 => Q (.bl (!decide (x = .non))) H1
/-- a comparison as a value, as a test -/
def tB (t : TE) : TT := fun σ H Q => t σ H fun x H1 => ∃ c, x = .bl c ∧ Q c H1
theorem pt_cmp {op : CmpOp} {t : TE} (h : PC X op a b t) (h1 : behindInMarks op b = false := by first | exact nobehind _ (by decide) (by decide) | rfl) : PT X (.Compare a [op] [b] pos) (tB t) := by
  intro pins s σ H Q I hw
  refine wpAny_isTrue_Compare1 (thn (h pins s σ H _ I hw) fun v s1 h1 => thn h1 fun u s2 h2 => thn h2 fun c s3 ⟨x, H1, I1, r1, q1⟩ => ?_) h1
  obtain ⟨d, rfl, q⟩ := q1
  cases r1
  exact wpAny_truthy_bool ⟨H1, I1, q⟩
/-- an expression whose value is a bool, as a test -/
theorem pt_val {e : Expr} {t : TE} (h : PE X e t) (he : ∀ whole, isTrue e X.env whole = (do let v ← whole; standAt e.pos; holding [v] (truthy v)) := by intro _; rfl) : PT X e (tB t) := by
  intro pins s σ H Q I hw
  refine isTrue_plain (thn (h pins s σ H _ I hw) fun v s1 ⟨x, H1, I1, r1, q1⟩ => ?_) (he _)
  obtain ⟨d, rfl, q⟩ := q1
  cases r1
  exact wpAny_truthy_bool ⟨H1, I1, q⟩

/-! ### and, or, not -/
variable {tA tB' : TT} {rest : List Expr}
def tAnd (t u : TT) : TT := fun σ H Q => t σ H fun c H1 => if c = true then u σ H1 Q else Q false H1
def tOr (t u : TT) : TT := fun σ H Q => t σ H fun c H1 => if c = true then Q true H1 else u σ H1 Q
def tNot (t : TT) : TT := fun σ H Q => t σ H fun c H1 => Q (!c) H1
theorem pw_or1 (ha : PT X a tA) : PW X (.BoolOp .Or [a] pos) tA := by
  intro wh pins s σ H Q I h
  refine isTrue_or (thn (ha pins s σ H Q I h) fun c s1 e => ?_)
  cases c with
  | false => exact isTrue_or_nil e
  | true => exact e
theorem pw_or (ha : PT X a tA) (hb : PW X (.BoolOp .Or (b :: rest) pos) tB') : PW X (.BoolOp .Or (a :: b :: rest) pos) (tOr tA tB') := by
  intro wh pins s σ H Q I h
  refine isTrue_or (thn (ha pins s σ H _ I h) fun c s1 ⟨H1, I1, q1⟩ => ?_)
  cases c with
  | true => exact ⟨H1, I1, q1⟩
  | false => exact hb wh pins s1 σ H1 Q I1 q1
theorem pt_not (ha : PT X a tA) : PT X (.UnaryOp .Not a pos) (tNot tA) := by
  intro pins s σ H Q I h
  exact isTrue_not (ha pins s σ H (fun c H1 => Q (!c) H1) I h)
/-- .. as values (bools) -/
def tAndV (ta tb : TE) : TE := fun σ H Q => ta σ H fun x H1 => ∃ c, x = .bl c ∧ if c = true then tb σ H1 Q else Q (.bl false) H1
def tOrV (ta tb : TE) : TE := fun σ H Q => ta σ H fun x H1 => ∃ c, x = .bl c ∧ if c = true then Q (.bl true) H1 else tb σ H1 Q
def tNotV (ta : TE) : TE := fun σ H Q => ta σ H fun x H1 => ∃ c, x = .bl c ∧ Q (.bl (!c)) H1
/-- a if t else b -/
def tIf (t : TT) (ta tb : TE) : TE := fun σ H Q => t σ H fun c H1 => if c = true then ta σ H1 Q else tb σ H1 Q
end
end L2

namespace L2
open PySem PySem.Spec PyProof.Rows

/-! ### a list, a tuple that is read: tracked, frozen, or an object of the module -/
def SqL (K : PySem.W.Frag) (H : Hp) (a : Addr) (xs : List V) : Prop :=
  Rd H a (.lst xs) ∨
    ∃ (o : Obj) (its : Array Value) (n : Nat), K.lookup a = some o ∧ o.cls = .type "list" ∧ o.dict = none ∧ o.data = .seq its n ∧ its.size ≤ sizeLine ∧ Vals xs its.toList
def SqT (K : PySem.W.Frag) (H : Hp) (a : Addr) (xs : List V) : Prop :=
  Rd H a (.tup xs) ∨
    ∃ (o : Obj) (its : Array Value) (n : Nat), K.lookup a = some o ∧ o.cls = .type "tuple" ∧ o.data = .seq its n ∧ its.size ≤ sizeLine ∧ Vals xs its.toList
def absV : Value → Option V
  | .none => some .non
  | .bool b => some (.bl b)
  | .int i _ => some (.int i)
  | .str x _ => some (.str x)
  | .bytes b _ => some (.byt b)
  | .float b _ => some (.flt b)
  | .ref a => some (.ref a)
  | .type n => some (.ty n)
  | _ => none
theorem RelV.abs {x : V} {u : Value} (r : RelV x u) : absV u = some x := by
  cases x with
  | non => cases r; rfl
  | bl _ => cases r; rfl
  | int _ => obtain ⟨t, rfl⟩ := r; rfl
  | str _ => obtain ⟨t, rfl⟩ := r; rfl
  | byt _ => obtain ⟨t, rfl⟩ := r; rfl
  | flt _ => obtain ⟨t, rfl⟩ := r; rfl
  | ref _ => cases r; rfl
  | ty _ => cases r; rfl
theorem RelV.inj {x y : V} {u : Value} (r : RelV x u) (q : RelV y u) : x = y := Option.some.inj (r.abs.symm.trans q.abs)
theorem Vals.inj : ∀ {xs ys : List V} {us : List Value}, Vals xs us → Vals ys us → xs = ys
  | _, _, _, .nil, .nil => rfl
  | _, _, _, .cons r t, .cons r' t' => by rw [r.inj r', Vals.inj t t']
section
variable {X : Cx} {pins : List (Addr × Obj)} {σ : St} {H : Hp} {s : Shared} {a : Addr} {xs ys : List V}
theorem SqL.of {K : PySem.W.Frag} (h : H a = some (.lst xs)) : SqL K H a xs := .inl (.inl h)
theorem SqT.of {K : PySem.W.Frag} (h : H a = some (.tup xs)) : SqT K H a xs := .inl (.inl h)
theorem Inv.list (I : Inv X pins σ H s) (h : SqL X.K H a xs) : ∃ its : List Value, Vals xs its ∧ PlainL s.heap a its.toArray ∧ xs.length ≤ sizeLine := by
  rcases h with h | ⟨o, its, n, hk, hc, hd, hs, hz, r⟩
  · obtain ⟨z, its, n, r, e⟩ := h.ok I.hok
    exact ⟨its, r, ⟨_, n, e, rfl, rfl, rfl⟩, z⟩
  · refine ⟨its.toList, r, ⟨o, n, I.kIn a o hk, hc, hd, by simpa using hs⟩, ?_⟩
    have e := r.length
    simp only [Array.length_toList] at e
    omega
theorem Inv.tuple (I : Inv X pins σ H s) (h : SqT X.K H a xs) : ∃ its : List Value, Vals xs its ∧ IsTup s.heap a its.toArray ∧ xs.length ≤ sizeLine := by
  rcases h with h | ⟨o, its, n, hk, hc, hs, hz, r⟩
  · obtain ⟨z, its, r, p⟩ := h.ok I.hok
    exact ⟨its, r, p, z⟩
  · refine ⟨its.toList, r, ⟨o, I.kIn a o hk, hc, n, by simpa using hs⟩, ?_⟩
    have e := r.length
    simp only [Array.length_toList] at e
    omega
theorem Inv.list_inj (I : Inv X pins σ H s) (h : SqL X.K H a xs) (h' : SqL X.K H a ys) : xs = ys := by
  obtain ⟨its, r, ⟨o, n, e, _, _, d⟩, _⟩ := I.list h
  obtain ⟨its', r', ⟨o', n', e', _, _, d'⟩, _⟩ := I.list h'
  rw [e] at e'; cases e'
  rw [d] at d'
  injection d' with d1 _
  have : its = its' := by simpa using congrArg Array.toList d1
  subst this
  exact r.inj r'
end

/-! ### another wish about exceptions -/
abbrev Cx.wish (X : Cx) (E : Value → Shared → Prop) : Cx := { X with xe := E }
/-- no exception leaves -/
abbrev Cx.nox (X : Cx) : Cx := X.wish fun _ _ => False
theorem Cx.Ok.wish {X : Cx} (ok : X.Ok) (E : Value → Shared → Prop) : (X.wish E).Ok :=
  ⟨ok.mod, ok.kind, ok.glob, ok.blt, ok.above, ok.inj, ok.has, ok.cab, ok.hd, ok.frames, ok.stk, ok.exf, ok.bs, ok.bsz, ok.noex, ok.exfs, ok.funs, ok.frf⟩
theorem Cx.Ok.unwish {X : Cx} {E : Value → Shared → Prop} (ok : (X.wish E).Ok) : X.Ok :=
  ⟨ok.mod, ok.kind, ok.glob, ok.blt, ok.above, ok.inj, ok.has, ok.cab, ok.hd, ok.frames, ok.stk, ok.exf, ok.bs, ok.bsz, ok.noex, ok.exfs, ok.funs, ok.frf⟩
section
variable {X : Cx} {pins : List (Addr × Obj)} {σ : St} {H : Hp} {s : Shared} {E : Value → Shared → Prop}
theorem Inv.wish (I : Inv X pins σ H s) (E : Value → Shared → Prop) : Inv (X.wish E) pins σ H s := ⟨I.ok.wish E, I.os, I.bare, I.base, I.loc, I.cell, I.free, I.freeC, I.pin, I.hok, I.len⟩
theorem Inv.unwish (I : Inv (X.wish E) pins σ H s) : Inv X pins σ H s := ⟨I.ok.unwish, I.os, I.bare, I.base, I.loc, I.cell, I.free, I.freeC, I.pin, I.hok, I.len⟩
theorem SP.unwish {D : Ends} {f : Flow} {s' : Shared} (h : SP (X.wish E) pins D f s') : SP X pins D f s' := by
  cases f with
  | next => obtain ⟨σ', H', I, q⟩ := h; exact ⟨σ', H', I.unwish, q⟩
  | brk => obtain ⟨σ', H', I, q⟩ := h; exact ⟨σ', H', I.unwish, q⟩
  | cont => obtain ⟨σ', H', I, q⟩ := h; exact ⟨σ', H', I.unwish, q⟩
  | ret u => obtain ⟨v, σ', H', I, r, q⟩ := h; exact ⟨v, σ', H', I.unwish, r, q⟩
theorem PE.nox {e : Expr} {t : TE} (h : PE X.nox e t) : PE X e t := fun pins s σ H Q I hw =>
  wpAny_mono (h pins s σ H Q (I.wish _) hw) (fun _ _ ⟨v, H', I', r, q⟩ => ⟨v, H', I'.unwish, r, q⟩) fun _ _ z => False.elim z
theorem PT.nox {e : Expr} {t : TT} (h : PT X.nox e t) : PT X e t := fun pins s σ H Q I hw =>
  wpAny_mono (h pins s σ H Q (I.wish _) hw) (fun _ _ ⟨H', I', q⟩ => ⟨H', I'.unwish, q⟩) fun _ _ z => False.elim z
theorem PSs.nox {st : List Stmt} {t : TS} (h : PSs X.nox st t) : PSs X st t := fun pins s σ H D I hw =>
  wpAny_mono (h pins s σ H D (I.wish _) hw) (fun _ _ q => q.unwish) fun _ _ z => False.elim z
end

/-! ### blocks and small statements -/
section
variable {X : Cx} {st : Stmt} {rest : List Stmt} {t u : TS} {e : Expr} {te : TE} {pos : Pos}
def tNext : TS := fun D σ H => D.nx σ H
def tSeq (t u : TS) : TS := fun D σ H => t { D with nx := u D } σ H
theorem pss_nil : PSs X [] tNext := fun _ _ σ H _ I h => wpAny_execs_nil ⟨σ, H, I, h⟩
theorem pss_cons (h1 : PS X st t) (h2 : PSs X rest u) : PSs X (st :: rest) (tSeq t u) := by
  intro pins s σ H D I h
  refine wpAny_execs_cons (thn (h1 pins s σ H { D with nx := u D } I h) fun f s1 q => ?_)
  cases f with
  | next =>
    obtain ⟨σ', H', I', q⟩ := q
    exact h2 pins s1 σ' H' D I' q
  | ret v => exact q
  | brk => exact q
  | cont => exact q
theorem pss_one (h1 : PS X st t) : PSs X [st] t := by
  intro pins s σ H D I h
  refine wpAny_execs_cons (thn (h1 pins s σ H D I h) fun f s1 q => ?_)
  cases f with
  | next => exact wpAny_execs_nil q
  | ret v => exact q
  | brk => exact q
  | cont => exact q
def tBreak : TS := fun D σ H => D.bk σ H
def tCont : TS := fun D σ H => D.ct σ H
/-- in a def's body nothing is shown -/
theorem Inv.quiet {pins : List (Addr × Obj)} {σ : St} {H : Hp} {s : Shared} (I : Inv X pins σ H s) : interactive X.env = false := by simp [interactive, I.ok.kind]
/-- an expression whose value is dropped -/
def tDrop (te : TE) : TS := fun D σ H => te σ H fun _ H1 => D.nx σ H1
theorem ps_expr (he : PE X e te) (hs : swapsWith e none pos.line X.env = pure false := by rfl) : PS X (.Expr e pos) (tDrop te) := by
  intro pins s σ H D I h
  exact wpAny_Expr_any (thn (he pins s σ H _ I h) fun v s1 ⟨x, H1, I1, r1, q1⟩ => ⟨σ, H1, I1, q1⟩) I.quiet hs
def tRet (te : TE) : TS := fun D σ H => te σ H D.rt
theorem ps_ret (he : PE X e te) : PS X (.Return (some e) pos) (tRet te) := by
  intro pins s σ H D I h
  exact wpAny_Return_some (thn (he pins s σ H _ I h) fun v s1 ⟨x, H1, I1, r1, q1⟩ => ⟨x, σ, H1, I1, r1, q1⟩)
def tRetN : TS := fun D _ H => D.rt .non H
def tIfS (c : TT) (t u : TS) : TS := fun D σ H => c σ H fun b H1 => if b = true then t D σ H1 else u D σ H1
theorem ps_if {c : Expr} {a b : List Stmt} {tc : TT} (hc : PT X c tc) (ha : PSs X a t) (hb : PSs X b u) : PS X (.If c a b pos) (tIfS tc t u) := by
  intro pins s σ H D I h
  refine wpAny_If (thn (hc pins s σ H _ I h) fun d s1 ⟨H1, I1, q1⟩ => ?_)
  cases d with
  | true => exact ha pins s1 σ H1 D I1 q1
  | false => exact hb pins s1 σ H1 D I1 q1
/-- code that the proof never comes to -/
def tNever : TS := fun _ _ _ => False
end

/-! ### targets -/
abbrev TG := V → St → Hp → (St → Hp → Prop) → Prop
abbrev TGs := List V → St → Hp → (St → Hp → Prop) → Prop
def PG (X : Cx) (target : Expr) (t : TG) : Prop :=
  ∀ (pins : List (Addr × Obj)) (s : Shared) (σ : St) (H : Hp) (v : V) (u : Value) (Q : St → Hp → Prop), Inv X pins σ H s → RelV v u → t v σ H Q →
    wpAny (model X.prog X.w) X.A (assign target X.env u) (fun _ s' => ∃ σ' H', Inv X pins σ' H' s' ∧ Q σ' H') X.xe s
/-- several targets, one after another -/
def PGs (X : Cx) (ts : List Expr) (t : TGs) : Prop :=
  ∀ (pins : List (Addr × Obj)) (s : Shared) (σ : St) (H : Hp) (vs : List V) (us : List Value) (Q : St → Hp → Prop), Inv X pins σ H s → Vals vs us → t vs σ H Q →
    wpAny (model X.prog X.w) X.A (assignInOrder ((assignEach ts X.env).map (·.2)) us) (fun _ s' => ∃ σ' H', Inv X pins σ' H' s' ∧ Q σ' H') X.xe s
/-- o[i] = v, by values -/
abbrev TSet := V → V → V → Hp → (Hp → Prop) → Prop
def PSet (X : Cx) (t : TSet) : Prop :=
  ∀ (pins : List (Addr × Obj)) (s : Shared) (σ : St) (H : Hp) (o i v : V) (ov iv u : Value) (Q : Hp → Prop), Inv X pins σ H s → RelV o ov → RelV i iv → RelV v u → t o i v H Q →
    wpAny (model X.prog X.w) X.A (setItem ov iv u) (fun _ s' => ∃ H', Inv X pins σ H' s' ∧ Q H') X.xe s
/-- a op= b, by values -/
abbrev TIp := V → V → Hp → VK → Prop
def PIp (X : Cx) (op : Operator) (t : TIp) : Prop :=
  ∀ (pins : List (Addr × Obj)) (s : Shared) (σ : St) (H : Hp) (x y : V) (v u : Value) (Q : VK), Inv X pins σ H s → RelV x v → RelV y u → t x y H Q →
    wpAny (model X.prog X.w) X.A (inplaceOp op v u) (EP X pins σ Q) X.xe s
section
variable {X : Cx} {pos : Pos}
def gName (i : Nat) : TG := fun v σ H Q => Q (σ.set i (some v)) H
theorem pg_name {i : Nat} {x : Str} (hN : X.N.Nodup) (hi : X.N[i]? = some x) (hx : Loc X.env.scope x) (hf : X.fn x = true ∨ X.env.scope.names.lookup x = some .local := by first | exact .inl rfl | exact .inr rfl | assumption) : PG X (.Name x pos) (gName i) := by
  intro pins s σ H v u Q I r h
  exact wpAny_assign_Name (store_ok I hN hi hx r (fun s' I' => ⟨_, H, I', h⟩) hf)
def gNil : TGs := fun vs σ H Q => vs = [] ∧ Q σ H
def gCons (t : TG) (u : TGs) : TGs := fun vs σ H Q => ∃ v r, vs = v :: r ∧ t v σ H fun σ' H' => u r σ' H' Q
theorem pgs_nil : PGs X [] gNil := by
  intro pins s σ H vs us Q I r h
  obtain ⟨e, h⟩ := h
  subst e
  cases r
  exact assignInOrder_nil ⟨σ, H, I, h⟩
theorem pgs_cons {e : Expr} {es : List Expr} {t : TG} {u : TGs} (h1 : PG X e t) (h2 : PGs X es u)
    (hs : (assignEach (e :: es) X.env).map (·.2) = assign e X.env :: (assignEach es X.env).map (·.2) := by rfl) : PGs X (e :: es) (gCons t u) := by
  intro pins s σ H vs us Q I r h
  obtain ⟨v, vr, e1, h⟩ := h
  subst e1
  cases r with
  | cons r rr =>
    rw [hs]
    refine assignInOrder_cons (thn (h1 pins s σ H _ _ _ I r h) fun _ s1 ⟨σ1, H1, I1, q1⟩ => ?_)
    exact h2 pins s1 σ1 H1 _ _ Q I1 rr q1
/-- (a, b, ..) = a tuple of that length -/
def gTup (K : PySem.W.Frag) (n : Nat) (t : TGs) : TG := fun v σ H Q => ∃ a xs, v = .ref a ∧ SqT K H a xs ∧ xs.length = n ∧ t xs σ H Q
theorem pg_tup {es : List Expr} {k : Nat} {t : TGs} {n : Nat} (hc : X.calm = true) (h : PGs X es t)
    (hn : (assignEach es X.env).length = n := by rfl) (hst : (assignEach es X.env).findIdx? (·.1) = none := by rfl) : PG X (.Tuple es k pos) (gTup X.K n t) := by
  intro pins s σ H v u Q I r hw
  obtain ⟨a, xs, e1, hq, hl, hw⟩ := hw
  subst e1
  cases r
  obtain ⟨its, rv, ht, hz⟩ := I.tuple hq
  refine assign_Tuple_tuple (I.ok.hd hc) ht (by simp [hn, ← hl, rv.length]) hst fun h' hx => ?_
  have I1 : Inv X pins σ H { s with heap := h' } := I.kept (t' := s.toks) fun b o e => hx b o (Nat.ne_of_lt (Heap.lt_size e)) e
  exact h pins _ σ H xs _ Q I1 (by simpa using rv) hw
/-- o[i] = .. -/
def gSub (to ti : TE) (t : TSet) : TG := fun v σ H Q => to σ H fun o H1 => ti σ H1 fun i H2 => t o i v H2 fun H3 => Q σ H3
theorem pg_sub {o i : Expr} {to ti : TE} {t : TSet} (ho : PE X o to) (hi : PE X i ti) (hs : PSet X t)
    (ha : ∀ v, assign (.Subscript o i pos) X.env v = (do
      let ov ← holding [v] (eval o X.env)
      let iv ← holding [v, ov] (eval i X.env)
      standAt pos
      holding [v, ov, iv] (setItem ov iv v)
      release [v, ov, iv] []) := by intro _; rfl) : PG X (.Subscript o i pos) (gSub to ti t) := by
  intro pins s σ H v u Q I r h
  rw [ha]
  refine wpAny_bind (wpAny_holding (thn (ho pins s σ H _ I h) fun ov s1 ⟨x, H1, I1, r1, q1⟩ => ?_))
  refine wpAny_bind (wpAny_holding (thn (hi pins s1 σ H1 _ I1 q1) fun iv s2 ⟨y, H2, I2, r2, q2⟩ => ?_))
  refine wpAny_bind (wpAny_standAt (wpAny_bind (wpAny_holding (thn (hs pins s2 σ H2 x y v ov iv u _ I2 r1 r2 r q2) fun _ s3 ⟨H3, I3, q3⟩ => ?_))))
  exact wpAny_release ⟨σ, H3, I3, q3⟩
/-- target = value -/
def tAsg (te : TE) (g : TG) : TS := fun D σ H => te σ H fun x H1 => g x σ H1 D.nx
theorem ps_asg {tg e : Expr} {te : TE} {g : TG} (he : PE X e te) (hg : PG X tg g) (hs : swapsWithSole [tg] e pos.line X.env = pure false := by rfl) (hw : swappedStores [tg] e X.env = pure none := by rfl)
    (h1 : (assignEach [tg] X.env).map (·.2) = [assign tg X.env] := by rfl) : PS X (.Assign [tg] e pos) (tAsg te g) := by
  intro pins s σ H D I h
  refine wpAny_Assign_stores (thn (he pins s σ H _ I h) fun v s1 ⟨x, H1, I1, r1, q1⟩ => ?_) hs hw
  rw [h1]
  exact thn (hg pins s1 σ H1 x v _ I1 r1 q1) fun _ s2 q => q
/-- name = value -/
theorem ps_set {i : Nat} {x : Str} {e : Expr} {te : TE} {pos' : Pos} (hN : X.N.Nodup) (hi : X.N[i]? = some x) (hx : Loc X.env.scope x) (he : PE X e te) (hs : swapsWith e (some (.Name x pos')) pos.line X.env = pure false := by rfl) (hf : X.fn x = true ∨ X.env.scope.names.lookup x = some .local := by first | exact .inl rfl | exact .inr rfl | assumption) :
    PS X (.Assign [.Name x pos'] e pos) (tAsg te (gName i)) := by
  intro pins s σ H D I h
  refine wpAny_Assign_Name (thn (he pins s σ H _ I h) fun v s1 ⟨y, H1, I1, r1, q1⟩ => ?_) hs
  exact store_ok I1 hN hi hx r1 (fun s2 I2 => ⟨_, H1, I2, q1⟩) hf
/-- a, b = x, y with plain local names: stored from the right; the pair itself is not tracked (the opening rows as in PyProof/Rows/TupAssign.lean:23) -/
def tPar (i j : Nat) (ta : TA) : TS := fun D σ H => ta σ H fun vs H1 => ∃ v w, vs = [v, w] ∧ D.nx ((σ.set i (some v)).set j (some w)) H1
/-- name op= e -/
def tAug (i : Nat) (te : TE) (ti : TIp) : TS := fun D σ H => ∃ x, σ[i]? = some (some x) ∧ te σ H fun y H1 => ti x y H1 fun z H2 => D.nx (σ.set i (some z)) H2
/-- o[i] op= e -/
def tAugS (to ti te : TE) (tget : V → V → Hp → VK → Prop) (tip : TIp) (tset : TSet) : TS := fun D σ H => to σ H fun o H1 => ti σ H1 fun i H2 => tget o i H2 fun x H3 => te σ H3 fun y H4 => tip x y H4 fun z H5 => tset o i z H5 fun H6 => D.nx σ H6
/-- o[i], by values -/
def PGet (X : Cx) (t : V → V → Hp → VK → Prop) : Prop :=
  ∀ (pins : List (Addr × Obj)) (s : Shared) (σ : St) (H : Hp) (o i : V) (ov iv : Value) (Q : VK), Inv X pins σ H s → RelV o ov → RelV i iv → t o i H Q →
    wpAny (model X.prog X.w) X.A (getItem ov iv) (EP X pins σ Q) X.xe s
/-- ints -/
def ipI (f : Int → Int → Int) : TIp := fun x y H Q => ∃ i j, x = .int i ∧ y = .int j ∧ Q (.int (f i j)) H
end

/-! ### while -/
section
variable {X : Cx} {pos : Pos}
/-- the invariant W with its measure -/
def tWhile (c : TT) (tb : TS) : TS := fun D σ H => ∃ W : Nat → St → Hp → Prop, (∃ m, W m σ H) ∧ ∀ m σ H, W m σ H →
  c σ H fun b H1 => if b = true then ∃ N : St → Hp → Prop, (∀ σ' H', N σ' H' → ∃ m', m' < m ∧ W m' σ' H') ∧ tb { D with nx := N, ct := N, bk := D.nx } σ H1 else D.nx σ H1
theorem ps_while {c : Expr} {body : List Stmt} {tc : TT} {tb : TS} (hp : PassesOwn (model X.prog X.w) X.A X.env X.xe) (hc : PT X c tc) (hb : PSs X body tb) : PS X (.While c body [] pos) (tWhile tc tb) := by
  intro pins s σ H D I h
  obtain ⟨W, ⟨m0, w0⟩, turn⟩ := h
  refine wpAny_While (codeAny_whileLoop (fun n s' => ∃ σ' H', Inv X pins σ' H' s' ∧ W n σ' H') ?_ m0 ⟨σ, H, I, w0⟩)
  rintro n s1 ⟨σ1, H1, I1, w1⟩
  refine wpAny_passesOwn hp (thn (hc pins s1 σ1 H1 _ I1 (turn n σ1 H1 w1)) fun b s2 ⟨H2, I2, q2⟩ => ?_)
  cases b with
  | true =>
    obtain ⟨N, hN, q2⟩ := q2
    rw [if_pos rfl]
    refine wpAny_passesOwn hp (thn (hb pins s2 σ1 H2 _ I2 q2) fun f s3 q3 => ?_)
    cases f with
    | next =>
      obtain ⟨σ3, H3, I3, n3⟩ := q3
      obtain ⟨m', hm, w3⟩ := hN σ3 H3 n3
      exact ⟨m', hm, σ3, H3, I3, w3⟩
    | cont =>
      obtain ⟨σ3, H3, I3, n3⟩ := q3
      obtain ⟨m', hm, w3⟩ := hN σ3 H3 n3
      exact ⟨m', hm, σ3, H3, I3, w3⟩
    | brk => exact q3
    | ret v => exact q3
  | false =>
    rw [if_neg Bool.false_ne_true]
    exact wpAny_execs_nil ⟨σ1, H2, I2, q2⟩
end

/-! ### what a loop or a comprehension walks -/
/-- at turn i: it yields x (the heap may grow), or it stops -/
structure It where
  go : Nat → Hp → Prop
  yld : Nat → Hp → V → Hp → Prop
  stop : Nat → Hp → Prop
/-- the iterator's own objects may turn: they are not the frame's, not pinned, younger than the entry (or a comprehension's own) -/
def FpOk (X : Cx) (pins : List (Addr × Obj)) (H : Hp) (b : Addr) : Prop :=
  H b = none ∧ b ≠ X.env.locals ∧ b ∉ X.fs ∧ (b ∈ X.ex ∨ X.s₀.heap.objs.size ≤ b) ∧ (∀ x c, X.env.cells.lookup x = some c → c ≠ b) ∧ ∀ p ∈ X.pn ++ pins, p.1 ≠ b
theorem Inv.fpOk {X : Cx} {pins : List (Addr × Obj)} {σ : St} {H H' : Hp} {s : Shared} {b : Addr} (I : Inv X pins σ H s) (hb : s.heap.objs.size ≤ b) (hn : H' b = none) : FpOk X pins H' b := by
  refine ⟨hn, Nat.ne_of_gt (Nat.lt_of_lt_of_le I.lt hb), I.nofs hb, .inr (Nat.le_trans I.sz hb), fun x c e z => ?_, fun p hp z => ?_⟩
  · obtain ⟨v, q⟩ := I.cell x c e
    exact absurd (Nat.lt_of_lt_of_le q.lt (by rw [z]; exact hb)) (Nat.lt_irrefl _)
  · exact absurd (Nat.lt_of_lt_of_le (Heap.lt_size (I.pin p hp).1) (by rw [z]; exact hb)) (Nat.lt_irrefl _)
structure Turn (P : Program) (w : World) (K : PySem.W.Frag) (tg : Expr) (J : It) (fp : List Addr) (it : Addr) (tn : Nat → Heap → Prop) : Prop where
  mem : it ∈ fp
  obj : ∀ i h, tn i h → ∀ b ∈ fp, ∃ o, h.get? b = some o ∧ ∀ v, o.data ≠ .cell v
  keep : ∀ i h h', tn i h → (∀ b ∈ fp, ∀ o, h.get? b = some o → h'.get? b = some o) → tn i h'
  item : ∀ (X : Cx), X.prog = P → X.w = w → X.K = K → X.calm = true → ∀ (i : Nat) (pins : List (Addr × Obj)) (s : Shared) (σ : St) (H : Hp) (E : Value → Shared → Prop), Inv X pins σ H s → (∀ b ∈ fp, FpOk X pins H b) → tn i s.heap → J.go i H →
    wpAny (model P w) X.A (pyNext (.ref it)) (fun r s1 => ∃ u, r = some u ∧
      wpAny (model P w) X.A (letOwnedTupleGo tg (.ref it) u) (fun _ s2 => ∃ x H', Inv X pins σ H' s2 ∧ RelV x u ∧ J.yld i H x H' ∧ tn (i + 1) s2.heap ∧ ∀ b ∈ fp, H' b = none) E s1) E s
  done : ∀ (X : Cx), X.prog = P → X.w = w → X.K = K → X.calm = true → ∀ (i : Nat) (pins : List (Addr × Obj)) (s : Shared) (σ : St) (H : Hp) (E : Value → Shared → Prop), Inv X pins σ H s → (∀ b ∈ fp, FpOk X pins H b) → tn i s.heap → J.stop i H →
    wpAny (model P w) X.A (pyNext (.ref it)) (fun r s1 => r = none ∧ Inv X pins σ H s1) E s
  self : ∀ (A : Around) (i : Nat) (s : Shared) (Q : Value → Shared → Prop) (E : Value → Shared → Prop), tn i s.heap → Q (.ref it) s → wpAny (model P w) A (pyIter (.ref it)) Q E s
abbrev TI := St → Hp → (It → Hp → Prop) → Prop
/-- an iterator has come -/
def PIE (X : Cx) (pins : List (Addr × Obj)) (σ : St) (tg : Expr) (R : It → Hp → Prop) (itv : Value) (s2 : Shared) : Prop :=
  ∃ (it : Addr) (fp : List Addr) (tn : Nat → Heap → Prop) (J : It) (H' : Hp), itv = .ref it ∧ Inv X pins σ H' s2 ∧ Turn X.prog X.w X.K tg J fp it tn ∧ tn 0 s2.heap ∧ (∀ b ∈ fp, FpOk X pins H' b) ∧ R J H'
def PI (X : Cx) (tg iter : Expr) (wi : TI) : Prop :=
  ∀ (pins : List (Addr × Obj)) (s : Shared) (σ : St) (H : Hp) (R : It → Hp → Prop), Inv X pins σ H s → wi σ H R →
    wpAny (model X.prog X.w) X.A (eval iter X.env) (fun v s1 => wpAny (model X.prog X.w) X.A (pyIter v) (PIE X pins σ tg R) X.xe s1) X.xe s

/-- the step ahead of the store is nothing for an iterator that keeps no tuple -/
theorem go_of {M : Model} {A : Around} {E : Value → Shared → Prop} {s : Shared} {tg : Expr} {it : Addr} {u : Value} {o : Obj} {n : String} {vs : Array Value} {Q : Unit → Shared → Prop} (ho : s.heap.get? it = some o) (hc : o.cls = .type n) (hd : o.data = .fields vs)
    (hn : ["enumerate", "zip", "dict_itemiterator", "dict_reverseitemiterator", "odict_iterator", "itertools.zip_longest", "itertools.pairwise"].contains n = false) (hQ : Q () s) : wpAny M A (letOwnedTupleGo tg (.ref it) u) Q E s := by
  unfold letOwnedTupleGo
  cases tg <;> first
    | exact wpAny_pure hQ
    | (cases u <;> first
        | exact wpAny_pure hQ
        | (refine wpAny_bind (wpAny_load ho ?_)
           rw [hc, hd]
           show wpAny M A (if (["enumerate", "zip", "dict_itemiterator", "dict_reverseitemiterator", "odict_iterator", "itertools.zip_longest", "itertools.pairwise"].contains n && vs[0]? == some (rawInt _)) = true then _ else _) Q E s
           rw [if_neg (by intro h; rw [hn, Bool.false_and] at h; cases h)]
           exact wpAny_pure hQ))

/-- the list at a, as it stands at each turn (a loop may append to it) -/
def Itl (K : PySem.W.Frag) (a : Addr) : It :=
  ⟨fun i H => ∃ xs x, SqL K H a xs ∧ xs[i]? = some x, fun i H x H' => H' = H ∧ ∀ xs, SqL K H a xs → xs[i]? = some x, fun i H => ∃ xs, SqL K H a xs ∧ xs.length ≤ i⟩
def Itt (K : PySem.W.Frag) (a : Addr) : It :=
  ⟨fun i H => ∃ xs x, SqT K H a xs ∧ xs[i]? = some x, fun i H x H' => H' = H ∧ ∀ xs, SqT K H a xs → xs[i]? = some x, fun i H => ∃ xs, SqT K H a xs ∧ xs.length ≤ i⟩
/-- lo, lo + 1, .. (n of them) -/
def Itr (lo : Int) (n : Nat) : It := ⟨fun i _ => i < n, fun i H x H' => H' = H ∧ x = .int (lo + i), fun i _ => n ≤ i⟩
theorem turn_list {P : Program} {w : World} {K : PySem.W.Frag} {tg : Expr} (a it : Addr) : Turn P w K tg (Itl K a) [it] it (fun i h => h.IsListIter it a i) where
  mem := by simp
  obj := fun i h st b hb => by
    have e : b = it := by simpa using hb
    subst e
    obtain ⟨o, e, c, d⟩ := st
    exact ⟨o, e, fun v z => by rw [d] at z; cases z⟩
  keep := fun i h h' st k => st.at fun o e => k it (by simp) o e
  item := by
    intro X hP hw hK hc i pins s σ H E I hf st hg
    subst hP hw hK
    obtain ⟨xs, x, hq, hx⟩ := hg
    obtain ⟨its, rv, p, hz⟩ := I.list hq
    obtain ⟨u, hu, ru⟩ := rv.get hx
    obtain ⟨f0, f1, f2, f3, f4, f5⟩ := hf it (by simp)
    refine wpAny_pyNext_list_item st p.isList (x := u) (by simpa using hu) fun h' st' sb => ?_
    have I1 : Inv X pins σ H { s with heap := h' } := I.turned (t' := s.toks) (fun b o hb e => (sb.2 b hb).trans e) f0 f1 f3 f4 f5
    obtain ⟨o, e, c, d⟩ := id st'
    exact ⟨u, rfl, go_of (s := { s with heap := h' }) e c d (by decide) ⟨x, H, I1, ru, ⟨rfl, fun ys hy => by rw [I.list_inj hy hq]; exact hx⟩, st', fun b hb => (hf b hb).1⟩⟩
  done := by
    intro X hP hw hK hc i pins s σ H E I hf st hg
    subst hP hw hK
    obtain ⟨xs, hq, hx⟩ := hg
    obtain ⟨its, rv, p, hz⟩ := I.list hq
    obtain ⟨f0, f1, f2, f3, f4, f5⟩ := hf it (by simp)
    have hl := rv.length
    exact wpAny_pyNext_list_end (I.ok.hd hc) st p.isList (by simp; omega) fun h' eb => ⟨rfl, I.turned (t' := s.toks) (fun b o hb e => eb b o hb e) f0 f1 f3 f4 f5⟩
  self := fun _ _ _ _ _ st h => wpAny_pyIter_listiter st h
theorem turn_range {P : Program} {w : World} {K : PySem.W.Frag} {tg : Expr} (it : Addr) (lo : Int) (n : Nat) : Turn P w K tg (Itr lo n) [it] it (fun i h => IsRangeIter h it (lo + (i : Nat) * 1) ((n : Int) - (i : Nat)) 1) where
  mem := by simp
  obj := fun i h st b hb => by
    have e : b = it := by simpa using hb
    subst e
    exact ⟨_, st, fun v z => by
      have z' : Data.fields _ = Data.cell v := z
      cases z'⟩
  keep := fun i h h' st k => k it (by simp) _ st
  item := by
    intro X hP hw hK hc i pins s σ H E I hf st hg
    subst hP hw hK
    obtain ⟨f0, f1, f2, f3, f4, f5⟩ := hf it (by simp)
    have W := Walks.range (prog := X.prog) (w := X.w) (I.ok.hd hc) it lo 1 n
    refine W.item i s _ _ hg st fun v h' tk hv st' kk => ?_
    obtain ⟨t, rfl⟩ := hv
    have I1 : Inv X pins σ H { s with heap := h', toks := tk } := I.turned (fun b o hb e => kk b o (by simpa using hb) e) f0 f1 f3 f4 f5
    refine ⟨_, rfl, go_of (s := { s with heap := h', toks := tk }) (n := "range_iterator") st' rfl rfl (by decide) ⟨.int (lo + i), H, I1, ⟨t, ?_⟩, ⟨rfl, rfl⟩, st', fun b hb => (hf b hb).1⟩⟩
    rw [Int.mul_one]
  done := by
    intro X hP hw hK hc i pins s σ H E I hf st hg
    subst hP hw hK
    obtain ⟨f0, f1, f2, f3, f4, f5⟩ := hf it (by simp)
    exact wpAny_pyNext_range_end (I.ok.hd hc) st (by have : n ≤ i := hg; omega) fun h' eb => ⟨rfl, I.turned (t' := s.toks) (fun b o hb e => eb b o hb e) f0 f1 f3 f4 f5⟩
  self := fun _ _ _ _ _ st h => wpAny_pyIter_rangeiter st h
end L2

namespace L2
open PySem PySem.Spec PyProof.Rows
section
variable {X : Cx} {tg : Expr}
def iList (K : PySem.W.Frag) (tl : TE) : TI := fun σ H R => tl σ H fun x H1 => ∃ a, x = .ref a ∧ (∃ xs, SqL K H1 a xs) ∧ R (Itl K a) H1
def iTup (K : PySem.W.Frag) (tl : TE) : TI := fun σ H R => tl σ H fun x H1 => ∃ a, x = .ref a ∧ (∃ xs, SqT K H1 a xs) ∧ R (Itt K a) H1
theorem pi_list {l : Expr} {tl : TE} (hl : PE X l tl) : PI X tg l (iList X.K tl) := by
  intro pins s σ H R I h
  refine thn (hl pins s σ H _ I h) fun v s1 ⟨x, H1, I1, r1, q1⟩ => ?_
  obtain ⟨a, e, ⟨xs, hq⟩, q⟩ := q1
  subst e
  cases r1
  obtain ⟨its, rv, p, hz⟩ := I1.list hq
  refine wpAny_pyIter_list p.isList ?_
  refine ⟨s1.heap.objs.size, [s1.heap.objs.size], _, _, H1, rfl, I1.kept (t' := s1.toks) fun b o e => Heap.get?_push_of_some _ e, turn_list a _, ⟨_, Heap.get?_push_size _ rfl, rfl, rfl⟩, fun b hb => ?_, q⟩
  have e : b = s1.heap.objs.size := by simpa using hb
  subst e
  exact I1.fpOk (Nat.le_refl _) (I1.hok.fresh (Nat.le_refl _))
/-- a range object just made, walked -/
theorem range_it {pins : List (Addr × Obj)} {σ : St} {H : Hp} {s : Shared} {R : It → Hp → Prop} {E : Value → Shared → Prop} {lo hi : Int} {t u v : Tok} {tk : Nat} (I : Inv X pins σ H s) (h1 : -(2 ^ 62) ≤ lo) (h2 : lo < 2 ^ 62) (h3 : -(2 ^ 62) ≤ hi) (h4 : hi < 2 ^ 62)
    (q : R (Itr lo (hi - lo).toNat) H) : wpAny (model X.prog X.w) X.A (pyIter (.ref s.heap.objs.size)) (PIE X pins σ tg R) E { s with heap := s.heap.push { cls := .type "range", data := .fields #[.int lo t, .int hi u, .int 1 v] }, toks := tk } := by
  refine wpAny_pyIter_range (IsRange.new ..) (small_one h1 h2 h3 h4) ?_
  have I1 : Inv X pins σ H { s with heap := s.heap.push { cls := .type "range", data := .fields #[.int lo t, .int hi u, .int 1 v] }, toks := tk } := I.kept fun b o e => Heap.get?_push_of_some _ e
  refine ⟨(s.heap.push { cls := .type "range", data := .fields #[.int lo t, .int hi u, .int 1 v] }).objs.size, [(s.heap.push { cls := .type "range", data := .fields #[.int lo t, .int hi u, .int 1 v] }).objs.size], _, _, H, rfl,
    I1.kept (t' := tk) fun b o e => Heap.get?_push_of_some _ e, turn_range _ lo (hi - lo).toNat, ?_, fun b hb => ?_, q⟩
  · have e1 : lo + ((0 : Nat) : Int) * 1 = lo := by simp
    have e2 : (((hi - lo).toNat : Nat) : Int) - ((0 : Nat) : Int) = Builtin.Range.rangeSize lo hi 1 := by rw [rangeSize_one]; split <;> omega
    show IsRangeIter _ _ (lo + ((0 : Nat) : Int) * 1) ((((hi - lo).toNat : Nat) : Int) - ((0 : Nat) : Int)) 1
    rw [e1, e2]
    exact Heap.get?_push_size _ rfl
  · have e : b = (s.heap.push { cls := .type "range", data := .fields #[.int lo t, .int hi u, .int 1 v] }).objs.size := by simpa using hb
    subst e
    exact I1.fpOk (Nat.le_refl _) (I1.hok.fresh (Nat.le_refl _))
def iRng1 (ta : TA) : TI := fun σ H R => ta σ H fun vs H1 => ∃ j : Int, vs = [.int j] ∧ -(2 ^ 62) ≤ j ∧ j < 2 ^ 62 ∧ R (Itr 0 j.toNat) H1
def iRng2 (ta : TA) : TI := fun σ H R => ta σ H fun vs H1 => ∃ i j : Int, vs = [.int i, .int j] ∧ (-(2 ^ 62) ≤ i ∧ i < 2 ^ 62 ∧ -(2 ^ 62) ≤ j ∧ j < 2 ^ 62) ∧ R (Itr i (j - i).toNat) H1
theorem pi_range1 {a : Expr} {ta : TA} {p pos : Pos} (hg : Gl X "range") (hm : X.mg "range" = none) (ha : PA X [a] ta) (hs : starEach [a] X.env = [(false, eval a X.env)] := by rfl) : PI X tg (.Call (.Name "range" p) [a] [] pos) (iRng1 ta) := by
  intro pins s σ H R I h
  refine Call_ (ld_blt I hg hm boot_range (PyProof.Rows.callWith_type1 (thn (ha pos pins s σ H _ I h) fun us s1 ⟨vs, H1, I1, r1, q1⟩ => ?_) hs rfl))
  obtain ⟨j, e, q1, q2, q⟩ := q1
  subst e
  cases r1 with
  | cons r rr =>
    cases rr
    obtain ⟨t, rfl⟩ := r
    exact call_range_1 (range_it I1 (by omega) (by omega) q1 q2 (by simpa using q))
/-! ### for -/
/-- W: the invariant by the turn and a measure; N: what the body is to reach -/
def tFor (wi : TI) (g : TG) (tb : TS) : TS := fun D σ H => wi σ H fun J H1 => ∃ W : Nat → Nat → St → Hp → Prop, (∃ m, W 0 m σ H1) ∧ ∀ i m σ H, W i m σ H →
  (J.stop i H ∧ D.nx σ H) ∨ (J.go i H ∧ ∃ N : St → Hp → Prop, (∀ σ' H', N σ' H' → ∃ m', m' < m ∧ W (i + 1) m' σ' H') ∧ ∀ x H', J.yld i H x H' → g x σ H' fun σ2 H2 => tb { D with nx := N, ct := N, bk := D.nx } σ2 H2)
/-- the records at fp as they stand -/
def pinsAt (fp : List Addr) (h : Heap) : List (Addr × Obj) := fp.filterMap fun b => (h.get? b).map fun o => (b, o)
theorem mem_pinsAt {fp : List Addr} {h : Heap} {b : Addr} {o : Obj} (hb : b ∈ fp) (e : h.get? b = some o) : (b, o) ∈ pinsAt fp h := List.mem_filterMap.mpr ⟨b, hb, by rw [e]; rfl⟩
theorem of_pinsAt {fp : List Addr} {h : Heap} {p : Addr × Obj} (hp : p ∈ pinsAt fp h) : p.1 ∈ fp ∧ h.get? p.1 = some p.2 := by
  obtain ⟨b, hb, e⟩ := List.mem_filterMap.mp hp
  cases q : h.get? b with
  | none => rw [q] at e; cases e
  | some o =>
    rw [q] at e
    have e' : (b, o) = p := Option.some.inj e
    subst e'
    exact ⟨hb, q⟩
theorem Inv.pinned {pins : List (Addr × Obj)} {σ : St} {H : Hp} {s : Shared} {fp : List Addr} (I : Inv X pins σ H s) (hf : ∀ b ∈ fp, FpOk X pins H b) (ho : ∀ b ∈ fp, ∃ o, s.heap.get? b = some o ∧ ∀ v, o.data ≠ .cell v) : Inv X (pins ++ pinsAt fp s.heap) σ H s :=
  I.pins_of fun p hp => (List.mem_append.mp hp).elim (fun z => I.pin p (List.mem_append_right _ z)) fun z => by
    obtain ⟨hb, e⟩ := of_pinsAt z
    obtain ⟨f0, f1, f2, _⟩ := hf p.1 hb
    obtain ⟨o, e', d⟩ := ho p.1 hb
    rw [e] at e'; cases e'
    exact ⟨e, f0, f1, f2, d⟩
theorem Inv.unpinned {pins pl : List (Addr × Obj)} {σ : St} {H : Hp} {s : Shared} (I : Inv X (pins ++ pl) σ H s) : Inv X pins σ H s := I.pins_of fun p hp => I.pin p (List.mem_append_right _ (List.mem_append_left _ hp))
theorem ps_for {iter : Expr} {body : List Stmt} {wi : TI} {g : TG} {tb : TS} {pos : Pos} (hp : PassesOwn (model X.prog X.w) X.A X.env X.xe) (hc : X.calm = true) (hi : PI X tg iter wi) (hg : PG X tg g) (hb : PSs X body tb)
    (hs : ∀ x, foldedSetIterable iter X.env x = pure x := by intro _; rfl) : PS X (.For tg iter body [] pos) (tFor wi g tb) := by
  intro pins s σ H D I h
  refine wpAny_For (thn (hi pins s σ H _ I h) fun v s1 h1 => thn h1 fun itv s2 h2 => ?_) hs
  obtain ⟨it, fp, tn, J, H2, e, I2, T, st2, f2, W, ⟨m0, w0⟩, turn⟩ := h2
  subst e
  -- what stays true of the iterator's objects through the loop
  have stat : ∀ {H' : Hp}, (∀ b ∈ fp, H' b = none) → ∀ b ∈ fp, FpOk X pins H' b := fun hn b hb => ⟨hn b hb, (f2 b hb).2⟩
  refine codeAny_forLoop_any (fun n s' => ∃ i σ' H', Inv X pins σ' H' s' ∧ tn i s'.heap ∧ (∀ b ∈ fp, H' b = none) ∧ W i n σ' H') ?_ m0 ⟨0, σ, H2, I2, st2, fun b hb => (f2 b hb).1, w0⟩
  rintro n s3 ⟨i, σ3, H3, I3, st3, fr3, w3⟩
  rcases turn i n σ3 H3 w3 with ⟨stop, qn⟩ | ⟨go, N, hN, step⟩
  · refine wpAny_passesOwn hp (thn (T.done X rfl rfl rfl hc i pins s3 σ3 H3 X.xe I3 (stat fr3) st3 stop) fun r s4 ⟨hr, I4⟩ => ?_)
    subst hr
    exact wpAny_execs_nil ⟨σ3, H3, I4, qn⟩
  · refine wpAny_passesOwn hp (thn (T.item X rfl rfl rfl hc i pins s3 σ3 H3 X.xe I3 (stat fr3) st3 go) fun r s4 ⟨u, hr, h4⟩ => ?_)
    subst hr
    refine wpAny_passesOwn hp (thn h4 fun _ s5 ⟨x, H5, I5, r5, y5, st5, fr5⟩ => ?_)
    have I5' := I5.pinned (stat fr5) (T.obj _ _ st5)
    refine wpAny_passesOwn hp (thn (hg _ s5 σ3 H5 x u _ I5' r5 (step x H5 y5)) fun _ s6 ⟨σ6, H6, I6, q6⟩ => ?_)
    refine wpAny_passesOwn hp (thn (hb _ s6 σ6 H6 _ I6 q6) fun f s7 q7 => ?_)
    have again : ∀ {σ7 : St} {H7 : Hp}, Inv X (pins ++ pinsAt fp s5.heap) σ7 H7 s7 → N σ7 H7 → ∃ m, m < n ∧ ∃ i σ' H', Inv X pins σ' H' s7 ∧ tn i s7.heap ∧ (∀ b ∈ fp, H' b = none) ∧ W i m σ' H' := fun {σ7 H7} I7 n7 => by
      obtain ⟨m', hm, w7⟩ := hN σ7 H7 n7
      refine ⟨m', hm, i + 1, σ7, H7, I7.unpinned, T.keep _ _ _ st5 fun b hb o e => (I7.pin (b, o) (List.mem_append_right _ (List.mem_append_right _ (mem_pinsAt hb e)))).1, fun b hb => ?_, w7⟩
      obtain ⟨o, e, d⟩ := T.obj _ _ st5 b hb
      exact (I7.pin (b, o) (List.mem_append_right _ (List.mem_append_right _ (mem_pinsAt hb e)))).2.1
    cases f with
    | next => obtain ⟨σ7, H7, I7, n7⟩ := q7; exact again I7 n7
    | cont => obtain ⟨σ7, H7, I7, n7⟩ := q7; exact again I7 n7
    | brk => obtain ⟨σ7, H7, I7, q7⟩ := q7; exact ⟨σ7, H7, I7.unpinned, q7⟩
    | ret v => obtain ⟨x7, σ7, H7, I7, r7, q7⟩ := q7; exact ⟨x7, σ7, H7, I7.unpinned, r7, q7⟩
end

/-! ### the forms one uses -/
/-- over a list that the body leaves as it is -/
theorem for_list {K : PySem.W.Frag} {a : Addr} {xs : List V} {g : TG} {tb : TS} {D : Ends} {σ : St} {H : Hp} (Pv : Nat → St → Hp → Prop) (h0 : Pv 0 σ H) (hl : ∀ i σ H, i ≤ xs.length → Pv i σ H → SqL K H a xs)
    (hs : ∀ i x σ H, xs[i]? = some x → Pv i σ H → g x σ H fun σ2 H2 => tb { D with nx := Pv (i + 1), ct := Pv (i + 1), bk := D.nx } σ2 H2) (hd : ∀ σ H, Pv xs.length σ H → D.nx σ H) :
    ∃ W : Nat → Nat → St → Hp → Prop, (∃ m, W 0 m σ H) ∧ ∀ i m σ H, W i m σ H →
      ((Itl K a).stop i H ∧ D.nx σ H) ∨ ((Itl K a).go i H ∧ ∃ N : St → Hp → Prop, (∀ σ' H', N σ' H' → ∃ m', m' < m ∧ W (i + 1) m' σ' H') ∧ ∀ x H', (Itl K a).yld i H x H' → g x σ H' fun σ2 H2 => tb { D with nx := N, ct := N, bk := D.nx } σ2 H2) := by
  refine ⟨fun i m σ H => m = xs.length - i ∧ i ≤ xs.length ∧ Pv i σ H, ⟨xs.length, by simp, Nat.zero_le _, h0⟩, ?_⟩
  rintro i m σ H ⟨rfl, hi, p⟩
  have q := hl i σ H hi p
  by_cases hlt : i < xs.length
  · refine .inr ⟨⟨xs, xs[i], q, by simp [hlt]⟩, Pv (i + 1), fun σ' H' p' => ⟨xs.length - (i + 1), by omega, rfl, hlt, p'⟩, fun x H' y => ?_⟩
    obtain ⟨e, y⟩ := y
    subst e
    exact hs i x σ _ (y xs q) p
  · have e : i = xs.length := by omega
    subst e
    exact .inl ⟨⟨xs, q, Nat.le_refl _⟩, hd σ H p⟩
/-- while, by a word and a measure of the state -/
theorem while_by {c : TT} {tb : TS} {D : Ends} {σ : St} {H : Hp} (Pv : St → Hp → Prop) (μ : St → Hp → Nat) (h0 : Pv σ H)
    (hs : ∀ σ H, Pv σ H → c σ H fun b H1 => if b = true then tb { D with nx := fun σ' H' => Pv σ' H' ∧ μ σ' H' < μ σ H, ct := fun σ' H' => Pv σ' H' ∧ μ σ' H' < μ σ H, bk := D.nx } σ H1 else D.nx σ H1)
    (mono : ∀ σ H Q Q', (∀ b H1, Q b H1 → Q' b H1) → c σ H Q → c σ H Q') : tWhile c tb D σ H := by
  refine ⟨fun m σ H => m = μ σ H ∧ Pv σ H, ⟨_, rfl, h0⟩, ?_⟩
  rintro m σ H ⟨rfl, p⟩
  refine mono σ H _ _ (fun b H1 q => ?_) (hs σ H p)
  cases b with
  | true => exact ⟨_, fun σ' H' ⟨p', l⟩ => ⟨_, l, rfl, p'⟩, q⟩
  | false => exact q
end L2

namespace L2
open PySem PySem.Spec PyProof.Rows

abbrev R2 := V → V → Hp → VK → Prop
/-- a two-place operation on values: f is binaryOp op, inplaceOp op or compareOp op -/
def OpR (X : Cx) (f : Value → Value → Sem Value) (r : R2) : Prop :=
  ∀ (pins : List (Addr × Obj)) (s : Shared) (σ : St) (H : Hp) (x y : V) (v u : Value) (Q : VK), Inv X pins σ H s → RelV x v → RelV y u → r x y H Q →
    wpAny (model X.prog X.w) X.A (f v u) (EP X pins σ Q) X.xe s
/-- a one-place operation -/
def UnR (X : Cx) (f : Value → Sem Value) (r : V → Hp → VK → Prop) : Prop :=
  ∀ (pins : List (Addr × Obj)) (s : Shared) (σ : St) (H : Hp) (x : V) (v : Value) (Q : VK), Inv X pins σ H s → RelV x v → r x H Q →
    wpAny (model X.prog X.w) X.A (f v) (EP X pins σ Q) X.xe s
/-- a call of a value that is known (a builtin, a type) with values -/
def CallR (X : Cx) (f : Value) (r : List V → Hp → VK → Prop) : Prop :=
  ∀ (pins : List (Addr × Obj)) (s : Shared) (σ : St) (H : Hp) (xs : List V) (us : List Value) (Q : VK), Inv X pins σ H s → Vals xs us → r xs H Q →
    wpAny (model X.prog X.w) X.A (call f us) (EP X pins σ Q) X.xe s
/-- a value's truth -/
def TruR (X : Cx) (r : V → Hp → (Bool → Hp → Prop) → Prop) : Prop :=
  ∀ (pins : List (Addr × Obj)) (s : Shared) (σ : St) (H : Hp) (x : V) (v : Value) (Q : Bool → Hp → Prop), Inv X pins σ H s → RelV x v → r x H Q →
    wpAny (model X.prog X.w) X.A (truthy v) (TP X pins σ Q) X.xe s

def tOp (r : R2) (ta tb : TE) : TE := fun σ H Q => ta σ H fun x H1 => tb σ H1 fun y H2 => r x y H2 Q
def tUn (r : V → Hp → VK → Prop) (ta : TE) : TE := fun σ H Q => ta σ H fun x H1 => r x H1 Q
/-- ints in, under C, and a value out -/
def rI (C : Int → Int → Prop) (g : Int → Int → V) : R2 := fun x y H Q => ∃ i j, x = .int i ∧ y = .int j ∧ C i j ∧ Q (g i j) H
def rI0 (g : Int → Int → V) : R2 := fun x y H Q => ∃ i j, x = .int i ∧ y = .int j ∧ Q (g i j) H
def rU (g : Int → V) : V → Hp → VK → Prop := fun x H Q => ∃ i, x = .int i ∧ Q (g i) H

section
variable {X : Cx} {a b c : Expr} {ta tb tc : TE} {pos : Pos}

theorem binT (ha : PE X a ta) (hb : PE X b tb) {pins : List (Addr × Obj)} {s : Shared} {σ : St} {H : Hp} {R : V → V → Hp → Prop} (I : Inv X pins σ H s)
    (h : ta σ H fun x H1 => tb σ H1 fun y H2 => R x y H2) {Q : Value → Shared → Prop} {f : Value → Value → Sem Value}
    (hf : ∀ v u s2 x y H2, Inv X pins σ H2 s2 → RelV x v → RelV y u → R x y H2 → wpAny (model X.prog X.w) X.A (f v u) Q X.xe s2) :
    wpAny (model X.prog X.w) X.A (eval a X.env) (fun v s₁ => wpAny (model X.prog X.w) X.A (eval b X.env) (fun u s₂ => wpAny (model X.prog X.w) X.A (f v u) Q X.xe s₂) X.xe s₁) X.xe s := by
  refine thn (ha pins s σ H _ I h) fun v s1 ⟨x, H1, I1, r1, q1⟩ => ?_
  refine thn (hb pins s1 σ H1 _ I1 q1) fun u s2 ⟨y, H2, I2, r2, q2⟩ => ?_
  exact hf v u s2 x y H2 I2 r1 r2 q2

theorem pe_op {op : Operator} {r : R2} (ho : OpR X (binaryOp op) r) (ha : PE X a ta) (hb : PE X b tb) : PE X (.BinOp a op b pos) (tOp r ta tb) := by
  intro pins s σ H Q I h
  exact wpAny_BinOp (binT ha hb I h fun v u s2 x y H2 I2 rx ry q => ho pins s2 σ H2 x y v u Q I2 rx ry q)
theorem pe_un {op : UnaryOp} {r : V → Hp → VK → Prop} (ho : UnR X (unaryOp op) r) (ha : PE X a ta) : PE X (.UnaryOp op a pos) (tUn r ta) := by
  intro pins s σ H Q I h
  exact UnaryOp_ (thn (ha pins s σ H _ I h) fun v s1 ⟨x, H1, I1, r1, q1⟩ => ho pins s1 σ H1 x v Q I1 r1 q1)
/-! ### ints -/
theorem opI {f : Value → Value → Sem Value} {C : Int → Int → Prop} {g : Int → Int → Int}
    (rule : ∀ (i j : Int) (t u : Tok) (s : Shared) (Q : Value → Shared → Prop) (E : Value → Shared → Prop), C i j → Q (.int (g i j) s.toks) { s with toks := s.toks + 1 } → wpAny (model X.prog X.w) X.A (f (.int i t) (.int j u)) Q E s) :
    OpR X f (rI C fun i j => .int (g i j)) := by
  intro pins s σ H x y v u Q I rx ry h
  obtain ⟨i, j, rfl, rfl, hc, q⟩ := h
  obtain ⟨t, rfl⟩ := rx
  obtain ⟨t', rfl⟩ := ry
  exact rule i j t t' s _ _ hc ⟨.int (g i j), H, I.tok _, ⟨_, rfl⟩, q⟩
theorem opI0 {f : Value → Value → Sem Value} {g : Int → Int → Int}
    (rule : ∀ (i j : Int) (t u : Tok) (s : Shared) (Q : Value → Shared → Prop) (E : Value → Shared → Prop), Q (.int (g i j) s.toks) { s with toks := s.toks + 1 } → wpAny (model X.prog X.w) X.A (f (.int i t) (.int j u)) Q E s) :
    OpR X f (rI0 fun i j => .int (g i j)) := by
  intro pins s σ H x y v u Q I rx ry h
  obtain ⟨i, j, rfl, rfl, q⟩ := h
  obtain ⟨t, rfl⟩ := rx
  obtain ⟨t', rfl⟩ := ry
  exact rule i j t t' s _ _ ⟨.int (g i j), H, I.tok _, ⟨_, rfl⟩, q⟩
theorem opB0 {f : Value → Value → Sem Value} {g : Int → Int → Bool}
    (rule : ∀ (i j : Int) (t u : Tok) (s : Shared) (Q : Value → Shared → Prop) (E : Value → Shared → Prop), Q (.bool (g i j)) s → wpAny (model X.prog X.w) X.A (f (.int i t) (.int j u)) Q E s) :
    OpR X f (rI0 fun i j => .bl (g i j)) := by
  intro pins s σ H x y v u Q I rx ry h
  obtain ⟨i, j, rfl, rfl, q⟩ := h
  obtain ⟨t, rfl⟩ := rx
  obtain ⟨t', rfl⟩ := ry
  exact rule i j t t' s _ _ ⟨.bl (g i j), H, I, rfl, q⟩

def CDiv (i j : Int) : Prop := 0 < j ∧ j < 1073741824
def CDivN (i j : Int) : Prop := j ≠ 0 ∧ j.natAbs < 1073741824
def CPow (i j : Int) : Prop := 0 ≤ j ∧ j ≤ 1000000 ∧ i.natAbs < 2 ^ 64
def CMul (i j : Int) : Prop := (-(2 ^ 64) < i ∧ i < 2 ^ 64) ∨ (-(2 ^ 64) < j ∧ j < 2 ^ 64)
theorem CMul.ok {i j : Int} (h : CMul i j) : IntMulOk i j := by
  rcases h with ⟨h1, h2⟩ | ⟨h1, h2⟩
  · exact .of_left (intBits_le_64 h1 h2)
  · exact .of_right (intBits_le_64 h1 h2)
theorem two_pow_nn (k : Nat) : (0 : Int) ≤ 2 ^ k := by
  rw [two_pow_cast]
  exact Int.natCast_nonneg _

theorem op_add : OpR X (binaryOp .Add) (rI0 fun i j => .int (i + j)) := opI0 fun _ _ _ _ _ _ _ q => add_int q
theorem op_sub : OpR X (binaryOp .Sub) (rI0 fun i j => .int (i - j)) := opI0 fun _ _ _ _ _ _ _ q => sub_int q
theorem op_mul : OpR X (binaryOp .Mult) (rI CMul fun i j => .int (i * j)) := opI fun _ _ _ _ _ _ _ hc q => mul_int q hc.ok
/-- // by a positive divisor -/
theorem op_fdiv : OpR X (binaryOp .FloorDiv) (rI CDiv fun i j => .int (i / j)) := opI fun i j _ _ _ _ _ hc q => by
  have h1 : (0 : Int) < j := hc.1
  have h2 : j < 1073741824 := hc.2
  exact floordiv_int (by omega) (by rw [Int.fdiv_eq_ediv_of_nonneg i (by omega)]; exact q) (.inl (PyProof.noPylong_small (by omega)))
/-- % by a positive divisor of any size -/
theorem op_mod : OpR X (binaryOp .Mod) (rI (fun _ j => 0 < j) fun i j => .int (i % j)) := opI fun i j _ _ _ _ _ hc q => by
  have h1 : (0 : Int) < j := hc
  exact mod_int' (by omega) (by rw [Int.fmod_eq_emod_of_nonneg i (by omega)]; exact q)
theorem op_pow : OpR X (binaryOp .Pow) (rI CPow fun i j => .int (i ^ j.toNat)) := opI fun _ _ _ _ _ _ _ hc q => pow_int_small hc.1 hc.2.1 hc.2.2 q
theorem op_shl : OpR X (binaryOp .LShift) (rI CPow fun i j => .int (i * 2 ^ j.toNat)) := opI fun _ _ _ _ _ _ _ hc q => lshift_int_small hc.1 hc.2.1 hc.2.2 q
theorem op_shr : OpR X (binaryOp .RShift) (rI (fun _ j => 0 ≤ j) fun i j => .int (i / 2 ^ j.toNat)) := opI fun i j _ _ _ _ _ hc q =>
  rshift_int hc (by rw [Int.fdiv_eq_ediv_of_nonneg i (two_pow_nn _)]; exact q)
theorem op_and : OpR X (binaryOp .BitAnd) (rI0 fun i j => .int (Builtin.bitAnd i j)) := opI0 fun _ _ _ _ _ _ _ q => and_int q
theorem op_or : OpR X (binaryOp .BitOr) (rI0 fun i j => .int (Builtin.bitOr i j)) := opI0 fun _ _ _ _ _ _ _ q => or_int q
theorem unI {f : Value → Sem Value} {g : Int → Int}
    (rule : ∀ (i : Int) (t : Tok) (s : Shared) (Q : Value → Shared → Prop) (E : Value → Shared → Prop), Q (.int (g i) s.toks) { s with toks := s.toks + 1 } → wpAny (model X.prog X.w) X.A (f (.int i t)) Q E s) :
    UnR X f (rU fun i => .int (g i)) := by
  intro pins s σ H x v Q I rx h
  obtain ⟨i, rfl, q⟩ := h
  obtain ⟨t, rfl⟩ := rx
  exact rule i t s _ _ ⟨.int (g i), H, I.tok _, ⟨_, rfl⟩, q⟩
theorem un_neg : UnR X (unaryOp .USub) (rU fun i => .int (-i)) := unI fun _ _ _ _ _ q => neg_int q
/-! ### bools among ints: n += (a < b) -/
end

/-! ### comparisons -/
/-- the scalars that == tells apart as data does -/
def scal : V → V → Bool
  | .non, .non => true | .non, .int _ => true | .int _, .non => true | .non, .bl _ => true | .bl _, .non => true | .non, .str _ => true | .str _, .non => true
  | .int _, .int _ => true | .bl _, .bl _ => true | .str _, .str _ => true | .byt _, .byt _ => true
  | .int _, .str _ => true | .str _, .int _ => true | .bl _, .str _ => true | .str _, .bl _ => true
  | _, _ => false
def rEq : R2 := fun x y H Q => scal x y = true ∧ Q (.bl (decide (x = y))) H
def rNe : R2 := fun x y H Q => scal x y = true ∧ Q (.bl (!decide (x = y))) H

theorem dec_int {i j : Int} : decide (V.int i = V.int j) = (i == j) := by
  rw [Bool.eq_iff_iff]
  simp
theorem dec_bl {i j : Bool} : decide (V.bl i = V.bl j) = (i == j) := by
  rw [Bool.eq_iff_iff]
  simp
theorem dec_str {i j : Str} : decide (V.str i = V.str j) = (i == j) := by
  rw [Bool.eq_iff_iff]
  simp
theorem dec_byt {i j : Array UInt8} : decide (V.byt i = V.byt j) = (i.toList == j.toList) := by
  rw [Bool.eq_iff_iff]
  cases i
  cases j
  simp

section
variable {X : Cx} {a b c : Expr} {ta tb tc : TE} {pos : Pos}
theorem fin_bl {pins : List (Addr × Obj)} {σ : St} {H : Hp} {s : Shared} {Q : VK} {k k' : Bool} (I : Inv X pins σ H s) (q : Q (.bl k) H) (e : k = k') : EP X pins σ Q (.bool k') s := by
  subst e
  exact ⟨.bl k, H, I, rfl, q⟩
theorem op_eq : OpR X (compareOp .Eq) rEq := by
  intro pins s σ H x y v u Q I rx ry h
  obtain ⟨hs, q⟩ := h
  cases x with
  | non =>
    cases rx
    cases y with
    | non => cases ry; exact PySem.EqNone.eq_none_none (fin_bl I q (by simp))
    | bl j => cases ry; exact PySem.EqNone.eq_none_bool (fin_bl I q (by simp))
    | int j => obtain ⟨t', rfl⟩ := ry; exact PySem.EqNone.eq_none_int (fin_bl I q (by simp))
    | str j => obtain ⟨t', rfl⟩ := ry; exact PySem.EqNone.eq_none_str (fin_bl I q (by simp))
    | _ => exact absurd (show false = true from hs) Bool.false_ne_true
  | bl i =>
    cases rx
    cases y with
    | non => cases ry; exact PySem.EqNone.eq_bool_none (fin_bl I q (by simp))
    | bl j => cases ry; exact eq_bool (fin_bl I q dec_bl)
    | str j => obtain ⟨t', rfl⟩ := ry; exact PySem.EqMixed.eq_bool_str (fin_bl I q (by simp))
    | _ => exact absurd (show false = true from hs) Bool.false_ne_true
  | int i =>
    obtain ⟨t, rfl⟩ := rx
    cases y with
    | non => cases ry; exact PySem.EqNone.eq_int_none (fin_bl I q (by simp))
    | int j => obtain ⟨t', rfl⟩ := ry; exact eq_int (fin_bl I q dec_int)
    | str j => obtain ⟨t', rfl⟩ := ry; exact PySem.EqMixed.eq_int_str (fin_bl I q (by simp))
    | _ => exact absurd (show false = true from hs) Bool.false_ne_true
  | str i =>
    obtain ⟨t, rfl⟩ := rx
    cases y with
    | non => cases ry; exact PySem.EqNone.eq_str_none (fin_bl I q (by simp))
    | bl j => cases ry; exact PySem.EqMixed.eq_str_bool (fin_bl I q (by simp))
    | int j => obtain ⟨t', rfl⟩ := ry; exact PySem.EqMixed.eq_str_int (fin_bl I q (by simp))
    | str j => obtain ⟨t', rfl⟩ := ry; exact eq_str (fin_bl I q dec_str)
    | _ => exact absurd (show false = true from hs) Bool.false_ne_true
  | byt i =>
    obtain ⟨t, rfl⟩ := rx
    cases y with
    | byt j => obtain ⟨t', rfl⟩ := ry; exact PySem.W.eq_bytes (fin_bl I q dec_byt)
    | _ => exact absurd (show false = true from hs) Bool.false_ne_true
  | _ => cases y <;> exact absurd (show false = true from hs) Bool.false_ne_true
theorem op_ne : OpR X (compareOp .NotEq) rNe := by
  intro pins s σ H x y v u Q I rx ry h
  obtain ⟨hs, q⟩ := h
  cases x with
  | non =>
    cases rx
    cases y with
    | non => cases ry; exact PySem.EqNone.ne_none_none (fin_bl I q (by simp))
    | bl j => cases ry; exact PySem.EqNone.ne_none_bool (fin_bl I q (by simp))
    | int j => obtain ⟨t', rfl⟩ := ry; exact PySem.EqNone.ne_none_int (fin_bl I q (by simp))
    | str j => obtain ⟨t', rfl⟩ := ry; exact PySem.EqNone.ne_none_str (fin_bl I q (by simp))
    | _ => exact absurd (show false = true from hs) Bool.false_ne_true
  | bl i =>
    cases rx
    cases y with
    | non => cases ry; exact PySem.EqNone.ne_bool_none (fin_bl I q (by simp))
    | bl j => cases ry; exact ne_bool (fin_bl I q (congrArg not dec_bl))
    | str j => obtain ⟨t', rfl⟩ := ry; exact PySem.EqMixed.ne_bool_str (fin_bl I q (by simp))
    | _ => exact absurd (show false = true from hs) Bool.false_ne_true
  | int i =>
    obtain ⟨t, rfl⟩ := rx
    cases y with
    | non => cases ry; exact PySem.EqNone.ne_int_none (fin_bl I q (by simp))
    | int j => obtain ⟨t', rfl⟩ := ry; exact ne_int (fin_bl I q (congrArg not dec_int))
    | str j => obtain ⟨t', rfl⟩ := ry; exact PySem.EqMixed.ne_int_str (fin_bl I q (by simp))
    | _ => exact absurd (show false = true from hs) Bool.false_ne_true
  | str i =>
    obtain ⟨t, rfl⟩ := rx
    cases y with
    | non => cases ry; exact PySem.EqNone.ne_str_none (fin_bl I q (by simp))
    | bl j => cases ry; exact PySem.EqMixed.ne_str_bool (fin_bl I q (by simp))
    | int j => obtain ⟨t', rfl⟩ := ry; exact PySem.EqMixed.ne_str_int (fin_bl I q (by simp))
    | str j => obtain ⟨t', rfl⟩ := ry; exact ne_str (fin_bl I q (congrArg not dec_str))
    | _ => exact absurd (show false = true from hs) Bool.false_ne_true
  | byt i =>
    obtain ⟨t, rfl⟩ := rx
    cases y with
    | byt j => obtain ⟨t', rfl⟩ := ry; exact PySem.W.ne_bytes (fin_bl I q (congrArg not dec_byt))
    | _ => exact absurd (show false = true from hs) Bool.false_ne_true
  | _ => cases y <;> exact absurd (show false = true from hs) Bool.false_ne_true

theorem op_lt : OpR X (compareOp .Lt) (rI0 fun i j => .bl (decide (i < j))) := opB0 fun _ _ _ _ _ _ _ q => lt_int q
theorem op_ge : OpR X (compareOp .GtE) (rI0 fun i j => .bl (decide (j ≤ i))) := opB0 fun _ _ _ _ _ _ _ q => ge_int q
/-- is, is not of two objects that are tracked lists or instances -/
def isObj : HO → Bool
  | .lst _ => true
  | .ins _ _ _ => true
  | _ => false
theorem nomark (b : Expr) {op : CmpOp} (h : op ≠ .In := by decide) (h2 : op ≠ .NotIn := by decide) : behindInMarks op b = false := by
  have e1 : (op == CmpOp.In) = false := by cases op <;> first | rfl | exact absurd rfl h
  have e2 : (op == CmpOp.NotIn) = false := by cases op <;> first | rfl | exact absurd rfl h2
  cases b <;> simp [behindInMarks, e1, e2]
/-- a comparison as a value; hm: nomark b, or (for in, not in) by with_unfolding_all rfl -/
theorem pe_cmpR {op : CmpOp} {r : R2} (ho : OpR X (compareOp op) r) (ha : PE X a ta) (hb : PE X b tb) (hm : behindInMarks op b = false) : PE X (.Compare a [op] [b] pos) (tOp r ta tb) := by
  intro pins s σ H Q I h
  exact wpAny_Compare1 (binT ha hb I h fun v u s2 x y H2 I2 rx ry q => ho pins s2 σ H2 x y v u Q I2 rx ry q) hm
/-- a reading of a value as a test -/
def tTest (t : TE) : TT := fun σ H Q => t σ H fun x H' => ∃ k, x = .bl k ∧ Q k H'
theorem pt_cmpR {op : CmpOp} {r : R2} (ho : OpR X (compareOp op) r) (ha : PE X a ta) (hb : PE X b tb) (hm : behindInMarks op b = false) : PT X (.Compare a [op] [b] pos) (tTest (tOp r ta tb)) := by
  intro pins s σ H Q I h
  refine wpAny_isTrue_Compare1 (thn (ha pins s σ H _ I h) fun v s1 ⟨x, H1, I1, r1, q1⟩ => thn (hb pins s1 σ H1 _ I1 q1) fun u s2 ⟨y, H2, I2, r2, q2⟩ =>
    thn (ho pins s2 σ H2 x y v u _ I2 r1 r2 q2) fun c s3 ⟨z, H3, I3, r3, k, e, q3⟩ => ?_) hm
  subst e
  cases r3
  exact wpAny_truthy_bool ⟨H3, I3, q3⟩
/-- a op1 b op2 c -/
def tChain (r r' : R2) (ta tb tc : TE) : TE := fun σ H Q => ta σ H fun x H1 => tb σ H1 fun y H2 => r x y H2 fun z H3 => ∃ k, z = .bl k ∧
  (if k = true then tc σ H3 fun w' H4 => r' y w' H4 Q else Q (.bl false) H3)
/-! ### truth -/
/-- a value's truth by the abstract heap -/
def TruV (K : PySem.W.Frag) (x : V) (H : Hp) (k : Bool) : Prop :=
  match x with
  | .non => k = false
  | .bl b => k = b
  | .int i => k = (i != 0)
  | .str y => y.length ≤ sizeLine ∧ k = ((y.length : Int) != 0)
  | .byt y => y.size ≤ sizeLine ∧ k = ((y.size : Int) != 0)
  | .ref p => (∃ xs, SqL K H p xs ∧ k = !xs.isEmpty) ∨ (∃ xs, SqT K H p xs ∧ k = !xs.isEmpty) ∨ ∃ kvs, H p = some (.dK kvs) ∧ k = !kvs.isEmpty
  | _ => False
theorem line63 : (sizeLine : Nat) < 2 ^ 63 := by rw [sizeLine_eq]; decide
/-! ### strs and bytes -/
def PlainIxT (b : Expr) : Prop := ∀ o i, subscripted b false o i = operate [o, i] (getItem o i)
/-! ### scalar builtins, by CallR -/
theorem vals1 {x : V} {us : List Value} (r : Vals [x] us) : ∃ u, us = [u] ∧ RelV x u := by
  cases r with
  | cons r1 r2 => cases r2; exact ⟨_, rfl, r1⟩
theorem vals2 {x y : V} {us : List Value} (r : Vals [x, y] us) : ∃ u w', us = [u, w'] ∧ RelV x u ∧ RelV y w' := by
  cases r with
  | cons r1 r2 =>
    cases r2 with
    | cons r3 r4 => cases r4; exact ⟨_, _, rfl, r1, r3⟩
theorem call_abs : CallR X (.builtin "abs") (fun xs H Q => ∃ i, xs = [.int i] ∧ Q (.int (if i < 0 then -i else i)) H) := by
  intro pins s σ H xs us Q I r h
  obtain ⟨i, rfl, q⟩ := h
  obtain ⟨u, rfl, t, rfl⟩ := vals1 r
  exact call_abs_int fun u tk => ⟨.int (if i < 0 then -i else i), H, I.tok _, ⟨_, rfl⟩, q⟩
theorem call_min2 (hc : X.calm = true) : CallR X (.builtin "min") (fun xs H Q => ∃ i j, xs = [.int i, .int j] ∧ Q (.int (if j < i then j else i)) H) := by
  intro pins s σ H xs us Q I r h
  obtain ⟨i, j, rfl, q⟩ := h
  obtain ⟨u, w', rfl, ⟨t, rfl⟩, ⟨t', rfl⟩⟩ := vals2 r
  refine min_two_ints (I.ok.hd hc) fun h' tk k => ⟨_, H, I.kept k, ?_, q⟩
  by_cases hj : j < i
  · rw [if_pos hj, if_pos hj]; exact ⟨_, rfl⟩
  · rw [if_neg hj, if_neg hj]; exact ⟨_, rfl⟩
theorem call_int1 : CallR X (.type "int") (fun xs H Q => (∃ i, xs = [.int i] ∧ Q (.int i) H) ∨ ∃ k, xs = [.bl k] ∧ Q (.int (if k then 1 else 0)) H) := by
  intro pins s σ H xs us Q I r h
  rcases h with ⟨i, rfl, q⟩ | ⟨k, rfl, q⟩
  · obtain ⟨u, rfl, t, rfl⟩ := vals1 r
    exact call_int_int ⟨.int i, H, I, ⟨_, rfl⟩, q⟩
  · obtain ⟨u, rfl, r1⟩ := vals1 r
    cases r1
    exact call_int_bool ⟨.int (if k then 1 else 0), H, I.tok _, ⟨_, rfl⟩, q⟩
/-- len of a str, a bytes, a list, a tuple -/
def LenV (K : PySem.W.Frag) (x : V) (H : Hp) (n : Nat) : Prop :=
  match x with
  | .str y => y.length ≤ sizeLine ∧ n = y.length
  | .byt y => y.size ≤ sizeLine ∧ n = y.size
  | .ref p => (∃ xs, SqL K H p xs ∧ n = xs.length) ∨ ∃ xs, SqT K H p xs ∧ n = xs.length
  | _ => False
end
end L2

namespace L2
open PySem PySem.Spec PyProof.Rows

/-! ### an instance, its attributes a map -/
structure ObjM (h : Heap) (x dx C : Addr) (mA : Str → Option Value) : Prop where
  obj : h.get? x = some (PySem.W.instObj C dx)
  ns : h.Ns1 dx mA
  ne : dx ≠ x

section
variable {prog : Program} {w : World} {A : Around} {E : Value → Shared → Prop} {s : Shared} {K : PySem.W.Frag} {x dx C f : Addr} {mA : Str → Option Value} {name : Str} {v : Value}

end

/-! ### the attributes as a list of pairs -/
def putF (f : Str) (v : V) : List (Str × V) → List (Str × V)
  | [] => [(f, v)]
  | (g, x) :: r => if g = f then (g, v) :: r else (g, x) :: putF f v r
section
variable {P : Program} {w : World} {H H' : Hp} {h h' : Heap} {a C dx : Addr} {fs fs' : List (Str × V)}
end

/-! ### what of the text a class must have -/
structure Cls (K : PySem.W.Frag) (C : Addr) : Prop where
  pg : PySem.W.plainGet K C Str.empty = true
  hd : PySem.W.hasDictIn K C = true
  po : PySem.W.plainOver K C = true
  sa : PySem.W.findIn K (.ref C) "__setattr__" = some (some (.builtin "object.__setattr__"))
theorem Cls.get {K : PySem.W.Frag} {C : Addr} (c : Cls K C) (f : Str) : PySem.W.plainGet K C f = true := c.pg
/-- no class of it has the name -/
def NoAttr (K : PySem.W.Frag) (C : Addr) (f : Str) : Prop := PySem.W.findIn K (.ref C) f = some none
/-- a constant of the class -/
structure Con (K : PySem.W.Frag) (C : Addr) (f : Str) (v : V) (u : Value) : Prop where
  at_ : PySem.W.findIn K (.ref C) f = some (some u)
  rel : RelV v u
  get : PySem.W.specialIn K u "__get__" = some none
  cp : PySem.W.copiedNames.contains f = false
/-- a method: a plain def of the class or of one above it -/
structure Meth (K : PySem.W.Frag) (C : Addr) (m : Str) (f : Addr) : Prop where
  at_ : PySem.W.findIn K (.ref C) m = some (some (.ref f))
  fn : PySem.W.isFn K (.ref f) = true
  kp : PySem.W.keepIn K (.ref f) = true

section
variable {X : Cx} {pins : List (Addr × Obj)} {σ : St} {H : Hp} {s : Shared} {a C dx : Addr} {fs : List (Str × V)} {f : Str} {v : V} {A : Around} {E : Value → Shared → Prop}

end

/-! ### readings and rules -/
/-- e.f, an attribute of the instance -/
def tFld (K : PySem.W.Frag) (ta : TE) (f : Str) : TE := fun σ H Q => ta σ H fun x H1 => ∃ a C dx fs v, x = .ref a ∧ H1 a = some (.ins C dx fs) ∧ Cls K C ∧ NoAttr K C f ∧ fs.lookup f = some v ∧ Q v H1
/-- e.f, a constant of the class -/
def tCon (K : PySem.W.Frag) (ta : TE) (f : Str) : TE := fun σ H Q => ta σ H fun x H1 => ∃ a C dx fs v u, x = .ref a ∧ H1 a = some (.ins C dx fs) ∧ Cls K C ∧ Con K C f v u ∧ fs.lookup f = none ∧ Q v H1
/-- e.f = value -/
def sFld (K : PySem.W.Frag) (ta tv : TE) (f : Str) : TS := fun D σ H => tv σ H fun y H1 => ta σ H1 fun x H2 => ∃ a C dx fs, x = .ref a ∧ H2 a = some (.ins C dx fs) ∧ Cls K C ∧ NoAttr K C f ∧ fs.length < 1000 ∧
  D.nx σ (upd H2 a (.ins C dx (putF f y fs)))
/-- an augmented operator on two values -/
def InOp (X : Cx) (op : Operator) (rd : V → V → Hp → VK → Prop) : Prop :=
  ∀ (pins : List (Addr × Obj)) (s : Shared) (σ : St) (H : Hp) (x y : V) (u v : Value) (Q : VK), Inv X pins σ H s → RelV x u → RelV y v → rd x y H Q → wpAny (model X.prog X.w) X.A (inplaceOp op u v) (EP X pins σ Q) X.xe s
/-- e.f op= value -/
def sFldAug (K : PySem.W.Frag) (ta tv : TE) (rd : V → V → Hp → VK → Prop) (f : Str) : TS := fun D σ H => ta σ H fun x H1 => ∃ a C dx fs v, x = .ref a ∧ H1 a = some (.ins C dx fs) ∧ Cls K C ∧ NoAttr K C f ∧ fs.lookup f = some v ∧
  tv σ H1 fun y H2 => rd v y H2 fun z H3 => ∃ dx' fs', H3 a = some (.ins C dx' fs') ∧ fs'.length < 1000 ∧ D.nx σ (upd H3 a (.ins C dx' (putF f z fs')))

section
variable {X : Cx} {o e value : Expr} {f : Str} {pos pos' tpos : Pos} {ta tv : TE}
def rAdd : V → V → Hp → VK → Prop := fun x y H Q => ∃ i j, x = .int i ∧ y = .int j ∧ Q (.int (i + j)) H
def rSub : V → V → Hp → VK → Prop := fun x y H Q => ∃ i j, x = .int i ∧ y = .int j ∧ Q (.int (i - j)) H
end

/-! ### isinstance -/
section
variable {X : Cx} {pins : List (Addr × Obj)} {σ : St} {H : Hp} {s : Shared} {A : Around} {E : Value → Shared → Prop} {Q : Value → Shared → Prop} {c : Value} {b : Bool}
/-- the type of a value, as the fragment's deciders take it; for an instance its class -/
inductive TyOf (K : PySem.W.Frag) (H : Hp) : V → Value → Prop where
  | non : TyOf K H .non (.type "NoneType")
  | bl (x : Bool) : TyOf K H (.bl x) (.type "bool")
  | int (i : Int) : TyOf K H (.int i) (.type "int")
  | str (x : Str) : TyOf K H (.str x) (.type "str")
  | flt (x : UInt64) : TyOf K H (.flt x) (.type "float")
  | lst {a : Addr} {xs : List V} (e : H a = some (.lst xs)) : TyOf K H (.ref a) (.type "list")
  | frz {a : Addr} {o : Obj} {xs : List V} (e : H a = some (.frz o (.lst xs))) : TyOf K H (.ref a) (.type "list")
  | tup {a : Addr} {xs : List V} (e : H a = some (.tup xs)) : TyOf K H (.ref a) (.type "tuple")
  | dK {a : Addr} {kvs : List (Key × V)} (e : H a = some (.dK kvs)) : TyOf K H (.ref a) (.type "dict")
  | dT {a : Addr} {kvs : List (List Key × V)} (e : H a = some (.dT kvs)) : TyOf K H (.ref a) (.type "dict")
  | ins {a C dx : Addr} {fs : List (Str × V)} (e : H a = some (.ins C dx fs)) (cl : Cls K C) (ha : PySem.W.findIn K (.ref C) "__class__" = some (some (.builtin "object.__class__")))
      (hn : PySem.W.specialIn K (.builtin "object.__class__") "__get__" = some (some (.builtin "getset_descriptor.__get__"))) (htk : PySem.W.takesIn K (.builtin "object.__class__") = some true)
      (hm : PySem.W.mroIn K C (.type "object") = some true) : TyOf K H (.ref a) (.ref C)
end
end L2

namespace L2
open PySem PySem.Spec PyProof.Rows

/-! ### room -/
structure Room (k : Nat) (A : Around) : Prop where
  hd : A.handled = none
  dp : A.depth + 3 * k + 5 < recursionLimit
  un : A.units + 16 * k + 200 < cLine
  gd : A.guards = some []
theorem Room.mono {j k : Nat} {A : Around} (r : Room k A) (h : j ≤ k) : Room j A := ⟨r.hd, by have := r.dp; omega, by have := r.un; omega, r.gd⟩
theorem Room.deeper {k : Nat} {A : Around} (r : Room (k + 1) A) (env : Env) : Room k (A.deeper env) :=
  ⟨r.hd, by have := r.dp; show A.depth + 1 + 3 * k + 5 < _; omega, by have := r.un; show A.units + 3 + 16 * k + 200 < _; omega, r.gd⟩
theorem Room.depth {k : Nat} {A : Around} (r : Room k A) : A.depth < recursionLimit := by have := r.dp; omega
theorem Room.units {k : Nat} {A : Around} (r : Room k A) : A.units + 64 < cLine := by have := r.un; omega
/-! ### argument lists and displays -/
def tNil : TA := fun _ H Q => Q [] H
def tCons (ta : TE) (tr : TA) : TA := fun σ H Q => ta σ H fun x H1 => tr σ H1 fun xs H2 => Q (x :: xs) H2
section
variable {X : Cx} {e : Expr} {es : List Expr} {te : TE} {t : TA} {pos : Pos}
theorem pa_nil : PA X [] tNil := fun _ _ _ _ H Q I h => Calls.spliced_nil ⟨[], H, I, .nil, h⟩
theorem pa_cons (ha : PE X e te) (hr : PA X es t) (hs : starEach (e :: es) X.env = (false, eval e X.env) :: starEach es X.env := by rfl) : PA X (e :: es) (tCons te t) := by
  intro pos pins s σ H Q I h
  rw [hs]
  show wpAny _ _ (spliced ((false, eval e X.env) :: backTo pos (starEach es X.env))) _ _ s
  refine Calls.spliced_cons (thn (ha pins s σ H _ I h) fun u s1 ⟨x, H1, I1, r1, q1⟩ => ?_)
  exact thn (hr pos pins s1 σ H1 _ I1 q1) fun us s2 ⟨xs, H2, I2, r2, q2⟩ => ⟨x :: xs, H2, I2, .cons r1 r2, q2⟩

/-- a tuple, a list of written items -/
def tTup (t : TA) : TE := fun σ H Q => t σ H fun xs H1 => xs.length ≤ sizeLine ∧ ∀ p, H1 p = none → Q (.ref p) (upd H1 p (.tup xs))
def tLst (t : TA) : TE := fun σ H Q => t σ H fun xs H1 => xs.length ≤ sizeLine ∧ ∀ p, H1 p = none → Q (.ref p) (upd H1 p (.lst xs))
theorem pe_tup {x1} (h : PA X es t) : PE X (.Tuple es x1 pos) (tTup t) := by
  intro pins s σ H Q I hq
  refine wpAny_Tuple_spliced (thn (h pos pins s σ H _ I hq) fun us s1 ⟨xs, H1, I1, r, z, q⟩ => ⟨by rw [← r.length]; exact z, ?_⟩)
  have hf : H1 s1.heap.objs.size = none := I1.hok.fresh (Nat.le_refl _)
  refine ⟨.ref s1.heap.objs.size, upd H1 s1.heap.objs.size (.tup xs), I1.laid (t' := s1.toks) (fun b u e => Heap.get?_push_of_some _ e) (Nat.le_refl _) ?_, rfl, q _ hf⟩
  exact ⟨z, us, r, ⟨_, Heap.get?_push_size _ rfl, rfl, _, rfl⟩⟩
theorem pe_lst (h : PA X es t) : PE X (.List es pos) (tLst t) := by
  intro pins s σ H Q I hq
  refine wpAny_List_spliced (thn (h pos pins s σ H _ I hq) fun us s1 ⟨xs, H1, I1, r, z, q⟩ => ⟨by rw [← r.length]; exact z, ?_⟩)
  have hf : H1 s1.heap.objs.size = none := I1.hok.fresh (Nat.le_refl _)
  refine ⟨.ref s1.heap.objs.size, upd H1 s1.heap.objs.size (.lst xs), I1.laid (t' := s1.toks) (fun b u e => Heap.get?_push_of_some _ e) (Nat.le_refl _) ?_, rfl, q _ hf⟩
  exact ⟨z, us, 0, r, Heap.get?_push_size _ rfl⟩
end

/-! ### what a def promises -/
/-- a def's promise: the bound arguments in the parameters' order, the heap, the wanted end, the wanted exception -/
abbrev Sp := List V → Hp → VK → XK → Prop
/-- how an exception lies behind a call (file 08 gives it): the callers' frames, abstract heap and state ahead of the call, the wish, the exception, the state -/
abbrev CXT := List Env → Hp → Shared → XK → Value → Shared → Prop

/-- the state at a call -/
structure Env0 (P : Program) (w : World) (K : PySem.W.Frag) (mg : Str → Option Value) (base : Heap) (A : Around) (outer : List Env) (s : Shared) (H : Hp) : Prop where
  frames : A.frames = some outer
  mod : Mod K mg base
  bs : ∀ b o, base.get? b = some o → s.heap.get? b = some o ∧ H b = none
  bsz : base.objs.size ≤ s.heap.objs.size
  funs : s.heap.FunFrames base outer
  frf : ∀ b ∈ frs outer, H b = none
  hok : HOk P w H s.heap
  bare : AllBare s.gens
/-- a call's end -/
def CE (outer : List Env) (P : Program) (w : World) (H : Hp) (s : Shared) (Q : VK) (u : Value) (s' : Shared) : Prop :=
  ∃ v H', s'.os = s.os ∧ AllBare s'.gens ∧ Un (frs outer) [] H H' s.heap s'.heap ∧ HOk P w H' s'.heap ∧ RelV v u ∧ Q v H'
def CR (CX : CXT) (outer : List Env) (P : Program) (w : World) (H : Hp) (s : Shared) (Q : VK) (E : XK) (r : Result) (s' : Shared) : Prop :=
  match r with
  | .ok (.ret u) => CE outer P w H s Q u s'
  | .ok _ => False
  | .error e => CX outer H s E e s'
structure FnOk (P : Program) (w : World) (K : PySem.W.Frag) (mg : Str → Option Value) (base : Heap) (CX : CXT) (k : Nat) (f : Addr) (fd : FuncData) (ps : List Str) (sp : Sp) : Prop where
  len : ∀ vs H Q E, sp vs H Q E → vs.length = ps.length
  run : ∀ (A : Around) (outer : List Env) (s : Shared) (H : Hp) (args : Args) (us : List Value) (vs : List V) (Q : VK) (E : XK), Room k A → Env0 P w K mg base A outer s H → BindsTo s fd args (ps.zip us) → Vals vs us → sp vs H Q E →
    codeAny (model P w) A (.call (.ref f) args) (CR CX outer P w H s Q E) s
theorem FnOk.mono {P : Program} {w : World} {K : PySem.W.Frag} {mg : Str → Option Value} {base : Heap} {CX : CXT} {j k : Nat} {f : Addr} {fd : FuncData} {ps : List Str} {sp : Sp} (F : FnOk P w K mg base CX j f fd ps sp) (h : j ≤ k) :
    FnOk P w K mg base CX k f fd ps sp := ⟨F.len, fun A outer s H args us vs Q E hr => F.run A outer s H args us vs Q E (hr.mono h)⟩
/-- a weaker promise -/
theorem FnOk.imp {P : Program} {w : World} {K : PySem.W.Frag} {mg : Str → Option Value} {base : Heap} {CX : CXT} {k : Nat} {f : Addr} {fd : FuncData} {ps : List Str} {sp sp' : Sp} (F : FnOk P w K mg base CX k f fd ps sp)
    (h : ∀ vs H Q E, sp' vs H Q E → sp vs H Q E) : FnOk P w K mg base CX k f fd ps sp' :=
  ⟨fun vs H Q E q => F.len vs H Q E (h _ _ _ _ q), fun A outer s H args us vs Q E hr he hb hv hs => F.run A outer s H args us vs Q E hr he hb hv (h _ _ _ _ hs)⟩

section
variable {X : Cx} {pins : List (Addr × Obj)} {σ : St} {H : Hp} {s s' : Shared}
/-- from a body: what a callee wants -/
theorem Inv.env0 (I : Inv X pins σ H s) : Env0 X.prog X.w X.K X.mg X.base X.A X.stack s H :=
  ⟨I.ok.frames, I.ok.mod, I.bs, Nat.le_trans I.ok.bsz I.sz, I.stack, I.stkFree, I.hok, I.bare⟩
/-- behind a call -/
theorem Inv.after {Q : VK} {u : Value} (I : Inv X pins σ H s) (h : CE X.stack X.prog X.w H s Q u s') : EP X pins σ Q u s' := by
  obtain ⟨v, H', os, bare, un, hok, r, q⟩ := h
  obtain ⟨hh, g, d, t, os'⟩ := s'
  obtain rfl : os' = s.os := os
  exact ⟨v, H', I.call (h' := hh) (g' := g) (d' := d) (t' := t) (ch := []) un hok bare (fun b z => absurd z (by simp)), r, q⟩
end

/-! ### calls -/
/-- f(..): the written arguments, then the defaults dvs; E: what is wanted of an exception -/
def tCall (sp : Sp) (dvs : List V) (E : XK) (t : TA) : TE := fun σ H Q => t σ H fun vs H1 => sp (vs ++ dvs) H1 Q E
/-- o.m(..) of an instance of the class at C -/
def tMeth (C : Addr) (m : Str) (sp : Sp) (dvs : List V) (E : XK) (ta : TE) (t : TA) : TE := fun σ H Q => ta σ H fun x H1 => ∃ a dx fs, x = .ref a ∧ H1 a = some (.ins C dx fs) ∧ fs.lookup m = none ∧
  t σ H1 fun vs H2 => sp (x :: (vs ++ dvs)) H2 Q E
/-- C(..): a new instance and its dict, then __init__ -/
def tMake (C : Addr) (sp : Sp) (dvs : List V) (E : XK) (t : TA) : TE := fun σ H Q => t σ H fun vs H1 => ∀ x dx, H1 x = none → H1 dx = none → dx ≠ x →
  sp (.ref x :: (vs ++ dvs)) (upd (upd H1 dx (.own x)) x (.ins C dx [])) (fun v H2 => v = .non ∧ Q (.ref x) H2) E

/-- how the parameters are bound: us the positional arguments, kw the keywords' values by name, ds the defaults that fill up -/
def Binds (K : PySem.W.Frag) (fd : FuncData) (ps : List Str) (ds : List Value) : Prop :=
  ∀ (s : Shared) (us : List Value), K.In s.heap → (us ++ ds).length = ps.length → BindsTo s fd ⟨us, []⟩ (ps.zip (us ++ ds))
/-- every parameter is given -/
theorem Binds.all {K : PySem.W.Frag} {fd : FuncData} {ps : List Str} (h : ∀ us : List Value, us.length = ps.length → bindArgs fd ⟨us, []⟩ = pure (ps.zip us)) : Binds K fd ps [] := fun s us _ hl => by
  rw [List.append_nil] at hl ⊢
  exact .of_eq (h us hl)

/-- an exception of a callee reaches what this body wants of exceptions -/
def Passes (CX : CXT) (X : Cx) (E : XK) : Prop := ∀ (pins : List (Addr × Obj)) (σ : St) (H : Hp) (s : Shared) (e : Value) (s' : Shared), Inv X pins σ H s → CX X.stack H s E e s' → X.xe e s'

section
variable {X : Cx} {CX : CXT} {k : Nat} {f C : Addr} {fd : FuncData} {ps : List Str} {sp : Sp} {dvs : List V} {ds : List Value} {E : XK} {x m : Str} {p pos apos : Pos} {e o : Expr} {es : List Expr} {ta : TE} {t : TA}

/-- the callee runs -/
theorem run_fn {pins : List (Addr × Obj)} {σ : St} {H : Hp} {s : Shared} {Q : VK} {us : List Value} {vs : List V} (F : FnOk X.prog X.w X.K X.mg X.base CX k f fd ps sp) (hr : Room k X.A) (hb : Binds X.K fd ps ds) (hd : Vals dvs ds) (hx : Passes CX X E)
    (I : Inv X pins σ H s) (r : Vals vs us) (h : sp (vs ++ dvs) H Q E) : wpAny (model X.prog X.w) X.A (call (.ref f) us) (EP X pins σ Q) X.xe s := by
  have r2 : Vals (vs ++ dvs) (us ++ ds) := r.append hd
  have hl : (us ++ ds).length = ps.length := by rw [← r2.length]; exact F.len _ _ _ _ h
  refine wpAny_call (codeAny_mono (F.run X.A X.stack s H ⟨us, []⟩ (us ++ ds) (vs ++ dvs) Q E hr I.env0 (hb s us I.kIn hl) r2 h) fun r s' hq => ?_)
  cases r with
  | error e => exact hx pins σ H s e s' I hq
  | ok fl =>
    cases fl with
    | ret u => exact I.after hq
    | next => exact False.elim hq
    | brk => exact False.elim hq
    | cont => exact False.elim hq

theorem pe_call (F : FnOk X.prog X.w X.K X.mg X.base CX k f fd ps sp) (hr : Room k X.A) (hg : Gl X x) (hm : X.mg x = some (.ref f)) (hk : PySem.W.keepIn X.K (.ref f) = true) (hb : Binds X.K fd ps ds) (hd : Vals dvs ds) (hx : Passes CX X E)
    (ha : PA X (e :: es) t) (hdb : (x == ("__debug__" : Str)) = false := by decide) (he : starEach (e :: es) X.env = (false, eval e X.env) :: starEach es X.env := by rfl) (hpl : (backTo pos (starEach es X.env)).any (·.1) = false := by rfl) :
    PE X (.Call (.Name x p) (e :: es) [] pos) (tCall sp dvs E t) := by
  intro pins s σ H Q I h
  refine wpAny_Call_Name_kw (ld_glob I hg hm ?_ hdb)
  refine PySem.W.callWith_K (h₀ := X.base) I.ok.mod.kin hk (thn (ha pos pins s σ H _ I h) fun us s1 ⟨vs, H1, I1, r, q⟩ => ⟨I1.kIn, ?_⟩) he hpl
  exact run_fn F hr hb hd hx I1 r q
/-- what a class must have to be made -/
structure Mk (K : PySem.W.Frag) (C f : Addr) : Prop where
  makes : PySem.W.makesIn K C = true
  init : PySem.W.findIn K (.ref C) "__init__" = some (some (.ref f))
  fn : PySem.W.isFn K (.ref f) = true
  kp : PySem.W.keepIn K (.ref C) = true

end

/-! ### keywords -/
/-- the values of the keywords, from the left -/
def PK (X : Cx) (kws : List Keyword) (t : TA) : Prop :=
  ∀ (pos : Pos) (pins : List (Addr × Obj)) (s : Shared) (σ : St) (H : Hp) (Q : List V → Hp → Prop), Inv X pins σ H s → t σ H Q → wpAny (model X.prog X.w) X.A (evalAll ((backToKw pos (keywordEach kws X.env)).map (·.2))) (AP X pins σ Q) X.xe s
section
variable {X : Cx} {CX : CXT} {k : Nat} {f C : Addr} {fd : FuncData} {ps ks : List Str} {sp : Sp} {E : XK} {x m : Str} {p pos apos kpos : Pos} {e o : Expr} {es : List Expr} {kws : List Keyword} {te ta : TE} {t tk : TA} {nm : Option Str}
/-- how a call with keywords binds: g puts the positional values us and the keywords' values ws (names ks) in the parameters' order, defaults among them -/
structure KBinds (K : PySem.W.Frag) (fd : FuncData) (ps ks : List Str) (g : List Value → List Value → List Value) (gV : List V → List V → List V) : Prop where
  to : ∀ (s : Shared) (us ws : List Value), K.In s.heap → (g us ws).length = ps.length → BindsTo s fd ⟨us, ks.zip ws⟩ (ps.zip (g us ws))
  rel : ∀ {vs : List V} {us : List Value} {zs : List V} {ws : List Value}, Vals vs us → Vals zs ws → Vals (gV vs zs) (g us ws)
def tCallK (sp : Sp) (gV : List V → List V → List V) (E : XK) (t tk : TA) : TE := fun σ H Q => t σ H fun vs H1 => tk σ H1 fun zs H2 => sp (gV vs zs) H2 Q E
variable {g : List Value → List Value → List Value} {gV : List V → List V → List V}
end

/-! ### a def's body keeps its promise -/
/-- names: the parameters first -/
structure FnScope (N P : List Str) (sc : Scope) : Prop where
  kind : sc.kind = .function
  co : sc.isCoroutine = false
  gen : sc.isGenerator = false
  nd : N.Nodup
  pre : N.take P.length = P
  par : ∀ x ∈ P, sc.names.lookup x = some .local ∨ sc.names.lookup x = some .cell
  nofree : ∀ y ∈ sc.names, y.2 ≠ .free

theorem bindL_out {kindOf : Str → Option NameKind} {x : Str} : ∀ {binds : List (Str × Value)} {m : Str → Option Value}, (∀ v, (x, v) ∉ binds) → bindL kindOf binds m x = m x
  | [], _, _ => rfl
  | (n, v) :: r, m, h => by
    unfold bindL
    rw [bindL_out fun w hw => h w (List.mem_cons_of_mem _ hw)]
    split
    · have : x ≠ n := by rintro rfl; exact h v List.mem_cons_self
      simp [this]
    · rfl
theorem bindC_out {kindOf : Str → Option NameKind} {x : Str} : ∀ {binds : List (Str × Value)} {m : Str → Option Value}, (∀ v, (x, v) ∉ binds) → bindC kindOf binds m x = m x
  | [], _, _ => rfl
  | (n, v) :: r, m, h => by
    unfold bindC
    rw [bindC_out fun w hw => h w (List.mem_cons_of_mem _ hw)]
    split
    · rfl
    · have : x ≠ n := by rintro rfl; exact h v List.mem_cons_self
      simp [this]
theorem bindL_get {kindOf : Str → Option NameKind} {x : Str} {v : Value} : ∀ {P : List Str} {vs : List Value} {i : Nat} {m : Str → Option Value}, P.Nodup → P[i]? = some x → vs[i]? = some v → kindOf x = some .local →
    bindL kindOf (P.zip vs) m x = some v
  | [], _, _, _, _, h, _, _ => by simp at h
  | _ :: _, [], _, _, _, _, h, _ => by simp at h
  | p :: P, w :: vs, 0, m, nd, h1, h2, hk => by
    simp at h1 h2; subst h1; subst h2
    show bindL kindOf ((p, w) :: P.zip vs) m p = _
    unfold bindL
    rw [bindL_out fun v hv => (List.nodup_cons.mp nd).1 (List.of_mem_zip hv).1, if_pos hk]
    simp
  | p :: P, w :: vs, i + 1, m, nd, h1, h2, hk => by
    show bindL kindOf ((p, w) :: P.zip vs) m x = _
    unfold bindL
    exact bindL_get (i := i) (List.nodup_cons.mp nd).2 (by simpa using h1) (by simpa using h2) hk
theorem bindC_get {kindOf : Str → Option NameKind} {x : Str} {v : Value} : ∀ {P : List Str} {vs : List Value} {i : Nat} {m : Str → Option Value}, P.Nodup → P[i]? = some x → vs[i]? = some v → kindOf x ≠ some .local →
    bindC kindOf (P.zip vs) m x = some v
  | [], _, _, _, _, h, _, _ => by simp at h
  | _ :: _, [], _, _, _, _, h, _ => by simp at h
  | p :: P, w :: vs, 0, m, nd, h1, h2, hk => by
    simp at h1 h2; subst h1; subst h2
    show bindC kindOf ((p, w) :: P.zip vs) m p = _
    unfold bindC
    rw [bindC_out fun v hv => (List.nodup_cons.mp nd).1 (List.of_mem_zip hv).1, if_neg hk]
    simp
  | p :: P, w :: vs, i + 1, m, nd, h1, h2, hk => by
    show bindC kindOf ((p, w) :: P.zip vs) m x = _
    unfold bindC
    exact bindC_get (i := i) (List.nodup_cons.mp nd).2 (by simpa using h1) (by simpa using h2) hk

/-- the names' values at the entry -/
def start (N : List Str) (vs : List V) : St := vs.map some ++ List.replicate (N.length - vs.length) none

/-- the context of a def's body, at its entry; an exception leaves the frame, then lies as CX says -/
def cxOf (CX : CXT) (P : Program) (w : World) (K : PySem.W.Frag) (mg : Str → Option Value) (base : Heap) (N : List Str) (qual : Str) (scope : Scope) (f : Addr) (cd : Value) (A : Around) (outer : List Env) (s : Shared) (H : Hp) (E : XK) : Cx where
  prog := P
  w := w
  K := K
  mg := mg
  base := base
  A := A.deeper (envOfC qual scope s.heap.objs.size f cd)
  N := N
  s₀ := s
  H₀ := H
  env := envOfC qual scope s.heap.objs.size f cd
  outer := outer
  stack := envOfC qual scope s.heap.objs.size f cd :: outer
  ex := []
  calm := true
  fn := fun _ => true
  pn := []
  xe := fun e s' => wpAny (model P w) (A.deeper (envOfC qual scope s.heap.objs.size f cd)) (leaving (envOfC qual scope s.heap.objs.size f cd) e) (fun _ s'' => CX outer H s E e s'') (fun e' s'' => CX outer H s E e' s'') s'

theorem cell_has {sc : Scope} {n : Nat} {x : Str} (h : sc.names.lookup x = some .cell) : ∃ c, (cellsFrom n sc.names []).lookup x = some c := by
  have q := PySem.W.cellsFrom_some sc.names n [] (.inl h)
  exact Option.isSome_iff_exists.mp q

theorem inv_start {CX : CXT} {P : Program} {w : World} {K : PySem.W.Frag} {mg : Str → Option Value} {base : Heap} {N ps : List Str} {qual : Str} {scope : Scope} {f : Addr} {cd : Value} {A : Around} {outer : List Env} {s s1 : Shared} {H : Hp} {E : XK} {us : List Value} {vs : List V}
    (S : FnScope N ps scope) (hd : A.handled = none) (e0 : Env0 P w K mg base A outer s H) (hl : vs.length = ps.length) (r : Vals vs us)
    (x : InCallC s s.heap.objs.size (bindL (envOfC qual scope s.heap.objs.size f cd).kindOf (ps.zip us) fun _ => none) (cellsFrom (s.heap.objs.size + 1) scope.names []) (bindC (envOfC qual scope s.heap.objs.size f cd).kindOf (ps.zip us) fun _ => none) s1) :
    Inv (cxOf CX P w K mg base N qual scope f cd A outer s H E) [] (start N vs) H s1 := by
  have hpl : ps.length ≤ N.length := by have := congrArg List.length S.pre; rw [List.length_take] at this; omega
  obtain ⟨h1, tk, rfl, hk⟩ := x.done
  have noA : ∀ b : Addr, b ∉ (cxOf CX P w K mg base N qual scope f cd A outer s H E).ex := fun b z => absurd (show b ∈ ([] : List Addr) from z) (by simp)
  refine ⟨⟨e0.mod, S.kind, rfl, rfl, Nat.le_refl _, fun y z c h1 h2 => ?_, fun y hy => ?_, fun y c _ h => ?_, fun _ => hd, Around.frames_deeper e0.frames, .inr ⟨rfl, rfl⟩, fun b z => absurd z (noA b), e0.bs, e0.bsz, fun b _ _ => noA b, fun b z => absurd z (noA b), e0.funs, e0.frf⟩,
    rfl, e0.bare, Un.kept hk, ⟨_, x.toInCall.ns, fun i y v h1 h2 h3 => ?_⟩, fun y c h => ⟨_, x.cell y c h⟩, e0.hok.fresh (Nat.le_refl _), fun y c h => ?_, fun p hp => absurd (show p ∈ ([] : List (Addr × Obj)) from hp) (by simp), e0.hok.kept hk, ?_⟩
  · exact name_of_addr x.apart (PySem.mem_of_lookup h1) (PySem.mem_of_lookup h2)
  · have hy : scope.names.lookup y = some .cell ∨ scope.names.lookup y = some .free := hy
    rcases hy with hy | hy
    · exact cell_has hy
    · exact absurd rfl (S.nofree _ (PySem.mem_of_lookup hy))
  · exact Nat.le_of_lt (x.above y c (PySem.mem_of_lookup h))
  · have hi : i < vs.length := by
      unfold start at h2
      by_cases hi : i < vs.length
      · exact hi
      · rw [List.getElem?_append_right (by simpa using hi)] at h2
        rw [List.getElem?_replicate] at h2
        split at h2 <;> cases h2
    have ha : vs[i]? = some v := by
      unfold start at h2
      rw [List.getElem?_append_left (by simpa using hi), List.getElem?_map] at h2
      cases e : vs[i]? with
      | none => rw [e] at h2; cases h2
      | some a => rw [e] at h2; cases h2; rfl
    obtain ⟨u, hu, rv⟩ := r.get ha
    have hp : ps[i]? = some y := by
      rw [← S.pre, List.getElem?_take_of_lt (by omega)]; exact h1
    have ndP : ps.Nodup := by rw [← S.pre]; exact S.nd.sublist (List.take_sublist _ _)
    refine ⟨u, rv, ?_⟩
    rcases S.par y (List.mem_of_getElem? hp) with k | k
    · exact .inl ⟨k, bindL_get ndP hp hu k⟩
    · obtain ⟨c, e⟩ := cell_has (n := s.heap.objs.size + 1) k
      refine .inr ⟨.inl k, c, e, ?_⟩
      have q := x.cell y c e
      rw [bindC_get ndP hp hu (by show scope.names.lookup y ≠ _; rw [k]; decide)] at q
      exact q
  · exact e0.hok.fresh (Nat.le_of_lt (x.above y c (PySem.mem_of_lookup h)))
  · unfold start
    show _ = N.length
    rw [List.length_append, List.length_map, List.length_replicate]
    omega

/-- THE RULE: a def (or a method) of the text, by its body. The body's reading t is chosen for each entry; it is run at the parameters' values -/
theorem fn_of {CX : CXT} {P : Program} {w : World} {K : PySem.W.Frag} {mg : Str → Option Value} {base : Heap} {k : Nat} {f : Addr} {name qual : Str} {params : Arguments} {body : List Stmt} {scope : Scope} {dV kV doc pm cdv ct oc : Value} {an od : Option Addr}
    {osl : Array (Option Value)} {N ps : List Str} {sp : Sp} (lk : K.lookup f = some ⟨oc, od, .func (PySem.W.fnOf name qual params body scope dV kV doc pm an cdv ct), osl⟩) (hcd : PySem.W.codeIn K cdv qual = true) (S : FnScope N ps scope)
    (len : ∀ vs H Q E, sp vs H Q E → vs.length = ps.length)
    (hbody : ∀ (A : Around) (outer : List Env) (s : Shared) (H : Hp) (vs : List V) (Q : VK) (E : XK), Room k (A.deeper (envOfC qual scope s.heap.objs.size f cdv)) → sp vs H Q E →
      ∃ t, PSs (cxOf CX P w K mg base N qual scope f cdv A outer s H E) body t ∧ t { nx := fun _ H' => Q .non H', rt := Q } (start N vs) H) :
    FnOk P w K mg base CX (k + 1) f (PySem.W.fnOf name qual params body scope dV kV doc pm an cdv ct) ps sp := by
  refine ⟨len, fun A outer s H args us vs Q E hr e0 hb r hsp => ?_⟩
  have hl := len _ _ _ _ hsp
  have KX : K.In s.heap := e0.mod.kin.keeps fun b o e => (e0.bs b o e).1
  have lim : s.heap.NoLimit := e0.mod.nolimit.keeps fun b o e => (e0.bs b o e).1
  have hkind : ∀ y ∈ ps.zip us, scope.names.lookup y.1 = some .local ∨ (scope.names.lookup y.1 = some .cell ∧ ((cellsFrom (s.heap.objs.size + 1) scope.names []).lookup y.1).isSome = true) := fun ⟨n, v⟩ hy => by
    rcases S.par n (List.of_mem_zip hy).1 with q | q
    · exact .inl q
    · exact .inr ⟨q, PySem.W.cellsFrom_some _ _ _ (.inl q)⟩
  refine codeAny_call_function hr.depth (KX _ _ lk) rfl S.co S.gen rfl (PySem.W.codeRec_of KX hcd) (hb _ _ _ _ ?_)
  refine wpAny_newFunctionEnv_cells S.kind hkind fun env he s1 x => ?_
  subst he
  refine ⟨lim.keeps x.toInCall.keep, codeAny_func ?_⟩
  obtain ⟨t, ht, hq⟩ := hbody A outer s H vs Q E (hr.deeper _) hsp
  have I : Inv (cxOf CX P w K mg base N qual scope f cdv A outer s H E) [] (start N vs) H s1 := inv_start S hr.hd e0 hl r x
  refine wpAny_mono (ht [] s1 (start N vs) H _ I hq) (fun fl s' hs => ?_) fun e s' hs => hs
  have fin : ∀ {σ' : St} {H' : Hp} {v : V} {u : Value}, Inv (cxOf CX P w K mg base N qual scope f cdv A outer s H E) [] σ' H' s' → RelV v u → Q v H' → CE outer P w H s Q u s' :=
    fun {σ' H' v u} J rv q => ⟨v, H', J.os, J.bare, J.base, J.hok, rv, q⟩
  cases fl with
  | ret u =>
    obtain ⟨v, σ', H', J, rv, q⟩ := hs
    exact fin J rv q
  | next =>
    obtain ⟨σ', H', J, q⟩ := hs
    exact fin (v := V.non) (u := Value.none) J rfl q
  | brk =>
    obtain ⟨_, _, _, q⟩ := hs
    exact False.elim q
  | cont =>
    obtain ⟨_, _, _, q⟩ := hs
    exact False.elim q
end L2

namespace L2
open PySem PySem.Spec PyProof.Rows
section
variable {X : Cx} {x : Str} {p pos : Pos} {e : Expr} {es : List Expr} {t : TA} {id T : String} {r : List V → Hp → VK → Prop}

def tCB (r : List V → Hp → VK → Prop) (t : TA) : TE := fun σ H Q => t σ H fun vs H1 => r vs H1 Q
/-- f(e, ..), f a built-in function -/
theorem pe_callB (hc : CallR X (.builtin id) r) (hg : Gl X x) (hm : X.mg x = none) (hv : bootBuiltins x = some (.builtin id)) (ha : PA X (e :: es) t) (hn : x ≠ "__name__" := by decide) (hdb : (x == ("__debug__" : Str)) = false := by decide)
    (he : starEach (e :: es) X.env = (false, eval e X.env) :: starEach es X.env := by rfl) (hpl : (backTo pos (starEach es X.env)).any (·.1) = false := by rfl) : PE X (.Call (.Name x p) (e :: es) [] pos) (tCB r t) := by
  intro pins s σ H Q I h
  refine wpAny_Call_Name_kw (ld_blt I hg hm hv ?_ hn hdb)
  exact PyProof.Rows.callWith_builtin1 (thn (ha pos pins s σ H _ I h) fun us s1 ⟨vs, H1, I1, r1, q1⟩ => hc pins s1 σ H1 vs us Q I1 r1 q1) he hpl
/-- T(e, ..), T a built-in type -/
theorem pe_callTy (hc : CallR X (.type T) r) (hg : Gl X x) (hm : X.mg x = none) (hv : bootBuiltins x = some (.type T)) (ha : PA X (e :: es) t) (hn : x ≠ "__name__" := by decide) (hdb : (x == ("__debug__" : Str)) = false := by decide)
    (he : starEach (e :: es) X.env = (false, eval e X.env) :: starEach es X.env := by rfl) (hpl : (backTo pos (starEach es X.env)).any (·.1) = false := by rfl) : PE X (.Call (.Name x p) (e :: es) [] pos) (tCB r t) := by
  intro pins s σ H Q I h
  refine wpAny_Call_Name_kw (ld_blt I hg hm hv ?_ hn hdb)
  exact PyProof.Rows.callWith_type1 (thn (ha pos pins s σ H _ I h) fun us s1 ⟨vs, H1, I1, r1, q1⟩ => hc pins s1 σ H1 vs us Q I1 r1 q1) he hpl
end
end L2

namespace HT
open PySem PyProof.Rows

/-- t < u of tuples of ints -/
def lexLt : List Int → List Int → Bool
  | [], [] => false
  | [], _ :: _ => true
  | _ :: _, [] => false
  | x :: xs, y :: ys => if x = y then lexLt xs ys else decide (x < y)
section
open PySem.SeqAt
open PySem.AutoSeq1 (wpAny_loadPart')
open PySem.MeetsSeq PySem.MeetsSeq2 PySem.MeetsSeq3

end

section
variable {prog : Program} {w : World} {A : Around} {E : Value → Shared → Prop} {s : Shared}

/-! ### t[a:b], not the whole -/
/-- a slice's bound as a place among n (d where it is left out) -/
def sIx (n d : Nat) : Option Int → Nat
  | none => d
  | some v => if v < 0 then (v + (n : Int)).toNat else min v.toNat n
theorem sIx_nat (n d k : Nat) : sIx n d (some (k : Int)) = min k n := by
  show (if (k : Int) < 0 then ((k : Int) + (n : Int)).toNat else min (k : Int).toNat n) = min k n
  rw [if_neg (by omega), Int.toNat_natCast]
end
end HT

namespace L2
open PySem PySem.Spec PyProof.Rows

/-! ### the parts of a slice -/
abbrev TO := St → Hp → (Option Int → Hp → Prop) → Prop
/-- a slice's part (left out, or an int) -/
def PO (X : Cx) (e : Option Expr) (t : TO) : Prop :=
  ∀ (pins : List (Addr × Obj)) (s : Shared) (σ : St) (H : Hp) (Q : Option Int → Hp → Prop), Inv X pins σ H s → t σ H Q →
    wpAny (model X.prog X.w) X.A (evalPart e X.env) (fun u s' => ∃ o H', Inv X pins σ H' s' ∧ IsPart u o ∧ Q o H') X.xe s
def tNoPart : TO := fun _ H Q => Q none H
def tPart (t : TE) : TO := fun σ H Q => t σ H fun x H1 => ∃ i, x = .int i ∧ Q (some i) H1

section
variable {X : Cx} {e : Expr} {te : TE} {lo hi : Option Expr} {tl th : TO} {pos p2 : Pos}

theorem po_none : PO X none tNoPart := by
  intro pins s σ H Q I h
  rw [evalPart_none]
  exact wpAny_pure ⟨none, H, I, .none, h⟩
theorem po_some (h : PE X e te) : PO X (some e) (tPart te) := by
  intro pins s σ H Q I hw
  rw [evalPart_some]
  refine thn (h pins s σ H _ I hw) fun u s1 ⟨x, H1, I1, r1, q1⟩ => ?_
  obtain ⟨i, rfl, q⟩ := q1
  obtain ⟨t, rfl⟩ := r1
  exact ⟨some i, H1, I1, .int i t, q⟩

/-- what a slice of a value is, by values: the slice object stands at sl -/
def SlR (X : Cx) (r : V → Option Int → Option Int → Hp → VK → Prop) : Prop :=
  ∀ (pins : List (Addr × Obj)) (s : Shared) (σ : St) (H : Hp) (x : V) (v vl vu : Value) (lo hi : Option Int) (sl : Addr) (Q : VK), Inv X pins σ H s → RelV x v → s.heap.IsSliceOf sl vl vu .none → IsPart vl lo → IsPart vu hi → r x lo hi H Q →
    ∃ T id, typeLookup (.type T) "__getitem__" = pure (some (.builtin id)) ∧ s.TypeIs v T ∧ wpAny (model X.prog X.w) X.A (getItem v (.ref sl)) (EP X pins σ Q) X.xe s
def tSl (r : V → Option Int → Option Int → Hp → VK → Prop) (te : TE) (tl th : TO) : TE := fun σ H Q => te σ H fun x H1 => tl σ H1 fun l H2 => th σ H2 fun u H3 => r x l u H3 Q
/-- a[lo:hi], any a -/
theorem pe_slice {r : V → Option Int → Option Int → Hp → VK → Prop} (hr : SlR X r) (he : PE X e te) (hl : PO X lo tl) (hu : PO X hi th) : PE X (.Subscript e (.Slice lo hi none p2) pos) (tSl r te tl th) := by
  intro pins s σ H Q I h
  refine Subscript_ (thn (he pins s σ H _ I h) fun v s1 ⟨x, H1, I1, r1, q1⟩ => ?_)
  refine wpAny_Slice (thn (hl pins s1 σ H1 _ I1 q1) fun vl s2 ⟨l, H2, I2, pl, q2⟩ => thn (hu pins s2 σ H2 _ I2 q2) fun vu s3 ⟨u, H3, I3, pu, q3⟩ => ?_)
  rw [evalPart_none]
  refine wpAny_pure ?_
  have I4 : Inv X pins σ H3 { s3 with heap := s3.heap.push { cls := .type "slice", data := .fields #[vl, vu, .none] } } := I3.kept (t' := s3.toks) fun b ob q => Heap.get?_push_of_some _ q
  obtain ⟨T, id, hT, ht, hg⟩ := hr pins { s3 with heap := s3.heap.push { cls := .type "slice", data := .fields #[vl, vu, .none] } } σ H3 x v vl vu l u s3.heap.objs.size Q I4 r1 (Heap.IsSliceOf.new ..) pl pu q3
  show wpAny (model X.prog X.w) X.A (subscriptTail e (.Slice lo hi none p2) v (.ref s3.heap.objs.size)) (EP X pins σ Q) X.xe { s3 with heap := s3.heap.push { cls := .type "slice", data := .fields #[vl, vu, .none] } }
  exact tail_any (ops := [.ref s3.heap.objs.size, v]) ht hT hg (by with_unfolding_all rfl)

/-- the items of xs[lo:hi] -/
def cutV (xs : List V) (lo hi : Option Int) : List V := (xs.drop (HT.sIx xs.length 0 lo)).take (HT.sIx xs.length xs.length hi - HT.sIx xs.length 0 lo)
theorem cutV_length (xs : List V) (lo hi : Option Int) : (cutV xs lo hi).length ≤ xs.length := by
  unfold cutV
  rw [List.length_take, List.length_drop]
  omega
/-- t[lo:hi], not the whole of it (the whole would be t itself) -/
def rSlT (K : PySem.W.Frag) : V → Option Int → Option Int → Hp → VK → Prop := fun x lo hi H Q => ∃ a xs, x = .ref a ∧ SqT K H a xs ∧
  ¬ (HT.sIx xs.length 0 lo = 0 ∧ HT.sIx xs.length xs.length hi = xs.length) ∧ ∀ p, H p = none → Q (.ref p) (upd H p (.tup (cutV xs lo hi)))
/-! ### t < u, t + u -/
def rLtT (K : PySem.W.Frag) : R2 := fun x y H Q => ∃ a b ns ms, x = .ref a ∧ y = .ref b ∧ SqT K H a (ns.map V.int) ∧ SqT K H b (ms.map V.int) ∧ Q (.bl (HT.lexLt ns ms)) H
/-- t + u, t not empty: u empty gives t itself -/
def rCatT (K : PySem.W.Frag) : R2 := fun x y H Q => ∃ a b xs ys, x = .ref a ∧ y = .ref b ∧ SqT K H a xs ∧ SqT K H b ys ∧ xs ≠ [] ∧ xs.length + ys.length ≤ sizeLine ∧
  (ys = [] → Q (.ref a) H) ∧ (ys ≠ [] → ∀ p, H p = none → Q (.ref p) (upd H p (.tup (xs ++ ys))))
end
end L2

namespace L2
open PySem PySem.Spec PyProof.Rows

/-! ### places -/
/-- the place that an index of any sign means -/
def ixN (n : Nat) (i : Int) : Option Nat := if 0 ≤ i then (if i < n then some i.toNat else none) else if -(n : Int) ≤ i then some (i + n).toNat else none
def atI {α : Type} (xs : List α) (i : Int) : Option α := (ixN xs.length i).bind fun j => xs[j]?
theorem ixN_seq {n : Nat} {i : Int} {j : Nat} (h : ixN n i = some j) : seqIndex? i n = some j ∧ j < n ∧ -(n : Int) ≤ i ∧ i < n := by
  unfold ixN at h
  by_cases h0 : 0 ≤ i
  · rw [if_pos h0] at h
    by_cases h1 : i < n
    · rw [if_pos h1] at h
      have e : i.toNat = j := Option.some.inj h
      exact ⟨by rw [seqIndex_of h0 h1, e], by omega, by omega, h1⟩
    · rw [if_neg h1] at h; cases h
  · rw [if_neg h0] at h
    by_cases h1 : -(n : Int) ≤ i
    · rw [if_pos h1] at h
      have e : (i + n).toNat = j := Option.some.inj h
      exact ⟨by rw [seqIndex_neg (by omega) h1, e], by omega, h1, by omega⟩
    · rw [if_neg h1] at h; cases h
theorem atI_get {α : Type} {xs : List α} {i : Int} {v : α} (h : atI xs i = some v) : ∃ j, seqIndex? i xs.length = some j ∧ xs[j]? = some v ∧ j < xs.length ∧ -(xs.length : Int) ≤ i ∧ i < xs.length := by
  unfold atI at h
  cases e : ixN xs.length i with
  | none => rw [e] at h; cases h
  | some j =>
    rw [e] at h
    obtain ⟨h1, h2, h3, h4⟩ := ixN_seq e
    exact ⟨j, h1, h, h2, h3, h4⟩
theorem atI_nat {α : Type} {xs : List α} {j : Nat} {v : α} (h : xs[j]? = some v) : atI xs (j : Int) = some v := by
  have hj : j < xs.length := (List.getElem?_eq_some_iff.mp h).1
  have e : ixN xs.length (j : Int) = some j := by
    unfold ixN
    rw [if_pos (by omega), if_pos (by omega)]; simp
  unfold atI; rw [e]; exact h
/-! ### what may be subscripted -/
/-- what stands as an index of a plain subscript -/
def PlainIx (b : Expr) : Prop := ∀ o i, subscripted b false o i = operate [o, i] (getItem o i)
/-- a subscript by values -/
def IxR (X : Cx) (r : R2) : Prop :=
  ∀ (value slice : Expr) (pins : List (Addr × Obj)) (s : Shared) (σ : St) (H : Hp) (x y : V) (v u : Value) (Q : VK), Inv X pins σ H s → RelV x v → RelV y u → r x y H Q →
    subscripted slice false v u = operate [v, u] (getItem v u) → wpAny (model X.prog X.w) X.A (subscriptTail value slice v u) (EP X pins σ Q) X.xe s
/-- a call of a builtin's method by values: the receiver, the arguments -/
def MtR (X : Cx) (id : String) (r : V → List V → Hp → VK → Prop) : Prop :=
  ∀ (pins : List (Addr × Obj)) (s : Shared) (σ : St) (H : Hp) (x : V) (xs : List V) (v : Value) (us : List Value) (Q : VK), Inv X pins σ H s → RelV x v → Vals xs us → r x xs H Q →
    wpAny (model X.prog X.w) X.A (call (.builtin id) (v :: us)) (EP X pins σ Q) X.xe s
section
variable {X : Cx} {a b : Expr} {ta tb : TE} {pos : Pos}
/-- a[b] -/
theorem pe_ix {r : R2} (hr : IxR X r) (ha : PE X a ta) (hb : PE X b tb) (hs : PlainIx b) : PE X (.Subscript a b pos) (tOp r ta tb) := by
  intro pins s σ H Q I h
  exact Subscript_ (binT ha hb I h fun v u s2 x y H2 I2 rx ry q => hr a b pins s2 σ H2 x y v u Q I2 rx ry q (hs _ _))

def rIxL (K : PySem.W.Frag) : R2 := fun x y H Q => ∃ p xs i v, x = .ref p ∧ y = .int i ∧ SqL K H p xs ∧ atI xs i = some v ∧ Q v H
def rIxT (K : PySem.W.Frag) : R2 := fun x y H Q => ∃ p xs i v, x = .ref p ∧ y = .int i ∧ SqT K H p xs ∧ atI xs i = some v ∧ Q v H
def rIxS : R2 := fun x y H Q => ∃ z i c, x = .str z ∧ y = .int i ∧ z.length ≤ sizeLine ∧ atI z.cps.toList i = some c ∧ Q (.str ⟨#[c]⟩) H
theorem ix_list : IxR X (rIxL X.K) := by
  intro value slice pins s σ H x y v u Q I rx ry h hs
  obtain ⟨p, xs, i, z, rfl, rfl, hq, he, q⟩ := h
  cases rx
  obtain ⟨t, rfl⟩ := ry
  obtain ⟨its, r, pl, hz⟩ := I.list hq
  obtain ⟨j, h1, h2, h3, h4, h5⟩ := atI_get he
  obtain ⟨w, ew, rw'⟩ := r.get h2
  have hl := r.length
  have hn := line63
  have fin : EP X pins σ Q w s := ⟨z, H, I, rw', q⟩
  by_cases h0 : 0 ≤ i
  · have hj : i.toNat = j := by
      rw [seqIndex_of h0 h5] at h1
      exact Option.some.inj h1
    exact item_listR pl.isList h0 (by omega) (by rw [hj]; simpa using ew) fin hs
  · have hj : (i + (its.toArray.size : Int)).toNat = j := by
      rw [seqIndex_neg (by omega) h4] at h1
      rw [List.size_toArray, ← hl]
      exact Option.some.inj h1
    exact subscriptTail_builtinR (x := w) pl.isList.typeIs slot_list_getitem.lookup
      (wpAny_getItem_list_neg (Q := fun r s' => r = w ∧ EP X pins σ Q r s') pl.isList (by omega) (by rw [List.size_toArray] <;> omega) (by omega) (by rw [hj]; simpa using ew) ⟨rfl, fin⟩) hs
theorem ix_tup : IxR X (rIxT X.K) := by
  intro value slice pins s σ H x y v u Q I rx ry h hs
  obtain ⟨p, xs, i, z, rfl, rfl, hq, he, q⟩ := h
  cases rx
  obtain ⟨t, rfl⟩ := ry
  obtain ⟨its, r, pl, hz⟩ := I.tuple hq
  obtain ⟨j, h1, h2, h3, h4, h5⟩ := atI_get he
  obtain ⟨w, ew, rw'⟩ := r.get h2
  have hl := r.length
  have hn := line63
  have fin : EP X pins σ Q w s := ⟨z, H, I, rw', q⟩
  exact subscriptTail_builtinR (x := w) pl.typeIs slot_tuple_getitem.lookup
    (getItem_tuple (j := j) (Q := fun r s' => r = w ∧ EP X pins σ Q r s') pl (by omega) (by omega) (by rw [List.size_toArray, ← hl]; exact h1) (by simpa using ew) ⟨rfl, fin⟩) hs
theorem ix_str : IxR X rIxS := by
  intro value slice pins s σ H x y v u Q I rx ry h hs
  obtain ⟨z, i, c, rfl, rfl, hz, he, q⟩ := h
  obtain ⟨t, rfl⟩ := rx
  obtain ⟨t', rfl⟩ := ry
  obtain ⟨j, h1, h2, h3, h4, h5⟩ := atI_get he
  have hl : z.cps.toList.length = z.length := by simp [Str.length]
  rw [hl] at h1 h4 h5
  have hn := line63
  exact tail_any (typeIs_str s z t) slot_str_getitem.lookup (getItem_str (c := c) (by
    have e1 : decide (i < -(2 ^ 63 : Int)) = false := decide_eq_false (by omega)
    have e2 : decide (i ≥ 2 ^ 63) = false := decide_eq_false (by omega)
    rw [e1, e2, Bool.or_false]) (by rw [h1]; simpa using h2) ⟨.str ⟨#[c]⟩, H, I.tok _, ⟨_, rfl⟩, q⟩) hs
/-- list, tuple or str -/
def rIx (K : PySem.W.Frag) : R2 := fun x y H Q => rIxL K x y H Q ∨ rIxT K x y H Q ∨ rIxS x y H Q
/-! ### xs[i] = v, any sign -/
/-- the list's object behind a store -/
theorem mapSeq_set (its : List Value) (n j : Nat) (u : Value) : Obj.mapSeq (·.setIfInBounds j u) { cls := .type "list", data := .seq its.toArray n } = { cls := .type "list", data := .seq (its.set j u).toArray n } := by
  simp [Obj.mapSeq]
theorem Inv.lst {pins : List (Addr × Obj)} {σ : St} {H : Hp} {s : Shared} {p : Addr} {xs : List V} (I : Inv X pins σ H s) (h : H p = some (.lst xs)) :
    ∃ (its : List Value) (n : Nat), Vals xs its ∧ s.heap.get? p = some { cls := .type "list", data := .seq its.toArray n } ∧ xs.length ≤ sizeLine := by
  obtain ⟨z, its, n, r, e⟩ := I.hok p _ h
  exact ⟨its, n, r, e, z⟩
/-- the list at p is written by an update of its object -/
theorem Inv.lstUpd {pins : List (Addr × Obj)} {σ : St} {H : Hp} {s : Shared} {p : Addr} {xs ys : List V} {its its' : List Value} {n n' : Nat} {f : Obj → Obj} (I : Inv X pins σ H s) (h : H p = some (.lst xs))
    (ho : s.heap.get? p = some { cls := .type "list", data := .seq its.toArray n }) (hf : f { cls := .type "list", data := .seq its.toArray n } = { cls := .type "list", data := .seq its'.toArray n' }) (r : Vals ys its') (hz : ys.length ≤ sizeLine) (t : Nat) :
    Inv X pins σ (upd H p (.lst ys)) { s with heap := s.heap.update p f, toks := t } := by
  have e : (s.heap.update p f).get? p = some { cls := .type "list", data := .seq its'.toArray n' } := by
    rw [Heap.get?_update_self f ho (by rw [hf] <;> rfl), hf]
  refine I.write (x := p) (e := p) (by rw [h]; trivial) (.inl rfl) (fun b u hb q => (Heap.get?_update_other _ _ (Ne.symm hb)).trans q) ⟨_, e⟩ ?_
  exact ⟨hz, its', n', r, e⟩
def rSetL : V → V → V → Hp → (Hp → Prop) → Prop := fun o i v H Q => ∃ p xs k j, o = .ref p ∧ i = .int k ∧ H p = some (.lst xs) ∧ ixN xs.length k = some j ∧ Q (upd H p (.lst (xs.set j v)))
theorem set_list : PSet X rSetL := by
  intro pins s σ H o i v ov iv u Q I ro ri rv h
  obtain ⟨p, xs, k, j, rfl, rfl, hp, hj, q⟩ := h
  cases ro
  obtain ⟨t, rfl⟩ := ri
  obtain ⟨its, n, r, ho, hz⟩ := I.lst hp
  obtain ⟨h1, h2, h3, h4⟩ := ixN_seq hj
  have hl := r.length
  have hn := line63
  have I' : Inv X pins σ (upd H p (.lst (xs.set j v))) { s with heap := s.heap.update p (Obj.mapSeq (·.setIfInBounds j u)) } :=
    I.lstUpd hp ho (mapSeq_set its n j u) (r.set rv j) (by rw [List.length_set]; exact hz) s.toks
  by_cases h0 : 0 ≤ k
  · have hk : k.toNat = j := by
      rw [seqIndex_of h0 h4] at h1
      exact Option.some.inj h1
    exact PySem.W.ki_setAt ho h0 (by omega) (by rw [List.size_toArray, ← hl]; exact h4) (by rw [hk]; exact ⟨_, I', q⟩)
  · have hk : (k + (its.toArray.size : Int)).toNat = j := by
      rw [seqIndex_neg (by omega) h3] at h1
      rw [List.size_toArray, ← hl]
      exact Option.some.inj h1
    exact PySem.W.ki_setBack ho (by omega) (by rw [List.size_toArray, ← hl]; exact h3) (by omega) (by rw [hk]; exact ⟨_, I', q⟩)

/-! ### slices -/
theorem slice_bounds (lo hi : Option Int) (n : Nat) : (sliceBounds lo hi none n).1 = ((HT.sIx n 0 lo : Nat) : Int) ∧ (sliceBounds lo hi none n).2.1 = ((HT.sIx n n hi : Nat) : Int) ∧ (sliceBounds lo hi none n).2.2 = 1 := by
  refine ⟨?_, ?_, rfl⟩
  · cases lo with
    | none => simp [sliceBounds, HT.sIx]
    | some i =>
      simp only [sliceBounds, HT.sIx, Option.getD_none, show (1 : Int) > 0 by decide, if_true]
      by_cases h : i < 0
      · simp only [h, if_true] <;> omega
      · simp only [h, if_false] <;> omega
  · cases hi with
    | none => simp [sliceBounds, HT.sIx]
    | some i =>
      simp only [sliceBounds, HT.sIx, Option.getD_none, show (1 : Int) > 0 by decide, if_true]
      by_cases h : i < 0
      · simp only [h, if_true] <;> omega
      · simp only [h, if_false] <;> omega
theorem slicePick_cut (its : List Value) (lo hi : Option Int) : slicePick its.toArray lo hi none = ((its.drop (HT.sIx its.length 0 lo)).take (HT.sIx its.length its.length hi - HT.sIx its.length 0 lo)).toArray := by
  obtain ⟨h1, h2, h3⟩ := slice_bounds lo hi its.toArray.size
  unfold slicePick
  rw [h1, h2, h3]
  simp only [sliceRange_one, pick_run, List.size_toArray] <;> rfl
/-- xs[lo:hi] of a list: a new list -/
def rSlL (K : PySem.W.Frag) : V → Option Int → Option Int → Hp → VK → Prop := fun x lo hi H Q => ∃ a xs, x = .ref a ∧ SqL K H a xs ∧ ∀ p, H p = none → Q (.ref p) (upd H p (.lst (cutV xs lo hi)))
theorem sl_list : SlR X (rSlL X.K) := by
  intro pins s σ H x v vl vu lo hi sl Q I rx hs pl pu h
  obtain ⟨a, xs, rfl, hx, q⟩ := h
  cases rx
  obtain ⟨its, r, ht, hz⟩ := I.list hx
  have hlen := r.length
  refine ⟨"list", _, slot_list_getitem.lookup, ht.isList.typeIs, ?_⟩
  refine wpAny_getItem_list_slice ht.isList hs pl pu .none (by simp) ?_ (by rw [List.size_toArray] <;> omega)
  rw [slicePick_cut, ← hlen]
  refine ⟨.ref s.heap.objs.size, _, I.laid (t' := s.toks) (o := .lst (cutV xs lo hi)) (fun b ob q => Heap.get?_push_of_some _ q) (Nat.le_refl _) ?_, rfl, q _ (I.hok.fresh (Nat.le_refl _))⟩
  exact ⟨Nat.le_trans (cutV_length xs lo hi) hz, _, 0, (r.drop (HT.sIx xs.length 0 lo)).take (HT.sIx xs.length xs.length hi - HT.sIx xs.length 0 lo), Heap.get?_push_size _ rfl⟩

/-! ### in, not in: flat items -/
def flatV : V → Bool
  | .non => true
  | .bl _ => true
  | .int _ => true
  | .str _ => true
  | _ => false
/-- == of flat values -/
def eqV : V → V → Bool
  | .non, .non => true
  | .bl a, .bl b => a == b
  | .bl a, .int b => (if a then 1 else 0) == b
  | .int a, .bl b => a == (if b then 1 else 0)
  | .int a, .int b => a == b
  | .str a, .str b => a == b
  | _, _ => false
theorem eqAt_V {A : Around} {s : Shared} {y x : V} {u v : Value} (ry : RelV y u) (rx : RelV x v) (fy : flatV y = true) (fx : flatV x = true) : SeqAt.EqAt A s u v (eqV y x) := by
  cases y with
  | non =>
    cases ry
    cases x with
    | non => cases rx; exact SeqAt.EqAt.same _
    | bl b => cases rx; exact SeqAt.EqAt.none_bool b
    | int b => obtain ⟨t, rfl⟩ := rx; exact SeqAt.EqAt.none_int b t
    | str b => obtain ⟨t, rfl⟩ := rx; exact SeqAt.EqAt.none_str b t
    | _ => exact absurd (show false = true from fx) Bool.false_ne_true
  | bl a =>
    cases ry
    cases x with
    | non => cases rx; exact SeqAt.EqAt.bool_none a
    | bl b => cases rx; exact SeqAt.EqAt.bool_bool a b
    | int b => obtain ⟨t, rfl⟩ := rx; exact SeqAt.EqAt.bool_int a b t
    | str b => obtain ⟨t, rfl⟩ := rx; exact SeqAt.EqAt.bool_str a b t
    | _ => exact absurd (show false = true from fx) Bool.false_ne_true
  | int a =>
    obtain ⟨t', rfl⟩ := ry
    cases x with
    | non => cases rx; exact SeqAt.EqAt.int_none a t'
    | bl b => cases rx; exact SeqAt.EqAt.int_bool a t' b
    | int b => obtain ⟨t, rfl⟩ := rx; exact SeqAt.EqAt.int_int a t' b t
    | str b => obtain ⟨t, rfl⟩ := rx; exact SeqAt.EqAt.int_str a t' b t
    | _ => exact absurd (show false = true from fx) Bool.false_ne_true
  | str a =>
    obtain ⟨t', rfl⟩ := ry
    cases x with
    | non => cases rx; exact SeqAt.EqAt.str_none a t'
    | bl b => cases rx; exact SeqAt.EqAt.str_bool a t' b
    | int b => obtain ⟨t, rfl⟩ := rx; exact SeqAt.EqAt.str_int a t' b t
    | str b => obtain ⟨t, rfl⟩ := rx; exact SeqAt.EqAt.str_str a t' b t
    | _ => exact absurd (show false = true from fx) Bool.false_ne_true
  | _ => exact absurd (show false = true from fy) Bool.false_ne_true
/-- the items' answers, read off the values (a value's own answer does not lean on its token) -/
def eqU (x : V) (u : Value) : Bool := match u with
  | .none => eqV .non x
  | .bool b => eqV (.bl b) x
  | .int i _ => eqV (.int i) x
  | .str z _ => eqV (.str z) x
  | _ => false
theorem eqU_of {x y : V} {u : Value} (r : RelV y u) (f : flatV y = true) : eqU x u = eqV y x := by
  cases y with
  | non => cases r; rfl
  | bl b => cases r; rfl
  | int i => obtain ⟨t, rfl⟩ := r; rfl
  | str z => obtain ⟨t, rfl⟩ := r; rfl
  | _ => exact absurd (show false = true from f) Bool.false_ne_true
theorem any_eqU {x : V} : ∀ {xs : List V} {us : List Value}, Vals xs us → xs.all flatV = true → us.any (eqU x) = xs.any fun y => eqV y x
  | _, _, .nil, _ => rfl
  | y :: xs, u :: us, .cons r t, f => by
    rw [List.all_cons, Bool.and_eq_true] at f
    rw [List.any_cons, List.any_cons, eqU_of r f.1, any_eqU t f.2]
theorem mem_eqAt {A : Around} {s : Shared} {x : V} {v : Value} (rx : RelV x v) (fx : flatV x = true) : ∀ {xs : List V} {us : List Value}, Vals xs us → xs.all flatV = true → ∀ u ∈ us, SeqAt.EqAt A s u v (eqU x u)
  | _, _, .nil, _ => fun u hu => by cases hu
  | y :: xs, u :: us, .cons r t, f => fun u' hu => by
    rw [List.all_cons, Bool.and_eq_true] at f
    rcases List.mem_cons.mp hu with rfl | hu
    · rw [eqU_of r f.1]; exact eqAt_V r rx f.1 fx
    · exact mem_eqAt rx fx t f.2 u' hu
def inV (x : V) (xs : List V) : Bool := xs.any fun y => eqV y x
/-- x in a list or tuple of flat items -/
def rIn (K : PySem.W.Frag) (neg : Bool) : R2 := fun x y H Q => ∃ p xs, y = .ref p ∧ (SqL K H p xs ∨ SqT K H p xs) ∧ flatV x = true ∧ xs.all flatV = true ∧ Q (.bl (if neg then !inV x xs else inV x xs)) H
theorem op_in_seq : OpR X (compareOp .In) (rIn X.K false) := by
  intro pins s σ H x y v u Q I rx ry h
  obtain ⟨p, xs, rfl, hq, fx, fs, q⟩ := h
  cases ry
  rcases hq with hq | hq
  · obtain ⟨its, r, pl, hz⟩ := I.list hq
    refine SeqAt.in_listAt (eqU x) pl.isList (fun w hw => mem_eqAt rx fx r fs w (by simpa using hw)) ⟨.bl _, H, I, rfl, ?_⟩
    rw [show its.toArray.any (eqU x) = its.any (eqU x) by simp, any_eqU r fs]
    exact q
  · obtain ⟨its, r, pl, hz⟩ := I.tuple hq
    refine SeqAt.in_tupleAt (eqU x) pl (fun w hw => mem_eqAt rx fx r fs w (by simpa using hw)) ⟨.bl _, H, I, rfl, ?_⟩
    rw [show its.toArray.any (eqU x) = its.any (eqU x) by simp, any_eqU r fs]
    exact q
theorem op_notIn_seq : OpR X (compareOp .NotIn) (rIn X.K true) := by
  intro pins s σ H x y v u Q I rx ry h
  obtain ⟨p, xs, rfl, hq, fx, fs, q⟩ := h
  cases ry
  rcases hq with hq | hq
  · obtain ⟨its, r, pl, hz⟩ := I.list hq
    refine SeqAt.notIn_listAt (eqU x) pl.isList (fun w hw => mem_eqAt rx fx r fs w (by simpa using hw)) ⟨.bl _, H, I, rfl, ?_⟩
    rw [show its.toArray.any (eqU x) = its.any (eqU x) by simp, any_eqU r fs]
    exact q
  · obtain ⟨its, r, pl, hz⟩ := I.tuple hq
    refine SeqAt.notIn_tupleAt (eqU x) pl (fun w hw => mem_eqAt rx fx r fs w (by simpa using hw)) ⟨.bl _, H, I, rfl, ?_⟩
    rw [show its.toArray.any (eqU x) = its.any (eqU x) by simp, any_eqU r fs]
    exact q
/-! ### len, list(x), tuple(x) of any list or tuple that is read -/
theorem call_len_seq : CallR X (.builtin "len") (fun xs H Q => ∃ p ys, xs = [.ref p] ∧ (SqL X.K H p ys ∨ SqT X.K H p ys) ∧ Q (.int ys.length) H) := by
  intro pins s σ H xs us Q I r h
  obtain ⟨p, ys, rfl, hq, q⟩ := h
  obtain ⟨u, rfl, rx⟩ := vals1 r
  cases rx
  have hn := line63
  rcases hq with hq | hq
  · obtain ⟨its, r', pl, hz⟩ := I.list hq
    have hlen := r'.length
    exact Calls.call_len_list pl.isList (by simp only [List.size_toArray] <;> omega) ⟨.int ys.length, H, I.tok _, ⟨s.toks + 1, by rw [List.size_toArray, hlen]⟩, q⟩
  · obtain ⟨its, r', pl, hz⟩ := I.tuple hq
    have hlen := r'.length
    exact len_tuple pl (by simp only [List.size_toArray] <;> omega) ⟨.int ys.length, H, I.tok _, ⟨s.toks + 1, by rw [List.size_toArray, hlen]⟩, q⟩
theorem call_len_str : CallR X (.builtin "len") (fun xs H Q => ∃ z, xs = [.str z] ∧ z.length ≤ sizeLine ∧ Q (.int z.length) H) := by
  intro pins s σ H xs us Q I r h
  obtain ⟨z, rfl, hz, q⟩ := h
  obtain ⟨u, rfl, t, rfl⟩ := vals1 r
  have hn := line63
  exact len_str (by omega) ⟨.int z.length, H, I.tok _, ⟨_, rfl⟩, q⟩
theorem call_list_of : CallR X (.type "list") (fun xs H Q => ∃ p ys, xs = [.ref p] ∧ (SqL X.K H p ys ∨ SqT X.K H p ys) ∧ ∀ l, H l = none → Q (.ref l) (upd H l (.lst ys))) := by
  intro pins s σ H xs us Q I r h
  obtain ⟨p, ys, rfl, hq, q⟩ := h
  obtain ⟨u, rfl, rx⟩ := vals1 r
  cases rx
  have fin : ∀ (its : List Value), Vals ys its → ys.length ≤ sizeLine → ∀ (h' : Heap) (c' : Nat), (∀ b o', s.heap.get? b = some o' → h'.get? b = some o') →
      h'.get? s.heap.objs.size = some { cls := .type "list", dict := none, data := .seq its.toArray c', slots := #[] } → EP X pins σ Q (.ref s.heap.objs.size) { s with heap := h' } := fun its r' hz h' c' kp e =>
    ⟨.ref s.heap.objs.size, _, I.laid (t' := s.toks) kp (Nat.le_refl _) (show ObjOk X.prog X.w _ h' _ (.lst ys) from ⟨hz, its, c', r', e⟩), rfl, q _ (I.hok.fresh (Nat.le_refl _))⟩
  rcases hq with hq | hq
  · obtain ⟨its, r', pl, hz⟩ := I.list hq
    have hlen := r'.length
    obtain ⟨o, ho, hc, n, hd⟩ := pl.isList
    exact call_list_seq p (.inl rfl) ho hc hd (fun h' c' kp e => fin its r' hz h' c' kp e) (by simp only [List.size_toArray] <;> omega)
  · obtain ⟨its, r', pl, hz⟩ := I.tuple hq
    have hlen := r'.length
    obtain ⟨o, ho, hc, n, hd⟩ := pl
    exact call_list_seq p (.inr rfl) ho hc hd (fun h' c' kp e => fin its r' hz h' c' kp e) (by simp only [List.size_toArray] <;> omega)
/-! ### the call of a builtin's method: o.m(..) -/
/-- the value is of that builtin type -/
def tyV (K : PySem.W.Frag) (T : String) (x : V) (H : Hp) : Prop := match x with
  | .str _ => T = "str"
  | .int _ => T = "int"
  | .ref p => (T = "list" ∧ ∃ xs, SqL K H p xs) ∨ (T = "tuple" ∧ ∃ o, K.lookup p = some o ∧ o.cls = .type "tuple" ∧ o.dict = none) ∨
      (T = "dict" ∧ ((∃ kvs, H p = some (.dK kvs)) ∨ ∃ kvs, H p = some (.dT kvs))) ∨ (T = "set" ∧ ∃ S n, H p = some (.set S n))
  | _ => False
theorem tyV_is {pins : List (Addr × Obj)} {σ : St} {H : Hp} {s : Shared} {T : String} {x : V} {v : Value} (I : Inv X pins σ H s) (r : RelV x v) (ty : tyV X.K T x H) :
    s.TypeIs v T ∧ ∀ a, v = .ref a → ∃ ob, s.heap.get? a = some ob ∧ ob.dict = none := by
  cases x with
  | str z =>
    obtain ⟨t, rfl⟩ := r
    cases (show T = "str" from ty)
    exact ⟨typeIs_str s z t, fun _ e => nomatch e⟩
  | int i =>
    obtain ⟨t, rfl⟩ := r
    cases (show T = "int" from ty)
    exact ⟨typeIs_int s i t, fun _ e => nomatch e⟩
  | ref p =>
    cases r
    rcases ty with ⟨rfl, xs, hq⟩ | ⟨rfl, o, hk, hc, hd⟩ | ⟨rfl, hk⟩ | ⟨rfl, S, n, hk⟩
    · obtain ⟨its, _, pl, _⟩ := I.list hq
      refine ⟨pl.isList.typeIs, fun a e => ?_⟩
      cases e
      obtain ⟨o, n, e, c, hd, _⟩ := pl
      exact ⟨o, e, hd⟩
    · refine ⟨⟨o, I.kIn p o hk, hc⟩, fun a e => ?_⟩
      cases e
      exact ⟨o, I.kIn _ o hk, hd⟩
    · have z : ∃ o, s.heap.get? p = some o ∧ o.ExactDict := by
        rcases hk with ⟨kvs, hk⟩ | ⟨kvs, hk⟩
        · obtain ⟨_, _, _, _, o, _, _, e, ex, _⟩ := I.hok p _ hk
          exact ⟨o, e, ex⟩
        · obtain ⟨_, _, _, _, o, _, _, e, ex, _⟩ := I.hok p _ hk
          exact ⟨o, e, ex⟩
      obtain ⟨o, e, ex⟩ := z
      refine ⟨⟨o, e, ex.1⟩, fun a e2 => ?_⟩
      cases e2
      exact ⟨o, e, ex.2.1⟩
    · obtain ⟨o, _, _, _, e, ex, _⟩ := I.hok p _ hk
      refine ⟨⟨o, e, ex.1⟩, fun a e2 => ?_⟩
      cases e2
      exact ⟨o, e, ex.2.1⟩
  | _ => exact False.elim ty
def tBM0 (K : PySem.W.Frag) (T : String) (r : V → List V → Hp → VK → Prop) (to : TE) : TE := fun σ H Q => to σ H fun x H1 => tyV K T x H1 ∧ r x [] H1 Q
def tBM (K : PySem.W.Frag) (T : String) (r : V → List V → Hp → VK → Prop) (to : TE) (t : TA) : TE := fun σ H Q => to σ H fun x H1 => tyV K T x H1 ∧ t σ H1 fun xs H2 => r x xs H2 Q
variable {o e : Expr} {es : List Expr} {to : TE} {t : TA} {name : Str} {apos cpos : Pos} {T id : String} {r : V → List V → Hp → VK → Prop}
theorem pe_bm0 (pa : PlainAttrs T) (slot : Slot T name id) (hty : typeOf (.builtin id) = pure (.type "method_descriptor")) (hm : MtR X id r) (ho : PE X o to)
    (hbase : attributeBase o name X.env (eval o X.env) = eval o X.env := by rfl) (hline : (apos.endLine == cpos.line) = true := by rfl) : PE X (.Call (.Attribute o name apos) [] [] cpos) (tBM0 X.K T r to) := by
  intro pins s σ H Q I h
  refine wpAny_Call_method0_late hbase hline (thn (ho pins s σ H _ I h) fun v s1 ⟨x, H1, I1, r1, ty, q1⟩ => ?_)
  obtain ⟨h1, h2⟩ := tyV_is I1 r1 ty
  exact ⟨T, id, pa, slot, hty, h1, h2, Calls.callWith_builtin rfl (PySem.evalArgs_none (hm pins s1 σ H1 x [] v [] Q I1 r1 .nil q1))⟩
theorem pe_bm (pa : PlainAttrs T) (slot : Slot T name id) (hty : typeOf (.builtin id) = pure (.type "method_descriptor")) (hm : MtR X id r) (ho : PE X o to) (ha : PA X (e :: es) t)
    (hbase : attributeBase o name X.env (eval o X.env) = eval o X.env := by rfl)
    (hfew : ((backTo cpos (starEach (e :: es) X.env)).all (fun x => !x.1) && (backToKw cpos (keywordEach [] X.env)).all (fun x => x.1.isSome)
      && decide ((e :: es).length + ([] : List Keyword).length + (if ([] : List Keyword).isEmpty then 0 else 1) < 30)) = true := by rfl)
    (hline : (apos.endLine == cpos.line) = true := by rfl) (hs : starEach (e :: es) X.env = (false, eval e X.env) :: starEach es X.env := by rfl) (hplain : (backTo cpos (starEach es X.env)).any (·.1) = false := by rfl) :
    PE X (.Call (.Attribute o name apos) (e :: es) [] cpos) (tBM X.K T r to t) := by
  intro pins s σ H Q I h
  refine wpAny_Call_method_late hbase hfew hline rfl (thn (ho pins s σ H _ I h) fun v s1 ⟨x, H1, I1, r1, ty, q1⟩ => ?_)
  obtain ⟨h1, h2⟩ := tyV_is I1 r1 ty
  refine ⟨T, id, pa, slot, hty, h1, h2, ?_⟩
  have hA := ha cpos pins s1 σ H1 _ I1 q1
  rw [hs] at hA ⊢
  refine Calls.callWith_builtin (by show (false || (backTo cpos (starEach es X.env)).any (·.1)) = false; rw [hplain] <;> rfl) (Calls.evalArgs_plain ?_)
  exact thn hA fun us s2 ⟨vs, H2, I2, r2, q2⟩ => hm pins s2 σ H2 x vs v us Q I2 r1 r2 q2
/- xs.append(e), list.index on a module's tuple .. are MtR facts of 06m -/
end
end L2

namespace L2
open PySem PySem.Spec PyProof.Rows

def MtM (X : Cx) (id : String) (r : V → List V → Hp → VK → Prop) : Prop :=
  ∀ (pins : List (Addr × Obj)) (s : Shared) (σ : St) (H : Hp) (x : V) (xs : List V) (v : Value) (us : List Value) (Q : VK), Inv X pins σ H s → RelV x v → Vals xs us → r x xs H Q →
    wpAny (model X.prog X.w) X.A (call (.builtin id) (v :: us)) (EP X pins σ Q) X.xe s

/-! ### lists of values -/
theorem Vals.one : ∀ {x : V} {us : List Value}, Vals [x] us → ∃ u, us = [u] ∧ RelV x u
  | _, _, .cons r .nil => ⟨_, rfl, r⟩
theorem Vals.zero : ∀ {us : List Value}, Vals [] us → us = []
  | _, .nil => rfl
theorem Vals.dropLast {xs : List V} {us : List Value} (h : Vals xs us) : Vals xs.dropLast us.dropLast := by
  induction h with
  | nil => exact .nil
  | cons r t ih =>
    cases t with
    | nil => exact .nil
    | cons q t' => exact .cons r ih
theorem Vals.eraseIdx : ∀ {xs : List V} {us : List Value} (i : Nat), Vals xs us → Vals (xs.eraseIdx i) (us.eraseIdx i)
  | _, _, _, .nil => .nil
  | _, _, 0, .cons _ t => t
  | _, _, i + 1, .cons r t => .cons r (Vals.eraseIdx i t)
theorem Vals.reverse {xs : List V} {us : List Value} (h : Vals xs us) : Vals xs.reverse us.reverse := by
  induction h with
  | nil => exact .nil
  | cons r t ih => rw [List.reverse_cons, List.reverse_cons]; exact Vals.append ih (.cons r .nil)
theorem len_erase {α : Type} : ∀ (l : List α) (i : Nat), (l.eraseIdx i).length ≤ l.length
  | [], _ => Nat.le_refl _
  | _ :: _, 0 => Nat.le_succ _
  | _ :: r, i + 1 => Nat.succ_le_succ (len_erase r i)
section
variable {X : Cx} {pins : List (Addr × Obj)} {σ : St} {H : Hp} {s : Shared} {l b : Addr} {xs ys zs : List V}

/-! ### the two steps: a tracked list is rewritten, a new list is laid -/
theorem Inv.lset {its its' : List Value} {n : Nat} {f : Array Value → Array Value} {t' : Nat} (I : Inv X pins σ H s) (hH : H l = some (.lst xs))
    (e : s.heap.get? l = some { cls := .type "list", data := .seq its.toArray n }) (hf : f its.toArray = its'.toArray) (hv : Vals ys its') (hz : ys.length ≤ sizeLine) :
    Inv X pins σ (upd H l (.lst ys)) { s with heap := s.heap.update l (Obj.mapSeq f), toks := t' } := by
  have q := PySem.IsL.update e f
  rw [hf] at q
  refine I.write (x := l) (e := l) (by rw [hH]; exact trivial) (.inl rfl) (fun b' u hb hu => (Heap.get?_update_other s.heap (Obj.mapSeq f) (Ne.symm hb)).trans hu) ⟨_, q⟩ ?_
  exact ⟨hz, its', _, hv, q⟩
theorem Inv.lnew {its : List Value} {t' : Nat} (I : Inv X pins σ H s) (hv : Vals ys its) (hz : ys.length ≤ sizeLine) :
    Inv X pins σ (upd H s.heap.objs.size (.lst ys)) { s with heap := s.heap.push { cls := .type "list", data := .seq its.toArray }, toks := t' } :=
  I.laid (fun _ _ q => Heap.get?_push_of_some _ q) (Nat.le_refl _) ⟨hz, its, 0, hv, Heap.get?_push_size _ rfl⟩
theorem Inv.fresh (I : Inv X pins σ H s) : H s.heap.objs.size = none := I.hok.fresh (Nat.le_refl _)
theorem Inv.lstM (I : Inv X pins σ H s) (hH : H l = some (.lst xs)) : xs.length ≤ sizeLine ∧ ∃ (its : List Value) (n : Nat), Vals xs its ∧ xs.length = its.length ∧ s.heap.get? l = some { cls := .type "list", data := .seq its.toArray n } := by
  obtain ⟨z, its, n, r, e⟩ := I.hok l _ hH
  exact ⟨z, its, n, r, r.length, e⟩

theorem notLongL {n : Nat} (h : n ≤ sizeLine) : Builtin.List.listTooLong n = false := by
  unfold Builtin.List.listTooLong
  exact decide_eq_false (by omega)
end

section
variable {X : Cx}

/-! ### methods -/
def rAppend : V → List V → Hp → VK → Prop := fun x vs H Q => ∃ l xs y, x = .ref l ∧ vs = [y] ∧ H l = some (.lst xs) ∧ xs.length < sizeLine ∧ Q .non (upd H l (.lst (xs ++ [y])))
theorem mt_append : MtM X "list.append" rAppend := by
  intro pins s σ H x vs v us Q I rx rv h
  obtain ⟨l, xs, y, rfl, rfl, hH, hz, q⟩ := h
  cases rx
  obtain ⟨u, rfl, ru⟩ := rv.one
  obtain ⟨z, its, n, r, hl, e⟩ := I.lstM hH
  refine call_meets F.slot_list_append ⟨_, e, rfl⟩ F.entry_list_append (F.args_list_append_2 _ _) (PySem.list_append l its.toArray n u (by rw [List.size_toArray]; omega)) ⟨e, ?_⟩
  refine ⟨.non, _, I.lset (its' := its ++ [u]) hH e (by simp) (r.append (.cons ru .nil)) ?_, rfl, q⟩
  rw [List.length_append, List.length_singleton]
  omega

def rExtend : V → List V → Hp → VK → Prop := fun x vs H Q => ∃ l b xs zs, x = .ref l ∧ vs = [.ref b] ∧ H l = some (.lst xs) ∧ H b = some (.lst zs) ∧ xs.length + zs.length ≤ sizeLine ∧ Q .non (upd H l (.lst (xs ++ zs)))
theorem mt_extend : MtM X "list.extend" rExtend := by
  intro pins s σ H x vs v us Q I rx rv h
  obtain ⟨l, b, xs, zs, rfl, rfl, hH, hB, hz, q⟩ := h
  cases rx
  obtain ⟨u, rfl, ru⟩ := rv.one
  cases ru
  obtain ⟨z, its, n, r, hl, e⟩ := I.lstM hH
  obtain ⟨z2, its2, n2, r2, hl2, e2⟩ := I.lstM hB
  have hsz : its.toArray.size + its2.toArray.size ≤ sizeLine := by rw [List.size_toArray, List.size_toArray]; omega
  have hlong : ¬ (!its.toArray.isEmpty && Builtin.List.listTooLong (its.toArray.size + its2.toArray.size)) = true := by
    rw [notLongL hsz, Bool.and_false]
    exact Bool.false_ne_true
  refine call_meets F.slot_list_extend ⟨_, e, rfl⟩ F.entry_list_extend (F.args_list_extend_2 _ _)
    (AutoSeq1.list_extend_list_list_0 l its.toArray n b its2.toArray n2 hlong (by rw [List.size_toArray]; omega) (by omega)) ⟨e, e2, ?_⟩
  refine ⟨.non, _, I.lset (its' := its ++ its2) hH e (by simp) (r.append r2) ?_, rfl, q⟩
  rw [List.length_append]
  omega

def rPop : V → List V → Hp → VK → Prop := fun x vs H Q => ∃ l xs y, x = .ref l ∧ vs = [] ∧ H l = some (.lst xs) ∧ xs[xs.length - 1]? = some y ∧ Q y (upd H l (.lst xs.dropLast))
def rPopAt : V → List V → Hp → VK → Prop := fun x vs H Q => ∃ l xs i k y, x = .ref l ∧ vs = [.int i] ∧ H l = some (.lst xs) ∧ -(2 ^ 63) ≤ i ∧ i < 2 ^ 63 ∧ seqIndex? i xs.length = some k ∧ xs[k]? = some y ∧ Q y (upd H l (.lst (xs.eraseIdx k)))
theorem mt_popAt : MtM X "list.pop" rPopAt := by
  intro pins s σ H x vs v us Q I rx rv h
  obtain ⟨l, xs, i, k, y, rfl, rfl, hH, h1, h2, hk, hy, q⟩ := h
  cases rx
  obtain ⟨u, rfl, ru⟩ := rv.one
  obtain ⟨t, rfl⟩ := ru
  obtain ⟨z, its, n, r, hl, e⟩ := I.lstM hH
  obtain ⟨w, hw, rw'⟩ := r.get hy
  refine call_meets F.slot_list_pop ⟨_, e, rfl⟩ F.entry_list_pop (F.args_list_pop_2 _ _)
    (MeetsSeq.list_pop_at l its.toArray n i t k w (fitsIndex_both h1 h2) (by rw [List.size_toArray, ← hl]; exact hk) (by rw [← Array.getElem?_toList]; exact hw) (by rw [List.size_toArray]; omega)) ⟨e, ?_⟩
  refine ⟨y, _, I.lset (its' := its.eraseIdx k) hH e ?_ (r.eraseIdx k) ?_, rw', q⟩
  · show its.toArray.eraseIdxIfInBounds k = (its.eraseIdx k).toArray
    rw [List.eraseIdxIfInBounds_toArray]
  · have := len_erase xs k
    omega

def rReverse : V → List V → Hp → VK → Prop := fun x vs H Q => ∃ l xs, x = .ref l ∧ vs = [] ∧ H l = some (.lst xs) ∧ Q .non (upd H l (.lst xs.reverse))
def rClear : V → List V → Hp → VK → Prop := fun x vs H Q => ∃ l xs, x = .ref l ∧ vs = [] ∧ H l = some (.lst xs) ∧ Q .non (upd H l (.lst []))
/-! ### list + list, list += list, list * int -/
def rCat : R2 := fun x y H Q => ∃ l b xs zs, x = .ref l ∧ y = .ref b ∧ H l = some (.lst xs) ∧ H b = some (.lst zs) ∧ xs.length + zs.length ≤ sizeLine ∧ ∀ p, H p = none → Q (.ref p) (upd H p (.lst (xs ++ zs)))
theorem op_cat : OpR X (binaryOp .Add) rCat := by
  intro pins s σ H x y v u Q I rx ry h
  obtain ⟨l, b, xs, zs, rfl, rfl, hH, hB, hz, q⟩ := h
  cases rx
  cases ry
  obtain ⟨z, its, n, r, hl, e⟩ := I.lstM hH
  obtain ⟨z2, its2, n2, r2, hl2, e2⟩ := I.lstM hB
  refine PySem.P.add_list e e2 ?_ (by rw [List.size_toArray, List.size_toArray]; omega)
  have ea : its.toArray ++ its2.toArray = (its ++ its2).toArray := by simp
  rw [ea]
  exact ⟨.ref _, _, I.lnew (t' := s.toks) (r.append r2) (by rw [List.length_append]; omega), rfl, q _ I.fresh⟩
/-- a list times an int (a negative one is nothing) -/
def rRep : R2 := fun x y H Q => ∃ l k xs, x = .ref l ∧ y = .int k ∧ H l = some (.lst xs) ∧ -(2 ^ 63) ≤ k ∧ k < 2 ^ 63 ∧ xs.length * k.toNat ≤ sizeLine ∧
  ∀ p, H p = none → Q (.ref p) (upd H p (.lst (List.replicate k.toNat xs).flatten))
/-! ### del xs[i] -/
end

/-! ### xs[a:b] = ys -/
section
variable {prog : Program} {w : World} {A : Around} {E : Value → Shared → Prop} {s : Shared}
end

section
variable {X : Cx}
end
end L2

namespace Att
open PySem PySem.W PySem.Calls PyProof.Rows

/-! ### the script -/
theorem ints_of_wellAll {P : Params} {h : Heap} : ∀ (ns : List Int) (vs : List Value), WellAll P h vs (ns.map WData.int) → IntsAre vs ns := by
  intro ns
  induction ns with
  | nil =>
    intro vs w
    rw [List.map_nil] at w
    cases w
    exact .nil
  | cons n ns ih =>
    intro vs w
    rw [List.map_cons] at w
    cases w with
    | cons a b =>
      cases a
      exact .cons _ _ (ih _ b)

theorem script_of {l : OpenLaw} {n : Nat} (hn : l.most = some n) {P : Params} {h : Heap} {args : List WData} {vals : List Value}
    (hpre : l.row.toRowW.claim.pre args = true) (hwl : WellAll P h vals args) :
    ∃ a vs ns, vals = [Value.ref a] ∧ args = [WData.list (ns.map WData.int)] ∧ h.get? a = some { cls := .type "list", data := .seq vs.toArray } ∧ IntsAre vs ns ∧ ns.length ≤ n := by
  have hsh : WShape.hasAll [] args [.list .int] = true := (pre_splitW hpre).1
  have hc : l.pre.holds [] { args := args } = true := (pre_splitW hpre).2
  obtain ⟨d, r, rfl, h1, h2⟩ := hasAllW_cons hsh
  obtain rfl := hasAllW_nil h2
  obtain ⟨xs, rfl, h3⟩ := hasW_list h1
  obtain ⟨ns, rfl⟩ := items_int h3
  have hlen : ns.length ≤ n := by
    unfold OpenLaw.pre at hc
    have h4 : (WTm.not (.lt (.lit (.int (n : Int))) (.len (.arg 0)))).holds [] { args := [.list (ns.map .int)] } = true := by
      have h4 := (holds_andW hc).1
      rw [hn] at h4
      exact h4
    have h5 := condW_of h4 (w_not (w_lt w_lit (w_len_list (w_arg rfl))))
    rw [List.length_map] at h5
    refine Nat.le_of_not_lt fun q => ?_
    have q' : (n : Int) < ((ns.length : Nat) : Int) := by omega
    first
      | (rw [decide_eq_true q'] at h5; exact absurd h5 (by decide))
      | (simp at h5; omega)
  cases hwl with
  | cons w1 w2 =>
    cases w2
    cases w1 with
    | list ho hall => exact ⟨_, _, ns, rfl, rfl, ho, ints_of_wellAll ns _ hall, hlen⟩

theorem post_true (l : OpenLaw) (args : List WData) : l.row.toRowW.claim.post args (.bool true) args = true :=
  postW_of (r := l.row.toRowW) (X := (true == true))
    (show WShape.has [] (.bool true) .bool = true by first | rfl | decide | simp [WShape.has, WShape.arms, WShape.armsAll])
    (show (WTm.eq .res (.lit (.bool true))).value [] { args := args, res := some (.bool true), after := args } = some (.bool (true == true)) from w_eq_bool (w_res rfl) w_lit) rfl

/-! ### the attachment: holds_open's last premise (the goal 'hc' behind k_head) from a wpAny of the law's body -/
/-- the same from a codeAny of the CALL (for a layer whose function contracts speak of calls) -/
theorem attach_call {l : OpenLaw} {n : Nat} {q : Program} {loose : List Str} {XP : (Str → Option Value) → Heap → Prop} {YP : World → Heap → Prop} {d : DefRec}
    (hn : l.most = some n) (hdf : d.params.defaults = [])
    (call : ∀ (w : World) (s₀ s₁ : Shared) (mg mb : Str → Option Value) (fa : Addr) (o : Obj) (pm cd doc : Value) (a : Addr) (vs : List Value) (ns : List Int),
      Ground q loose [] XP w s₀ mg mb s₁.heap → YP w s₁.heap →
      s₁.heap.get? fa = some o → o.data = .func (docDef d.name d.params d.body d.scope pm cd doc) → s₁.heap.CodeRec cd d.name → mg d.name = some (.ref fa) →
      s₁.heap.get? a = some { cls := .type "list", data := .seq vs.toArray } → IntsAre vs ns → ns.length ≤ n → s₁.gens = #[] →
      codeAny (model l.prog w) callerA (.call (.ref fa) ⟨[.ref a], []⟩) (fun r s' => r = .ok (.ret (.bool true)) ∧ OldK s₁.heap s'.heap ∧ s'.os = s₁.os ∧ AllBare s'.gens) s₁) :
    WalkO q loose XP YP l.row.toRowW d [] (fun f vs => PySem.call f vs) := by
  intro w s₀ s₁ mg mb G Y fa o pm cd doc dV kV ho hd hcd hD hmg hg args vals as hpre hlay hrd hwl hlo
  obtain rfl : dV = .none := Dflts.none hD hdf
  obtain rfl : kV = .none := Dflts.noKw hD
  obtain ⟨a, vs, ns, rfl, rfl, hobj, hints, hlen⟩ := script_of hn hpre hwl
  refine enter_call (codeAny_mono (call w s₀ s₁ mg mb fa o pm cd doc a vs ns G Y ho (fd_plain hd) hcd hmg hobj hints hlen hg) fun r s' hq => ?_)
  obtain ⟨rfl, h2, h3, h4⟩ := hq
  exact ⟨.inl ⟨.bool true, .bool true, [], rfl, fun _ => rfl, .bool true, post_true l _, fun _ => ⟨List.Pairwise.nil, fun _ hm => (nomatch hm)⟩⟩, h2, h3, h4⟩

/-! ### rules over ANY heap (no ledger) from facts about the written part K: the library's own take a ledger (News) for what they write -/
section
variable {prog : Program} {w : World} {A : Around} {E : Value → Shared → Prop} {s : Shared} {K : Frag}

/-! the whole heap as the ledger: makes every rule that writes through a ledger a rule over any heap -/
def noObjs (h : Heap) : Heap := { h with objs := #[] }
def ledger (h : Heap) (L d : Addr) : List (Addr × Obj) := (List.range h.objs.size).filterMap fun a => if a = L ∨ a = d then none else (h.get? a).map fun o => (a, o)
end
end Att

namespace L2
open PySem PySem.Spec PyProof.Rows

theorem vals_ints : ∀ {vs : List Value} {ns : List Int}, IntsAre vs ns → Vals (ns.map V.int) vs
  | _, _, .nil => .nil
  | _, _, .cons n t h => .cons ⟨t, rfl⟩ (vals_ints h)

/-- nothing is tracked but the script, known to the object (or it is an object of the module) -/
def Only (H : Hp) : Prop := ∀ b, H b = none ∨ ∃ o xs, H b = some (.frz o (.lst xs))

/-- THE HEAD: the law's promise, at the heap behind the top. F, the promise of the law's def, may use that base is part of the heap (so K.In base, base.Ns mainGlobals mg stand in Mod) -/
theorem law_call {P : Program} {w : World} {K : PySem.W.Frag} {mg mb : Str → Option Value} {CX : CXT} {k : Nat} {fa a : Addr} {fd : FuncData} {x : Str} {sp : Sp} {s₁ : Shared} {vs : List Value} {ns : List Int}
    (KX : K.In s₁.heap) (hns : s₁.heap.Ns mainGlobals mg) (hb : s₁.heap.Ns builtinsNs mb) (hbb : ∀ x : Str, x ≠ "__name__" → mb x = bootBuiltins x) (hlim : s₁.heap.NoLimit) (hg : s₁.gens = #[])
    (ha : s₁.heap.get? a = some { cls := .type "list", data := .seq vs.toArray }) (hi : IntsAre vs ns) (hl : ns.length ≤ sizeLine) (hr : Room k callerA)
    (F : ∀ base : Heap, K.In base → base.Ns mainGlobals mg → FnOk P w K mg base CX k fa fd [x] sp) (hbind : ∀ (s : Shared) (u : Value), BindsTo s fd ⟨[u], []⟩ [(x, u)])
    (hsp : ∀ H : Hp, Only H → SqL K H a (ns.map V.int) → sp [.ref a] H (fun v _ => v = .bl true) fun _ _ _ => False)
    (hCX : ∀ H e s', CX [] H s₁ (fun _ _ _ => False) e s' → False) :
    codeAny (model P w) callerA (.call (.ref fa) ⟨[.ref a], []⟩) (fun r s' => r = .ok (.ret (.bool true)) ∧ OldK s₁.heap s'.heap ∧ s'.os = s₁.os ∧ AllBare s'.gens) s₁ := by
  have rv := vals_ints hi
  have lenV := hi.length
  -- from an abstract heap in which nothing but the script may be tracked
  have core : ∀ H : Hp, Only H → SqL K H a (ns.map V.int) → HOk P w H s₁.heap → (∀ b, H b ≠ none → b = a) → (H a ≠ none → K.lookup a = none) →
      codeAny (model P w) callerA (.call (.ref fa) ⟨[.ref a], []⟩) (fun r s' => r = .ok (.ret (.bool true)) ∧ OldK s₁.heap s'.heap ∧ s'.os = s₁.os ∧ AllBare s'.gens) s₁ := by
    intro H hO hS hok hA hK
    have base_of : ∀ {b : Addr} {o : Obj}, s₁.heap.get? b = some o → H b = none → (hidT s₁.heap H).get? b = some o := fun e n => hidT_get e n
    have noA : ∀ {b : Addr} {o : Obj} {es : Array DictEntry} {ep : Nat}, s₁.heap.get? b = some o → o.data = .dict es ep → H b = none := fun {b o es ep} e d => by
      cases q : H b with
      | none => rfl
      | some u =>
        have e' : b = a := hA b (by rw [q]; simp)
        subst e'
        rw [ha] at e; cases e
        have d' : Data.seq vs.toArray _ = Data.dict es ep := d
        cases d'
    have nsK : ∀ {b : Addr} {m : Str → Option Value}, s₁.heap.Ns b m → (hidT s₁.heap H).Ns b m := fun {b m} ⟨o, es, ep, e, d, r⟩ => ⟨o, es, ep, base_of e (noA e d), d, r⟩
    have hKb : K.In (hidT s₁.heap H) := fun b o e => base_of (KX b o e) (by
      cases q : H b with
      | none => rfl
      | some u =>
        have e' : b = a := hA b (by rw [q]; simp)
        subst e'
        rw [hK (by rw [q]; simp)] at e; cases e)
    have hM : Mod K mg (hidT s₁.heap H) := ⟨hKb, nsK hns, ⟨mb, nsK hb, hbb⟩, let ⟨mc, h1, h2⟩ := hlim; ⟨mc, nsK h1, h2⟩⟩
    have e0 : Env0 P w K mg (hidT s₁.heap H) callerA [] s₁ H := ⟨rfl, hM, fun b o e => of_hidT e, Nat.le_of_eq (hidT_size _ _), trivial, fun b hb => absurd (show b ∈ ([] : List Addr) from hb) (by simp), hok, .of_eq hg⟩
    refine codeAny_mono ((F _ hKb (nsK hns)).run callerA [] s₁ H ⟨[.ref a], []⟩ [.ref a] [.ref a] _ _ hr e0 (hbind s₁ (.ref a)) (.cons rfl .nil) (hsp H hO hS)) fun r s' h => ?_
    cases r with
    | error e => exact (hCX H e s' h).elim
    | ok fl =>
      cases fl with
      | next => exact False.elim h
      | brk => exact False.elim h
      | cont => exact False.elim h
      | ret u =>
        obtain ⟨v, H', os, bare, un, hok', r', q⟩ := h
        have q' : v = .bl true := q
        subst q'
        obtain rfl : u = Value.bool true := r'
        refine ⟨rfl, OldK.of_keep fun b o e => ?_, os, bare⟩
        cases q : H b with
        | none => exact un.keep b o e q (by intro z; exact absurd (show b ∈ ([] : List Addr) from z) (by simp)) (by simp)
        | some u =>
          rcases hO b with z | ⟨ob, xs, z⟩
          · rw [q] at z; cases z
          · have z2 := un.frzs b ob _ z
            obtain ⟨e1, _⟩ := hok b _ z
            obtain ⟨e2, _⟩ := hok' b _ z2
            rw [e] at e1; cases e1
            exact e2
  cases hk : K.lookup a with
  | some o =>
    -- the script is one of the module's own objects
    have e := KX a o hk
    rw [ha] at e
    cases e
    refine core (fun _ => none) (fun _ => .inl rfl) (.inr ⟨_, vs.toArray, _, hk, rfl, rfl, rfl, by rw [List.size_toArray, lenV]; exact hl, by simpa using rv⟩) (fun b u z => by have z' : (none : Option HO) = some u := z; cases z') (fun b z => absurd rfl z) fun z => absurd rfl z
  | none =>
    refine core (fun b => if b = a then some (.frz { cls := .type "list", data := .seq vs.toArray } (.lst (ns.map V.int))) else none) (fun b => ?_) (.inl (.inr ⟨{ cls := .type "list", data := .seq vs.toArray }, if_pos rfl⟩)) (fun b u z => ?_) (fun b z => ?_) fun _ => hk
    · by_cases hb : b = a
      · exact .inr ⟨_, _, if_pos hb⟩
      · exact .inl (if_neg hb)
    · by_cases hb : b = a
      · have z' := (if_pos hb).symm.trans z
        cases z'
        subst hb
        exact ⟨ha, by rw [List.length_map]; exact hl, vs, _, rv, ha⟩
      · have z' := (if_neg hb).symm.trans z
        cases z'
    · by_cases hb : b = a
      · exact hb
      · exact absurd (if_neg hb) z
end L2

namespace L2
open PySem PySem.Spec PyProof.Rows

abbrev KOf {K : PySem.W.Frag} {h : Heap} (_ : K.In h) : PySem.W.Frag := K

/-- the goal that k_head leaves (case hc), from the law's promise. F gives the function object fd (K's own) once, then the promise over every base -/
theorem walk_of {l : PySem.W.OpenLaw} {n k : Nat} {q : Program} {loose : List Str} {XP : (Str → Option Value) → Heap → Prop} {YP : World → Heap → Prop} {d : DefRec} {K : Params → PySem.W.Frag} {CX : World → CXT} {sp : World → Sp} {x : Str}
    (hn : l.most = some n) (hn2 : n ≤ sizeLine) (hdf : d.params.defaults = []) (hr : Room k callerA)
    (hY : ∀ (w : World) (h : Heap), YP w h → (K w.params).In h)
    (F : ∀ (w : World) (mg : Str → Option Value) (fa : Addr) (h : Heap), (K w.params).In h → h.Ns mainGlobals mg → mg d.name = some (.ref fa) →
      ∃ fd : FuncData, (∀ (s : Shared) (u : Value), BindsTo s fd ⟨[u], []⟩ [(x, u)]) ∧
        ∀ base : Heap, (K w.params).In base → base.Ns mainGlobals mg → FnOk l.prog w (K w.params) mg base (CX w) k fa fd [x] (sp w))
    (hsp : ∀ (w : World) (H : Hp) (a : Addr) (ns : List Int), ns.length ≤ n → Only H → SqL (K w.params) H a (ns.map V.int) → sp w [.ref a] H (fun v _ => v = .bl true) fun _ _ _ => False)
    (hCX : ∀ (w : World) (H : Hp) (s : Shared) (e : Value) (s' : Shared), CX w [] H s (fun _ _ _ => False) e s' → False) :
    PySem.W.WalkO q loose XP YP l.row.toRowW d [] (fun f vs => PySem.call f vs) := by
  refine Att.attach_call hn hdf fun w s₀ s₁ mg mb fa o pm cd doc a vs ns G Y ho hd hcd hmg hobj hints hlen hg => ?_
  have KX := hY w _ Y
  obtain ⟨fd, hb, hF⟩ := F w mg fa _ KX G.T.g hmg
  exact law_call KX G.T.g G.T.b G.T.builtins G.T.nolimit hg hobj hints (Nat.le_trans hlen hn2) hr hF hb (fun H hO hS => hsp w H a ns hlen hO hS) fun H e s' => hCX w H s₁ e s'
end L2



/-! SHORT WORDS over the layer: a def of the text, its body, what a loop and a test want. -/
namespace L2
open PySem PySem.Spec PyProof.Rows

/-! ### the text by places -/
/-- the j-th statement of a class's body -/
def inClass (s : Stmt) (j : Nat) : Stmt := match s with
  | .ClassDef _ _ _ body _ _ _ _ _ _ _ => body.getD j (.Pass ⟨0, 0, 0, 0⟩)
  | _ => .Pass ⟨0, 0, 0, 0⟩
def defArgs (s : Stmt) : Arguments := match s with
  | .FunctionDef _ a _ _ _ _ _ _ _ _ => a
  | _ => { posonlyargs := [], args := [], vararg := none, kwonlyargs := [], kw_defaults := [], kwarg := none, defaults := [] }
def defBody (s : Stmt) : List Stmt := match s with
  | .FunctionDef _ _ b _ _ _ _ _ _ _ => b
  | _ => []
def defScope (s : Stmt) : Scope := match s with
  | .FunctionDef _ _ _ _ _ _ sc _ _ _ => sc
  | _ => { kind := .function, names := [], isGenerator := false, isCoroutine := false }

/-! ### no exception leaves a def -/
abbrev CX0 : CXT := fun _ _ _ _ _ _ => False
abbrev E0 : XK := fun _ _ _ => False
theorem pass0 {X : Cx} : Passes CX0 X E0 := fun _ _ _ _ _ _ _ h => h.elim

/-! ### a def (or method) of the text as it stands behind the top -/
structure Fun (K : PySem.W.Frag) (x qual : Str) (st : Stmt) (f : Addr) (fd : FuncData) : Prop where
  ex : ∃ (oc : Value) (od : Option Addr) (kV doc pm : Value) (an : Option Addr) (cdv ct : Value) (osl : Array (Option Value)),
    fd = PySem.W.fnOf x qual (defArgs st) (defBody st) (defScope st) .none kV doc pm an cdv ct ∧ K.lookup f = some ⟨oc, od, .func fd, osl⟩ ∧ PySem.W.codeIn K cdv qual = true
  kp : PySem.W.keepIn K (.ref f) = true
section
variable {P : Program} {w : World} {K : PySem.W.Frag} {mg : Str → Option Value} {base : Heap}
/-- THE RULE for a def: its body as a term of rules, and the reading of that term -/
theorem Fun.ok {x qual : Str} {st : Stmt} {f : Addr} {fd : FuncData} {N ps : List Str} {k : Nat} {sp : Sp} (F : Fun K x qual st f fd) (S : FnScope N ps (defScope st)) (len : ∀ vs H Q E, sp vs H Q E → vs.length = ps.length)
    (hbody : ∀ (cdv : Value) (A : Around) (outer : List Env) (s : Shared) (H : Hp) (vs : List V) (Q : VK) (E : XK), Room k (A.deeper (envOfC qual (defScope st) s.heap.objs.size f cdv)) → sp vs H Q E →
      ∃ t, PSs (cxOf CX0 P w K mg base N qual (defScope st) f cdv A outer s H E).nox (defBody st) t ∧ t { nx := fun _ H' => Q .non H', rt := Q } (start N vs) H) : FnOk P w K mg base CX0 (k + 1) f fd ps sp := by
  obtain ⟨oc, od, kV, doc, pm, an, cdv, ct, osl, rfl, lk, hcd⟩ := F.ex
  refine fn_of lk hcd S len fun A outer s H vs Q E hr hsp => ?_
  obtain ⟨t, h, q⟩ := hbody cdv A outer s H vs Q E hr hsp
  exact ⟨t, h.nox, q⟩
/-- how its arguments bind (no defaults): h is «fun _ _ _ _ _ _ us hl => match us, hl with | [_, _], _ => rfl», one _ a parameter -/
theorem Fun.binds {x qual : Str} {st : Stmt} {f : Addr} {fd : FuncData} {ps : List Str} (F : Fun K x qual st f fd)
    (h : ∀ (kV doc pm : Value) (an : Option Addr) (cdv ct : Value) (us : List Value), us.length = ps.length → bindArgs (PySem.W.fnOf x qual (defArgs st) (defBody st) (defScope st) .none kV doc pm an cdv ct) ⟨us, []⟩ = pure (ps.zip us)) : Binds K fd ps [] := by
  obtain ⟨oc, od, kV, doc, pm, an, cdv, ct, osl, rfl, lk, hcd⟩ := F.ex
  exact .all (h kV doc pm an cdv ct)
theorem fun_mk {x qual : Str} {st : Stmt} {f : Addr} {oc : Value} {od an : Option Addr} {osl : Array (Option Value)} {kV doc pm cdv ct : Value} (l : K.lookup f = some ⟨oc, od, .func (PySem.W.fnOf x qual (defArgs st) (defBody st) (defScope st) .none kV doc pm an cdv ct), osl⟩)
    (c : PySem.W.codeIn K cdv qual = true) (k : PySem.W.keepIn K (.ref f) = true) : Fun K x qual st f (PySem.W.fnOf x qual (defArgs st) (defBody st) (defScope st) .none kV doc pm an cdv ct) := ⟨⟨oc, od, kV, doc, pm, an, cdv, ct, osl, rfl, l, c⟩, k⟩
end
theorem small1000 {n : Nat} (h : n ≤ 1000) : n < sizeLine := Nat.lt_of_le_of_lt h (by decide)

/-! ### expressions in short: the name that stands in the i-th slot -/
section
variable {X : Cx}
theorem pv (i : Nat) {x : Str} {pos : Pos} (hN : X.N[i]? = some x := by rfl) (hv : Vis X.env.scope x := by first | exact Or.inl rfl | exact Or.inr (Or.inl rfl) | exact Or.inr (Or.inr rfl)) (hd : (x == ("__debug__" : Str)) = false := by decide)
    (hcd : (x == ("__classdict__" : Str)) = false := by decide) : PE X (.Name x pos) (tVar i) := pe_var hN hv hd hcd
end

/-! ### tests -/
theorem iteF {A B : Prop} (h : B) : if false = true then A else B := by
  rw [if_neg Bool.false_ne_true]
  exact h
theorem iteT {A B : Prop} (h : A) : if true = true then A else B := by
  rw [if_pos rfl]
  exact h
theorem ite2 {c A B : Prop} [Decidable c] (h1 : c → A) (h2 : ¬ c → B) : if c then A else B := by
  by_cases h : c
  · rw [if_pos h]
    exact h1 h
  · rw [if_neg h]
    exact h2 h
/-! ### heaps -/
/-- all that was tracked is as it was -/
def Same (H H' : Hp) : Prop := ∀ b o, H b = some o → H' b = some o
theorem Same.refl (H : Hp) : Same H H := fun _ _ h => h
theorem Same.trans {H H1 H2 : Hp} (a : Same H H1) (b : Same H1 H2) : Same H H2 := fun c o h => b c o (a c o h)
theorem Same.free {H H' : Hp} (e : Same H H') {l : Addr} (h : H' l = Option.none) : H l = Option.none := by
  cases q : H l with
  | none => rfl
  | some o =>
    rw [e l o q] at h
    cases h
theorem Same.seq {K : PySem.W.Frag} {H H' : Hp} {a : Addr} {xs : List V} (e : Same H H') (h : SqL K H a xs) : SqL K H' a xs := by
  rcases h with (h | ⟨o, h⟩) | h
  · exact .inl (.inl (e _ _ h))
  · exact .inl (.inr ⟨o, e _ _ h⟩)
  · exact .inr h

end L2

namespace L2
open PySem PySem.Spec PyProof.Rows

/-! ### a list comprehension of one clause: its block is a context of its own -/
theorem compLoop_any {prog : Program} {w : World} {A : Around} {R : Result → Shared → Prop} {s : Shared} {elt target iter : Expr} {ifs : List Expr} {scope : Scope} {pos : Pos} {it acc : Value} {env : Env} (I : Nat → Shared → Prop)
    (turn : ∀ n s, I n s → wpAny (model prog w) A (pyNext it) (fun r s1 => match r with
      | none => R (.ok .next) s1
      | some v => wpAny (model prog w) A (letOwnedTupleGo target it v) (fun _ s1' => wpAny (model prog w) A (assign target env v) (fun _ s2 =>
          wpAny (model prog w) A (forIn ifs true fun c r => if r = true then do let ok ← isTrue c env (eval c env); pure (ForInStep.yield ok) else pure (ForInStep.yield r)) (fun ok s3 =>
            if ok = true then wpAny (model prog w) A (eval elt env) (fun x s4 =>
              wpAny (model prog w) A (call (.builtin "list.append") [acc, x]) (fun _ s5 => ∃ m, m < n ∧ I m s5) (fun _ _ => False) s4) (fun _ _ => False) s3
            else ∃ m, m < n ∧ I m s3) (fun _ _ => False) s2) (fun _ _ => False) s1') (fun _ _ => False) s1) (fun _ _ => False) s)
    (n : Nat) (h : I n s) : codeAny (model prog w) A (.compLoop (.ListComp elt [⟨target, iter, ifs, 0⟩] scope pos) 0 it acc env) R s := by
  refine codeAny_loop rfl I (fun n s hI => ?_) n h
  show wpAny _ A ((compTurn (.ListComp elt [⟨target, iter, ifs, 0⟩] scope pos) 0 it acc env).onRaise (fun x => do noteFrame x env; theTreesLotGoes x)) _ _ s
  refine wpAny_noted (wpAny_mono (Q := _) (E := fun _ _ => False) ?_ (fun _ _ x => x) fun _ _ x => x.elim)
  rw [compTurn_list]
  refine wpAny_bind (wpAny_standAt (wpAny_bind (thn (turn n s hI) (fun r s1 h1 => ?_))))
  cases r with
  | none => exact wpAny_pure h1
  | some v =>
    refine wpAny_bind (thn h1 fun _ s1' h1' => wpAny_bind (thn h1' fun _ s2 h2 => wpAny_bind (thn h2 fun ok s3 h3 => ?_)))
    cases ok with
    | false => exact wpAny_pure ⟨rfl, h3⟩
    | true => exact wpAny_bind (wpAny_bind (thn h3 fun x s4 h4 => wpAny_bind (thn h4 fun _ s5 h5 => wpAny_pure (wpAny_pure ⟨rfl, h5⟩))))

theorem forIn_free {env : Env} : ∀ (names : List (Str × NameKind)) (cs : List (Str × Addr)), (∀ n, (n, NameKind.free) ∈ names → ∃ c, env.cells.lookup n = some c) →
    ∃ cl : List (Str × Addr), (forIn names cs (fun (x : Str × NameKind) (cs : List (Str × Addr)) => (do
      if (x.2 == NameKind.free) = true then do let a ← cellOf env x.1; pure (ForInStep.yield ((x.1, a) :: cs))
      else pure (ForInStep.yield cs) : Sem (ForInStep (List (Str × Addr)))))) = (pure cl : Sem (List (Str × Addr))) ∧
      (∀ p ∈ cl, p ∈ cs ∨ env.cells.lookup p.1 = some p.2) ∧ (∀ p ∈ cs, p ∈ cl) ∧ (∀ n, (n, NameKind.free) ∈ names → ∃ c, (n, c) ∈ cl)
  | [], cs, _ => ⟨cs, rfl, fun p hp => .inl hp, fun p hp => hp, fun n hn => nomatch hn⟩
  | (n, k) :: r, cs, h => by
    by_cases hk : k = .free
    · subst hk
      obtain ⟨c, hc⟩ := h n List.mem_cons_self
      obtain ⟨cl, e, h1, h2, h3⟩ := forIn_free (env := env) r ((n, c) :: cs) fun m hm => h m (List.mem_cons_of_mem _ hm)
      refine ⟨cl, ?_, fun p hp => ?_, fun p hp => h2 p (List.mem_cons_of_mem _ hp), fun m hm => ?_⟩
      · rw [List.forIn_cons]
        have z : cellOf env n = pure c := by unfold cellOf; rw [hc]
        simp only [beq_self_eq_true, if_true, z]
        exact e
      · rcases h1 p hp with q | q
        · rcases List.mem_cons.mp q with q | q
          · subst q; exact .inr hc
          · exact .inl q
        · exact .inr q
      · rcases List.mem_cons.mp hm with q | q
        · have q1 : m = n := by cases q; rfl
          subst q1
          exact ⟨c, h2 _ List.mem_cons_self⟩
        · exact h3 m q
    · obtain ⟨cl, e, h1, h2, h3⟩ := forIn_free (env := env) r cs fun m hm => h m (List.mem_cons_of_mem _ hm)
      refine ⟨cl, ?_, h1, h2, fun m hm => ?_⟩
      · rw [List.forIn_cons]
        have z : (k == NameKind.free) = false := by simpa using hk
        simp only [z, Bool.false_eq_true, if_false]
        exact e
      · rcases List.mem_cons.mp hm with q | q
        · cases q; exact absurd rfl hk
        · exact h3 m q

theorem mem_lookup {cl : List (Str × Addr)} {x : Str} {c : Addr} (h : (x, c) ∈ cl) : ∃ c', cl.lookup x = some c' := by
  induction cl with
  | nil => cases h
  | cons p r ih =>
    obtain ⟨y, d⟩ := p
    by_cases e : x = y
    · subst e; exact ⟨d, by simp⟩
    · have e' : (x == y) = false := by simpa using e
      rcases List.mem_cons.mp h with q | q
      · cases q; exact absurd rfl e
      · obtain ⟨c', q'⟩ := ih q
        exact ⟨c', by rw [List.lookup_cons, e']; exact q'⟩

theorem closure_ok {env : Env} {scope : Scope} (h : ∀ n, (n, NameKind.free) ∈ scope.names → ∃ c, env.cells.lookup n = some c) :
    ∃ cl, closureFor scope env = pure cl ∧ (∀ x c, cl.lookup x = some c → env.cells.lookup x = some c) ∧ (∀ n, (n, NameKind.free) ∈ scope.names → ∃ c, cl.lookup n = some c) := by
  obtain ⟨cl, e, h1, _, h3⟩ := forIn_free (env := env) scope.names [] h
  refine ⟨cl, ?_, fun x c q => ?_, fun n hn => ?_⟩
  · unfold closureFor
    refine Eq.trans ?_ e
    first
      | rfl
      | (simp only [bind_pure]; rfl)
      | simp only [bind_pure]
  · rcases h1 _ (PySem.mem_of_lookup q) with z | z
    · cases z
    · exact z
  · obtain ⟨c, q⟩ := h3 n hn
    exact mem_lookup q

theorem relabel_lookup {scope : Scope} {env : Env} {x : Str} {k' : NameKind} (h : (relabel scope env).names.lookup x = some k') : ∃ k, scope.names.lookup x = some k ∧ (k' = k ∨ (k = .free ∧ k' = .cell)) := by
  have go : ∀ names : List (Str × NameKind), (names.map fun (n, k) => if (k == NameKind.free && env.scope.kind == .function && env.kindOf n == some .cell) then (n, NameKind.cell) else (n, k)).lookup x = some k' →
      ∃ k, names.lookup x = some k ∧ (k' = k ∨ (k = .free ∧ k' = .cell)) := by
    intro names
    induction names with
    | nil => intro h; cases h
    | cons p r ih =>
      obtain ⟨n, k⟩ := p
      intro h
      rw [List.map_cons] at h
      by_cases hc : (k == NameKind.free && env.scope.kind == .function && env.kindOf n == some .cell) = true
      · simp only [hc, if_true] at h
        cases hx : x == n with
        | true =>
          rw [List.lookup_cons, hx] at h
          have hk : k = .free := by
            cases k <;> first | rfl | (simp at hc)
          exact ⟨k, by rw [List.lookup_cons, hx], .inr ⟨hk, by cases h; rfl⟩⟩
        | false =>
          rw [List.lookup_cons, hx] at h
          obtain ⟨k2, q1, q2⟩ := ih h
          exact ⟨k2, by rw [List.lookup_cons, hx]; exact q1, q2⟩
      · have hc' : (k == NameKind.free && env.scope.kind == .function && env.kindOf n == some .cell) = false := by simpa using hc
        simp only [hc', Bool.false_eq_true, if_false] at h
        cases hx : x == n with
        | true =>
          rw [List.lookup_cons, hx] at h
          exact ⟨k, by rw [List.lookup_cons, hx], .inl (by cases h; rfl)⟩
        | false =>
          rw [List.lookup_cons, hx] at h
          obtain ⟨k2, q1, q2⟩ := ih h
          exact ⟨k2, by rw [List.lookup_cons, hx]; exact q1, q2⟩
  exact go _ h

/-- the context of a comprehension's block: its own names first, then the names at the places js of the frame around -/
def Cx.comp (X : Cx) (scope : Scope) (own : List Str) (js : List Nat) (cl : List (Str × Addr)) (s : Shared) (H : Hp) (C : Addr) (fp : List Addr) : Cx :=
  { prog := X.prog, w := X.w, K := X.K, mg := X.mg, base := X.base, A := X.A, N := own ++ js.map (fun j => X.N.getD j ""), s₀ := s, H₀ := H, env := compEnvC scope cl C X.env, outer := X.stack, stack := X.stack, ex := fp,
    fn := fun _ => false, calm := X.calm, pn := [], xe := fun _ _ => False }
def pick (n : Nat) (js : List Nat) (σ : St) : St := List.replicate n none ++ js.map fun j => (σ[j]?).join
def Wk (σ σ' : St) : Prop := σ.length = σ'.length ∧ ∀ (i : Nat) v, σ[i]? = some (some v) → σ'[i]? = some (some v)
theorem Wk.refl (σ : St) : Wk σ σ := ⟨rfl, fun _ _ h => h⟩
theorem Wk.set {n : Nat} {js : List Nat} {σ σ' : St} {i : Nat} {v : Option V} (h : Wk (pick n js σ) σ') (hi : i < n) : Wk (pick n js σ) (σ'.set i v) := by
  refine ⟨by rw [List.length_set]; exact h.1, fun j u q => ?_⟩
  by_cases e : i = j
  · subst e
    unfold pick at q
    rw [List.getElem?_append_left (by simpa using hi), List.getElem?_replicate] at q
    split at q <;> cases q
  · rw [List.getElem?_set_ne e]; exact h.2 j u q

/-- what the scope table of the comprehension must say (all by decide) -/
structure CompScopeN (sc : Scope) (N : List Str) (scope : Scope) (js : List Nat) : Prop where
  kind : scope.kind = .function
  cell : ∀ x ∈ scope.names, x.2 ≠ .cell
  names : ∀ x ∈ scope.names, x.2 = .local → scope.names.lookup x.1 = some .local
  free : ∀ x ∈ scope.names, x.2 = .free → sc.names.lookup x.1 = some .cell ∨ sc.names.lookup x.1 = some .free
  js : ∀ j ∈ js, scope.names.lookup (N.getD j "") ≠ some .local
structure CompScope (X : Cx) (scope : Scope) (own : List Str) (js : List Nat) : Prop where
  kind : scope.kind = .function
  cell : ∀ x ∈ scope.names, x.2 ≠ .cell
  names : ∀ x ∈ scope.names, x.2 = .local → scope.names.lookup x.1 = some .local
  free : ∀ x ∈ scope.names, x.2 = .free → X.env.kindOf x.1 = some .cell ∨ X.env.kindOf x.1 = some .free
  js : ∀ j ∈ js, scope.names.lookup (X.N.getD j "") ≠ some .local

section
variable {X : Cx} {scope : Scope} {own : List Str} {js : List Nat}
theorem CompScopeN.cs {sc : Scope} {N : List Str} (S : CompScopeN sc N scope js) (h1 : X.env.scope = sc) (h2 : X.N = N) : CompScope X scope own js := by
  subst h1 h2
  exact ⟨S.kind, S.cell, S.names, S.free, S.js⟩

theorem comp_start {pins : List (Addr × Obj)} {σ : St} {H : Hp} {s : Shared} {cl : List (Str × Addr)} {fp : List Addr} {h1 : Heap} {C : Addr} {m : Str → Option Value} {o : Obj} {t1 : Nat} (S : CompScope X scope own js) (I : Inv X pins σ H s)
    (hf : ∀ b ∈ fp, FpOk X pins H b ∧ b < s.heap.objs.size)
    (hcl : ∀ x c, cl.lookup x = some c → X.env.cells.lookup x = some c) (hcl2 : ∀ n, (n, NameKind.free) ∈ scope.names → ∃ c, cl.lookup n = some c)
    (hC : @Eq Nat C (s.heap.objs.size + 1)) (hns : h1.Ns C m) (hk : ∀ b o, s.heap.get? b = some o → h1.get? b = some o) (hn : h1.get? s.heap.objs.size = some { cls := .type "list", dict := none, data := .seq ([] : List Value).toArray }) :
    Inv (X.comp scope own js cl s H C fp) [] (pick own.length js σ) (upd H s.heap.objs.size (.lst [])) { s with heap := h1, toks := t1 } := by
  have below : ∀ b, b < s.heap.objs.size → b ≠ C ∧ b ≠ s.heap.objs.size := fun b hb => ⟨Nat.ne_of_lt (Nat.lt_of_lt_of_eq (Nat.lt_succ_of_lt hb) hC.symm), Nat.ne_of_lt hb⟩
  have kinds : ∀ x, ((X.comp scope own js cl s H C fp).env.kindOf x = some .cell ∨ (X.comp scope own js cl s H C fp).env.kindOf x = some .free) → (x, NameKind.free) ∈ scope.names := fun x hx => by
    have hx : (relabel scope X.env).names.lookup x = some .cell ∨ (relabel scope X.env).names.lookup x = some .free := hx
    rcases hx with hx | hx
    · obtain ⟨k, q1, q2⟩ := relabel_lookup hx
      rcases q2 with q2 | ⟨q2, _⟩
      · exact absurd q2.symm (S.cell _ (PySem.mem_of_lookup q1))
      · exact q2 ▸ PySem.mem_of_lookup q1
    · obtain ⟨k, q1, q2⟩ := relabel_lookup hx
      rcases q2 with q2 | ⟨_, q2⟩
      · exact q2 ▸ PySem.mem_of_lookup q1
      · cases q2
  have hCle : s.heap.objs.size ≤ C := Nat.le_of_lt (Nat.lt_of_lt_of_eq (Nat.lt_succ_self _) hC.symm)
  have hCne : C ≠ s.heap.objs.size := Nat.ne_of_gt (Nat.lt_of_lt_of_eq (Nat.lt_succ_self _) hC.symm)
  have accn : H s.heap.objs.size = none := I.hok.fresh (Nat.le_refl _)
  refine ⟨⟨I.ok.mod, S.kind, I.ok.glob, I.ok.blt, ?_, fun x y c e1 e2 => I.ok.inj x y c (hcl x c e1) (hcl y c e2), fun x hx => hcl2 x (kinds x hx), fun x c e => ?_, I.ok.hd, I.ok.frames, .inl rfl, fun b hb => ?_, I.bs, Nat.le_trans I.ok.bsz I.sz, fun b o e hb => ?_, fun b hb => ?_, I.stack, I.stkFree⟩,
    rfl, I.bare, ?_, ⟨m, hns, fun i x v e1 e2 e3 => ?_⟩, fun x c e => ?_, ?_, fun x c e => ?_, fun p hp => absurd (show p ∈ ([] : List (Addr × Obj)) from hp) (by simp), ?_, ?_⟩
  · exact hCle
  · cases e
  · obtain ⟨⟨f0, f1, f2, f3, f4, f5⟩, lt⟩ := hf b hb
    exact ⟨(below b lt).1, fun x c e => f4 x c (hcl x c e)⟩
  · obtain ⟨⟨f0, f1, f2, f3, f4, f5⟩, lt⟩ := hf b hb
    rcases f3 with z | z
    · exact I.ok.noex b o e z
    · exact Nat.lt_irrefl _ (Nat.lt_of_lt_of_le (Heap.lt_size e) (Nat.le_trans I.ok.bsz z))
  · obtain ⟨⟨f0, f1, f2, f3, f4, f5⟩, lt⟩ := hf b hb
    exact fun z => (List.mem_cons.mp (I.stkSub b z)).elim f1 f2
  · exact Un.laid hk (Nat.le_refl _) accn
  · -- a visible name of the frame around
    have hi : ¬ i < own.length := fun hi => by
      unfold pick at e2
      rw [List.getElem?_append_left (by simpa using hi), List.getElem?_replicate] at e2
      split at e2 <;> cases e2
    unfold pick at e2
    rw [List.getElem?_append_right (by simpa using hi), List.length_replicate] at e2
    have e1 : (own ++ js.map (fun j => X.N.getD j ""))[i]? = some x := e1
    rw [List.getElem?_append_right (by omega)] at e1
    rw [List.getElem?_map] at e1 e2
    cases ej : js[i - own.length]? with
    | none => rw [ej] at e1; cases e1
    | some j =>
      rw [ej] at e1 e2
      have e1 : X.N.getD j "" = x := Option.some.inj e1
      have e2 : (σ[j]?).join = some v := Option.some.inj e2
      have e2' : σ[j]? = some (some v) := by
        cases q : σ[j]? with
        | none => rw [q] at e2; cases e2
        | some o => rw [q] at e2; have : o = some v := e2; rw [this]
      have hj : j < X.N.length := by
        have := (List.getElem?_eq_some_iff.mp e2').1
        rw [I.len] at this; exact this
      have e1' : X.N[j]? = some x := by
        rw [← e1, List.getD_eq_getElem?_getD, List.getElem?_eq_getElem hj]; rfl
      have e3 : Vis (relabel scope X.env) x := e3
      have hfr : (x, NameKind.free) ∈ scope.names := by
        rcases e3 with e3 | e3 | e3
        · obtain ⟨k, q1, q2⟩ := relabel_lookup e3
          rcases q2 with q2 | ⟨_, q2⟩
          · subst q2
            exact absurd (e1 ▸ q1) (S.js j (List.mem_of_getElem? ej))
          · cases q2
        · exact kinds x (.inl e3)
        · exact kinds x (.inr e3)
      have hkind := S.free _ hfr rfl
      obtain ⟨m0, hn0, hl0⟩ := I.loc
      have hv : Vis X.env.scope x := by
        rcases hkind with z | z
        · exact .inr (.inl z)
        · exact .inr (.inr z)
      obtain ⟨u, r, lk⟩ := hl0 j x v e1' e2' hv
      refine ⟨u, r, ?_⟩
      rcases lk with ⟨z, _⟩ | ⟨_, c, ec, hc⟩
      · rcases hkind with q | q <;> (rw [z] at q; cases q)
      · obtain ⟨c', ec'⟩ := hcl2 x hfr
        have : c' = c := by have := hcl x c' ec'; rw [ec] at this; cases this; rfl
        subst this
        refine .inr ⟨?_, c', ec', ?_⟩
        · rcases e3 with e3 | e3 | e3
          · obtain ⟨k, q1, q2⟩ := relabel_lookup e3
            rcases q2 with q2 | ⟨_, q2⟩
            · subst q2
              exact absurd (e1 ▸ q1) (S.js j (List.mem_of_getElem? ej))
            · cases q2
          · exact .inl e3
          · exact .inr e3
        · obtain ⟨oc, hoc, hd⟩ := hc
          exact ⟨oc, hk _ _ hoc, hd⟩
  · obtain ⟨v, oc, hoc, hd⟩ := I.cell x c (hcl x c e)
    exact ⟨v, oc, hk _ _ hoc, hd⟩
  · show upd H s.heap.objs.size (.lst []) C = none
    rw [upd_ne hCne]
    exact I.hok.fresh hCle
  · obtain ⟨v, oc, hoc, hd⟩ := I.cell x c (hcl x c e)
    rw [upd_ne (below c (Heap.lt_size hoc)).2]
    exact I.freeC x c (hcl x c e)
  · refine I.hok.laid hk (Nat.le_refl _) ⟨by show 0 ≤ sizeLine; exact Nat.zero_le _, [], 0, .nil, ?_⟩
    exact hn
  · unfold pick
    show _ = (own ++ js.map (fun j => X.N.getD j "")).length
    rw [List.length_append, List.length_append, List.length_replicate, List.length_map, List.length_map]
end
end L2

namespace L2
open PySem PySem.Spec PyProof.Rows

/-- the tests of a clause -/
def PIfs (X : Cx) (ifs : List Expr) (t : TT) : Prop :=
  ∀ (pins : List (Addr × Obj)) (s : Shared) (σ : St) (H : Hp) (Q : Bool → Hp → Prop), Inv X pins σ H s → t σ H Q →
    wpAny (model X.prog X.w) X.A (forIn ifs true fun c r => if r = true then do let ok ← isTrue c X.env (eval c X.env); pure (ForInStep.yield ok) else pure (ForInStep.yield r)) (TP X pins σ Q) X.xe s
def tYes : TT := fun _ H Q => Q true H
theorem pifs_nil {X : Cx} : PIfs X [] tYes := fun _ _ _ H _ I h => wpAny_tests_nil ⟨H, I, h⟩
theorem pifs_one {X : Cx} {c : Expr} {t : TT} (h : PT X c t) : PIfs X [c] t := fun pins s σ H Q I hw => wpAny_tests_one (h pins s σ H Q I hw)

/-- the reading of a comprehension; acc: the new list; W: by the turn and a measure -/
def tCompR (n : Nat) (js : List Nat) (g : TG) (c : TT) (te : TE) (J : It) (σ : St) (H1 : Hp) (Q : VK) : Prop :=
  ∀ acc, H1 acc = none → ∃ W : Nat → Nat → Hp → Prop, (∃ m, W 0 m (upd H1 acc (.lst []))) ∧ ∀ i m H, W i m H →
    (J.stop i H ∧ Q (.ref acc) H) ∨
    (J.go i H ∧ ∀ x H', J.yld i H x H' → g x (pick n js σ) H' fun σ2 H2 => Wk (pick n js σ) σ2 ∧ c σ2 H2 fun b H3 =>
      if b = true then te σ2 H3 fun y H4 => ∃ ys, H4 acc = some (.lst ys) ∧ ys.length < sizeLine ∧ ∃ m', m' < m ∧ W (i + 1) m' (upd H4 acc (.lst (ys ++ [y])))
      else ∃ m', m' < m ∧ W (i + 1) m' H3)
def tComp (n : Nat) (js : List Nat) (wi : TI) (g : TG) (c : TT) (te : TE) : TE := fun σ H Q => wi σ H fun J H1 => tCompR n js g c te J σ H1 Q

section
variable {X : Cx} {scope : Scope} {own : List Str} {js : List Nat} {tg iter elt : Expr} {ifs : List Expr} {pos : Pos} {wi : TI} {g : TG} {c : TT} {te : TE}

/-- behind the block: the frame around again -/
theorem comp_leave {pins : List (Addr × Obj)} {σ σ' : St} {H H' : Hp} {s s' : Shared} {cl : List (Str × Addr)} {fp : List Addr} {C : Addr} (I : Inv X pins σ H s) (hf : ∀ b ∈ fp, FpOk X pins H b)
    (J : Inv (X.comp scope own js cl s H C fp) [] σ' H' s') : Inv X pins σ H' s' :=
  I.call' (ch := fp) J.os J.base J.hok J.bare fun b hb => by
    obtain ⟨f0, f1, f2, f3, f4, f5⟩ := hf b hb
    exact ⟨f3, f1, f4, f5⟩
theorem comp_gone {pins : List (Addr × Obj)} {σ σ1 : St} {H H' : Hp} {s s' : Shared} {C : Addr} {h' : Heap} (I : Inv X pins σ H s) (hC : s.heap.objs.size ≤ C) (J : Inv X pins σ1 H' s') (hn : H' C = none) (hs : Heap.SameBut C s'.heap h') : Inv X pins σ1 H' { s' with heap := h' } := by
  obtain ⟨f0, f1, f2, f3, f4, f5⟩ := I.fpOk hC hn
  exact J.turned (t' := s'.toks) (fun b o hb e => (hs.2 b hb).trans e) f0 f1 f3 f4 f5

theorem comp_core {pins : List (Addr × Obj)} {σ : St} {H : Hp} {s : Shared} {cl : List (Str × Addr)} {fp : List Addr} {it : Addr} {tn : Nat → Heap → Prop} {J : It} {Q : VK} {E : Value → Shared → Prop} {RR : Value → Addr → Result → Shared → Prop}
    (hc : X.calm = true) (S : CompScope X scope own js) (I : Inv X pins σ H s) (T : Turn X.prog X.w X.K tg J fp it tn) (t0 : tn 0 s.heap) (hf : ∀ b ∈ fp, FpOk X pins H b)
    (hcl : ∀ x c, cl.lookup x = some c → X.env.cells.lookup x = some c) (hcl2 : ∀ n, (n, NameKind.free) ∈ scope.names → ∃ c, cl.lookup n = some c)
    (hg : ∀ cl s H C fp, PG (X.comp scope own js cl s H C fp) tg g) (hi : ∀ cl s H C fp, PIfs (X.comp scope own js cl s H C fp) ifs c) (he : ∀ cl s H C fp, PE (X.comp scope own js cl s H C fp) elt te)
    (q : tCompR own.length js g c te J σ H Q)
    (hRR : ∀ acc C H' s', s.heap.objs.size ≤ C → Inv (X.comp scope own js cl s H C fp) [] (pick own.length js σ) H' s' → Q (.ref acc) H' → RR (.ref acc) C (.ok .next) s') :
    wpAny (model X.prog X.w) X.A (newList []) (fun acc s3 => wpAny (model X.prog X.w) X.A (newFunctionEnv scope X.env.globals cl [] X.env.qual none .none (some X.env)) (fun cenv s4 =>
      codeAny (model X.prog X.w) X.A (.compStart (.ListComp elt [⟨tg, iter, ifs, 0⟩] scope pos) 0 (.ref it) acc { cenv with scope := relabel scope X.env }) (RR acc cenv.locals) s4) E s3) E s := by
  refine wpAny_newObj_type (wpAny_newFunctionEnv S.cell (by intro y hy; simp at hy) (fun h1 hns1 hsb1 => ?_) S.kind)
  dsimp only at hns1 hsb1 ⊢
  generalize hH2 : s.heap.push { cls := .type "list", dict := none, data := .seq ([] : List Value).toArray } = H2 at hns1 hsb1 ⊢
  have hC : @Eq Nat H2.objs.size (s.heap.objs.size + 1) := by rw [← hH2, Heap.size_push]
  have hDC : s.heap.objs.size ≠ H2.objs.size := by rw [hC]; exact Nat.ne_of_lt (Nat.lt_succ_self _)
  have hCle : s.heap.objs.size ≤ H2.objs.size := by rw [hC]; exact Nat.le_succ _
  have old : ∀ b o, s.heap.get? b = some o → h1.get? b = some o := fun b o e => hsb1.extBut b o (by
    have := Heap.lt_size e
    exact Nat.ne_of_lt (Nat.lt_of_lt_of_le this hCle)) (Heap.get?_push_of_some _ (hH2 ▸ Heap.get?_push_of_some _ e))
  have hacc : h1.get? s.heap.objs.size = some { cls := .type "list", dict := none, data := .seq ([] : List Value).toArray } := hsb1.extBut _ _ hDC (Heap.get?_push_of_some _ (hH2 ▸ Heap.get?_push_size _ rfl))
  have hfl : ∀ b ∈ fp, FpOk X pins H b ∧ b < s.heap.objs.size := fun b hb => ⟨hf b hb, by
    obtain ⟨o, e, _⟩ := T.obj 0 s.heap t0 b hb
    exact Heap.lt_size e⟩
  obtain ⟨W, ⟨m0, w0⟩, turn⟩ := q s.heap.objs.size (I.hok.fresh (Nat.le_refl _))
  have I1 := comp_start (t1 := s.toks + ([] : List (Str × Value)).length) (o := { cls := .type "list" , data := .seq #[] }) S I hfl hcl hcl2 hC hns1 old hacc
  have t1 : tn 0 h1 := T.keep 0 s.heap h1 t0 fun b _ o e => old b o e
  have stat : ∀ {pins' : List (Addr × Obj)} {H' : Hp}, (∀ b ∈ fp, H' b = none) → (∀ p ∈ pins', p.1 ∉ fp) → ∀ b ∈ fp, FpOk (X.comp scope own js cl s H H2.objs.size fp) pins' H' b := fun hn hp b hb => by
    obtain ⟨⟨f0, f1, f2, f3, f4, f5⟩, lt⟩ := hfl b hb
    exact ⟨hn b hb, Nat.ne_of_lt (Nat.lt_of_lt_of_le lt hCle), fun z => (List.mem_cons.mp (I.stkSub b z)).elim f1 f2, .inl hb, fun x c e => f4 x c (hcl x c e), fun p hp' z => hp p hp' (z ▸ hb)⟩
  have fr0 : ∀ b ∈ fp, (upd H s.heap.objs.size (.lst [])) b = none := fun b hb => by
    obtain ⟨⟨f0, _⟩, lt⟩ := hfl b hb
    rw [upd_ne (Nat.ne_of_lt lt)]; exact f0
  have loop : ∀ s3 : Shared, s3 = { s with heap := h1, toks := s.toks + ([] : List (Str × Value)).length } →
      codeAny (model X.prog X.w) X.A (.compLoop (.ListComp elt [⟨tg, iter, ifs, 0⟩] scope pos) 0 (.ref it) (.ref s.heap.objs.size) (compEnvC scope cl H2.objs.size X.env)) (RR (.ref s.heap.objs.size) H2.objs.size) s3 := by
    rintro s3 rfl
    refine compLoop_any (fun n s' => ∃ i H', Inv (X.comp scope own js cl s H H2.objs.size fp) [] (pick own.length js σ) H' s' ∧ tn i s'.heap ∧ (∀ b ∈ fp, H' b = none) ∧ W i n H') ?_ m0 ⟨0, _, I1, t1, fr0, w0⟩
    rintro n s4 ⟨i, H4, I4, st4, fr4, w4⟩
    have noP : ∀ p ∈ ([] : List (Addr × Obj)), p.1 ∉ fp := fun p hp => nomatch hp
    rcases turn i n H4 w4 with ⟨stop, qn⟩ | ⟨go, step⟩
    · refine thn (T.done (X.comp scope own js cl s H H2.objs.size fp) rfl rfl rfl hc i [] s4 _ H4 (fun _ _ => False) I4 (stat fr4 noP) st4 stop) fun r s5 ⟨hr, I5⟩ => ?_
      subst hr
      exact hRR _ _ H4 s5 hCle I5 qn
    · refine thn (T.item (X.comp scope own js cl s H H2.objs.size fp) rfl rfl rfl hc i [] s4 _ H4 (fun _ _ => False) I4 (stat fr4 noP) st4 go) fun r s5 ⟨u, hr, h5⟩ => ?_
      subst hr
      refine thn h5 fun _ s6 ⟨x, H6, I6, r6, y6, st6, fr6⟩ => ?_
      have I6' := I6.pinned (stat fr6 noP) (T.obj _ _ st6)
      have again : ∀ {σ7 : St} {H7 : Hp} {s7 : Shared} {m' : Nat}, Wk (pick own.length js σ) σ7 → Inv (X.comp scope own js cl s H H2.objs.size fp) ([] ++ pinsAt fp s6.heap) σ7 H7 s7 → m' < n → W (i + 1) m' H7 →
          ∃ m, m < n ∧ ∃ i H', Inv (X.comp scope own js cl s H H2.objs.size fp) [] (pick own.length js σ) H' s7 ∧ tn i s7.heap ∧ (∀ b ∈ fp, H' b = none) ∧ W i m H' := fun {σ7 H7 s7 m'} wk I7 hm w7 => by
        refine ⟨m', hm, i + 1, H7, (I7.unpinned).weak wk.1 wk.2, T.keep _ _ _ st6 fun b hb o e => (I7.pin (b, o) (List.mem_append_right _ (List.mem_append_right _ (mem_pinsAt hb e)))).1, fun b hb => ?_, w7⟩
        obtain ⟨o, e, d⟩ := T.obj _ _ st6 b hb
        exact (I7.pin (b, o) (List.mem_append_right _ (List.mem_append_right _ (mem_pinsAt hb e)))).2.1
      refine thn (hg cl s H H2.objs.size fp _ s6 _ H6 x u _ I6' r6 (step x H6 y6)) fun _ s7 ⟨σ7, H7, I7, wk7, q7⟩ => ?_
      refine thn (hi cl s H H2.objs.size fp _ s7 σ7 H7 _ I7 q7) fun ok s8 ⟨H8, I8, q8⟩ => ?_
      cases ok with
      | false =>
        obtain ⟨m', hm, w8⟩ := (show ∃ m', m' < n ∧ W (i + 1) m' H8 from by simpa using q8)
        exact again wk7 I8 hm w8
      | true =>
        have q8 : te σ7 H8 fun y H4 => ∃ ys, H4 s.heap.objs.size = some (.lst ys) ∧ ys.length < sizeLine ∧ ∃ m', m' < n ∧ W (i + 1) m' (upd H4 s.heap.objs.size (.lst (ys ++ [y]))) := by simpa using q8
        refine thn (he cl s H H2.objs.size fp _ s8 σ7 H8 _ I8 q8) fun yv s9 ⟨y, H9, I9, r9, ys, hy, hz, m', hm, w9⟩ => ?_
        refine thn (mt_append (X := X.comp scope own js cl s H H2.objs.size fp) _ s9 σ7 H9 (.ref s.heap.objs.size) [y] (.ref s.heap.objs.size) [yv] (fun _ H' => W (i + 1) m' H') I9 rfl (.cons r9 .nil) ⟨_, ys, y, rfl, rfl, hy, hz, w9⟩) fun _ s10 ⟨_, H10, I10, _, w10⟩ => ?_
        exact again wk7 I10 hm w10
  exact codeAny_compStart_list (loop _ rfl) (T.self X.A 0 _ _ _ t1 (loop _ rfl))

theorem pe_comp {sc : Scope} {N : List Str} (own : List Str) (js : List Nat) (hsc : X.env.scope = sc) (hNN : X.N = N) (S0 : CompScopeN sc N scope js) (hc : X.calm = true) (hit : PI X tg iter wi)
    (hg : ∀ cl s H C fp, PG (X.comp scope own js cl s H C fp) tg g) (hi : ∀ cl s H C fp, PIfs (X.comp scope own js cl s H C fp) ifs c) (he : ∀ cl s H C fp, PE (X.comp scope own js cl s H C fp) elt te)
    (hs : ∀ x, foldedSetIterable iter X.env x = pure x := by intro _; rfl) : PE X (.ListComp elt [⟨tg, iter, ifs, 0⟩] scope pos) (tComp own.length js wi g c te) := by
  intro pins s σ H Q I h
  have S : CompScope X scope own js := S0.cs hsc hNN
  obtain ⟨cl, hcl0, hcl, hcl2⟩ := closure_ok (env := X.env) (scope := scope) fun n hn => I.ok.has n (S.free _ hn rfl)
  rw [eval_ListComp]
  refine wpAny_comprehension_free (use := none) rfl hs hcl0 S.kind S.names (thn (hit pins s σ H _ I h) fun xv s1 h1 => thn h1 fun itv s2 h2 => ?_)
  obtain ⟨it, fp, tn, J, H2, e, I2, T, st2, f2, q2⟩ := h2
  subst e
  refine comp_core (RR := fun acc C => compPost (model X.prog X.w) X.A X.xe none (EP X pins σ Q) acc C) hc S I2 T st2 f2 hcl hcl2 hg hi he q2 fun acc C H' s' hC J' q' => ?_
  obtain ⟨m, hn, _⟩ := J'.loc
  exact ⟨m, hn, fun h' hs' => ⟨.ref acc, H', comp_gone I2 hC (comp_leave I2 f2 J') J'.free hs', rfl, q'⟩⟩

end
end L2

namespace L2
open PySem PySem.Spec PyProof.Rows

/-! ### enumerate over a list, its pairs taken apart by the target -/
def Ite (K : PySem.W.Frag) (a : Addr) : It :=
  ⟨fun i H => ∃ xs x, SqL K H a xs ∧ xs[i]? = some x, fun i H x H' => ∃ p v, x = .ref p ∧ H p = none ∧ H' = upd H p (.tup [.int (i : Nat), v]) ∧ ∀ xs, SqL K H a xs → xs[i]? = some v, fun i H => ∃ xs, SqL K H a xs ∧ xs.length ≤ i⟩
theorem turn_enum {P : Program} {w : World} {K : PySem.W.Frag} {es : List Expr} {k : _} {pos : Pos} (a e it : Addr) (hne : e ≠ it) : Turn P w K (.Tuple es k pos) (Ite K a) [e, it] e (fun i h => (∃ old, IsEnum h e it (i : Nat) old) ∧ h.IsListIter it a i) where
  mem := by simp
  obj := fun i h st b hb => by
    obtain ⟨⟨old, he⟩, o, e1, c, d⟩ := st
    rcases List.mem_cons.mp hb with q | q
    · subst q
      exact ⟨_, he, fun v z => by
        have z' : Data.fields _ = Data.cell v := z
        cases z'⟩
    · have q : b = it := by simpa using q
      subst q
      exact ⟨o, e1, fun v z => by rw [d] at z; cases z⟩
  keep := fun i h h' st k => ⟨by obtain ⟨⟨old, he⟩, _⟩ := st; exact ⟨old, k e (by simp) _ he⟩, st.2.at fun o q => k it (by simp) o q⟩
  item := by
    intro X hP hw hK hc i pins s σ H E I hf st hg
    subst hP hw hK
    obtain ⟨xs, x, hq, hx⟩ := hg
    obtain ⟨its, rv, p, hz⟩ := I.list hq
    obtain ⟨u, hu, ru⟩ := rv.get hx
    obtain ⟨⟨old, he⟩, hit⟩ := st
    refine wpAny_pyNext_enum_item he hit p.isList (x := u) (by simpa using hu) hne fun h' ho hit' ht hsz hk => ?_
    refine ⟨_, rfl, wpAny_letOwnedTupleGo_enum ho fun h2 he2 hs2 => ?_⟩
    have hTe : s.heap.objs.size ≠ e := Nat.ne_of_gt (Heap.lt_size he)
    have hk2 : ∀ b o, b ∉ [e, it] → s.heap.get? b = some o → h2.get? b = some o := fun b o hb q => (hs2.2 b (fun z => hb (by simp [z]))).trans (hk b o (fun z => hb (by simp [z])) (fun z => hb (by simp [z])) q)
    have hT : h2.get? s.heap.objs.size = some { cls := .type "tuple", data := .seq #[.int i s.toks, u] } := (hs2.2 _ hTe).trans ht
    have hTn : H s.heap.objs.size = none := I.hok.fresh (Nat.le_refl _)
    have ne : ∀ b o, H b = some o → b ≠ s.heap.objs.size := fun b o q z => by rw [z, hTn] at q; cases q
    have nch : ∀ b o, H b = some o → b ∉ [e, it] := fun b o q z => by rw [(hf b z).1] at q; cases q
    have up : ∀ b o, H b = some o → upd H s.heap.objs.size (.tup [.int (i : Nat), x]) b = some o := fun b o q => by rw [upd_ne (ne b o q)]; exact q
    have I1 : Inv X pins σ (upd H s.heap.objs.size (.tup [.int (i : Nat), x])) { s with heap := h2, toks := s.toks + 1 } := by
      refine I.step (g' := s.gens) (d' := s.drawn) (ch := [e, it]) (fun b hb => ?_) (fun b o _ _ hb q _ => hk2 b o hb q) (fun b o _ _ hb q _ => ⟨o.slots, hk2 b o hb q⟩) (fun b o hb q n => ?_) (fun b o hb q => ⟨o, hk2 b o hb q⟩)
        (fun b xs q => up b _ q) (fun b o u q => up b _ q) (fun b ps q => ⟨#[], by rw [up b _ q]; simp⟩) (fun m hm => ?_) (fun b u q => ?_) I.bare
      · obtain ⟨f0, f1, f2, f3, f4, f5⟩ := hf b hb
        exact ⟨f3, f1, f4, f5⟩
      · rw [upd_ne (Nat.ne_of_lt (Heap.lt_size q))]; exact n
      · obtain ⟨o, es, ep, ho, r⟩ := hm
        exact ⟨o, es, ep, hk2 _ o (fun z => (hf _ z).2.1 rfl) ho, r⟩
      · by_cases hb : b = s.heap.objs.size
        · subst hb
          rw [upd_same] at q
          cases q
          exact ⟨by show 2 ≤ sizeLine; decide, [.int i s.toks, u], .cons ⟨_, rfl⟩ (.cons ru .nil), _, hT, rfl, 0, rfl⟩
        · rw [upd_ne hb] at q
          refine (I.hok b u q).stay (fun c v hc q' => hk2 c v ?_ q') (fun c q' => up c _ q') fun c xs q' => up c _ q'
          rcases hc with z | z
          · subst z; exact nch _ _ q
          · exact nch _ _ z
    refine ⟨.ref s.heap.objs.size, _, I1, rfl, ⟨_, x, rfl, hTn, rfl, fun ys hy => by rw [I.list_inj hy hq]; exact hx⟩, ⟨⟨u, by simpa using he2⟩, ?_⟩, fun b hb => ?_⟩
    · exact hit'.extBut hs2.extBut (Ne.symm hne)
    · have hb' : b ≠ s.heap.objs.size := by
        rcases List.mem_cons.mp hb with q | q
        · rw [q]; exact hTe.symm
        · have q : b = it := by simpa using q
          obtain ⟨o, q1, _⟩ := hit
          rw [q]; exact Nat.ne_of_lt (Heap.lt_size q1)
      rw [upd_ne hb']; exact (hf b hb).1
  done := by
    intro X hP hw hK hc i pins s σ H E I hf st hg
    subst hP hw hK
    obtain ⟨xs, hq, hx⟩ := hg
    obtain ⟨its, rv, p, hz⟩ := I.list hq
    obtain ⟨⟨old, he⟩, hit⟩ := st
    obtain ⟨f0, f1, f2, f3, f4, f5⟩ := hf it (by simp)
    have hl := rv.length
    exact wpAny_pyNext_enum_end (I.ok.hd hc) he hit p.isList (by simp; omega) fun h' eb => ⟨rfl, I.turned (t' := s.toks) (fun b o hb e => eb b o hb e) f0 f1 f3 f4 f5⟩
  self := fun _ _ _ _ _ st h => by
    obtain ⟨⟨old, he⟩, _⟩ := st
    exact wpAny_pyIter_enum he h

section
variable {X : Cx}
def iEnum (K : PySem.W.Frag) (ta : TA) : TI := fun σ H R => ta σ H fun vs H1 => ∃ a, vs = [.ref a] ∧ (∃ xs, SqL K H1 a xs) ∧ R (Ite K a) H1
theorem pi_enum {es : List Expr} {k : _} {tpos : Pos} {a : Expr} {ta : TA} {p pos : Pos} (hg : Gl X "enumerate") (hm : X.mg "enumerate" = none) (ha : PA X [a] ta) (hs : starEach [a] X.env = [(false, eval a X.env)] := by rfl) : PI X (.Tuple es k tpos) (.Call (.Name "enumerate" p) [a] [] pos) (iEnum X.K ta) := by
  intro pins s σ H R I h
  refine Call_ (ld_blt I hg hm boot_enumerate (PyProof.Rows.callWith_type1 (thn (ha pos pins s σ H _ I h) fun us s1 ⟨vs, H1, I1, r1, q1⟩ => ?_) hs rfl))
  obtain ⟨l, e, ⟨xs, hq⟩, q⟩ := q1
  subst e
  obtain ⟨u, rfl, ru⟩ := r1.one
  cases ru
  obtain ⟨its, rv, pl, hz⟩ := I1.list hq
  refine call_enumerate_list pl.isList fun h' he hit hsz hk => wpAny_pyIter_enum (i := 0) (old := .none) (by simpa using he) ?_
  have I2 : Inv X pins σ H1 { s1 with heap := h' } := I1.kept (t' := s1.toks) hk
  refine ⟨s1.heap.objs.size + 1, [s1.heap.objs.size + 1, s1.heap.objs.size], _, _, H1, rfl, I2, turn_enum l _ _ (Nat.succ_ne_self _), ⟨⟨.none, by simpa using he⟩, hit⟩, fun b hb => ?_, q⟩
  have hb' : s1.heap.objs.size ≤ b := by
    rcases List.mem_cons.mp hb with q | q
    · rw [q]; exact Nat.le_succ _
    · have q : b = s1.heap.objs.size := by simpa using q
      rw [q]; exact Nat.le_refl _
  exact I1.fpOk hb' (I1.hok.fresh hb')

/-! ### range(lo, hi, 2) and the like -/
def Itr3 (lo c : Int) (n : Nat) : It := ⟨fun i _ => i < n, fun i H x H' => H' = H ∧ x = .int (lo + i * c), fun i _ => n ≤ i⟩
def iRng3 (ta : TA) : TI := fun σ H R => ta σ H fun vs H1 => ∃ (i j c : Int), vs = [.int i, .int j, .int c] ∧ (c ≠ 0 ∧ c.natAbs < 1073741824) ∧ Builtin.Range.small i j c = true ∧ 0 ≤ Builtin.Range.rangeSize i j c ∧ R (Itr3 i c (Builtin.Range.rangeSize i j c).toNat) H1
/-! ### data: what a value is, to its depth -/
mutual
inductive DR (K : PySem.W.Frag) (H : Hp) : V → PyData → Prop
  | non : DR K H .non .none
  | bl (b : Bool) : DR K H (.bl b) (.bool b)
  | int (i : Int) : DR K H (.int i) (.int i)
  | str (x : Str) : DR K H (.str x) (.str x)
  | lst {a : Addr} {xs : List V} {ds : List PyData} : SqL K H a xs → DRs K H xs ds → DR K H (.ref a) (.list ds)
  | tup {a : Addr} {xs : List V} {ds : List PyData} : SqT K H a xs → DRs K H xs ds → DR K H (.ref a) (.tuple ds)
inductive DRs (K : PySem.W.Frag) (H : Hp) : List V → List PyData → Prop
  | nil : DRs K H [] []
  | cons {x : V} {d : PyData} {xs : List V} {ds : List PyData} : DR K H x d → DRs K H xs ds → DRs K H (x :: xs) (d :: ds)
end
mutual
theorem DR.reads {pins : List (Addr × Obj)} {σ : St} {H : Hp} {s : Shared} (I : Inv X pins σ H s) : ∀ {x : V} {d : PyData} {u : Value}, DR X.K H x d → RelV x u → ∃ as, Reads s.heap u d as
  | _, _, _, .non, r => by cases (show _ = Value.none from r); exact ⟨_, .none⟩
  | _, _, _, .bl b, r => by cases (show _ = Value.bool b from r); exact ⟨_, .bool b⟩
  | _, _, _, .int i, r => by obtain ⟨t, rfl⟩ := r; exact ⟨_, .int i t⟩
  | _, _, _, .str x, r => by obtain ⟨t, rfl⟩ := r; exact ⟨_, .str x t⟩
  | _, _, _, .lst (a := a) h hs, r => by
    cases (show _ = Value.ref a from r)
    obtain ⟨its, rv, p, hz⟩ := I.list h
    obtain ⟨o, h1, h2, n, h3⟩ := p.isList
    obtain ⟨as, ra⟩ := DRs.reads I hs rv
    exact ⟨_, .list h1 h2 h3 (by simpa using ra)⟩
  | _, _, _, .tup (a := a) h hs, r => by
    cases (show _ = Value.ref a from r)
    obtain ⟨its, rv, p, hz⟩ := I.tuple h
    obtain ⟨o, h1, h2, n, h3⟩ := p
    obtain ⟨as, ra⟩ := DRs.reads I hs rv
    exact ⟨_, .tuple h1 h2 h3 (by simpa using ra)⟩
theorem DRs.reads {pins : List (Addr × Obj)} {σ : St} {H : Hp} {s : Shared} (I : Inv X pins σ H s) : ∀ {xs : List V} {ds : List PyData} {us : List Value}, DRs X.K H xs ds → Vals xs us → ∃ as, ReadsAll s.heap us ds as
  | _, _, _, .nil, r => by cases r; exact ⟨_, .nil⟩
  | _, _, _, .cons h hs, r => by
    cases r with
    | cons r1 r2 =>
      obtain ⟨as, ra⟩ := DR.reads I h r1
      obtain ⟨bs, rb⟩ := DRs.reads I hs r2
      exact ⟨_, .cons ra rb⟩
end
open PySem.SeqAt in
def rEqD (K : PySem.W.Frag) (neg : Bool) : R2 := fun x y H Q => ∃ d e, DR K H x d ∧ DR K H y e ∧ shaped d = true ∧ shaped e = true ∧ Q (.bl (if neg then !PyData.eqv d e else PyData.eqv d e)) H
theorem op_eqD {k : Nat} (hr : Room k X.A) : OpR X (compareOp .Eq) (rEqD X.K false) := by
  intro pins s σ H x y v u Q I rx ry h
  obtain ⟨d, e, h1, h2, s1, s2, q⟩ := h
  obtain ⟨as, ra⟩ := h1.reads I rx
  obtain ⟨bs, rb⟩ := h2.reads I ry
  exact eq_dataH ra rb s1 s2 hr.units ⟨.bl (PyData.eqv d e), H, I, rfl, q⟩
theorem op_neD {k : Nat} (hr : Room k X.A) : OpR X (compareOp .NotEq) (rEqD X.K true) := by
  intro pins s σ H x y v u Q I rx ry h
  obtain ⟨d, e, h1, h2, s1, s2, q⟩ := h
  obtain ⟨as, ra⟩ := h1.reads I rx
  obtain ⟨bs, rb⟩ := h2.reads I ry
  exact ne_dataH ra rb s1 s2 hr.units ⟨.bl (!PyData.eqv d e), H, I, rfl, q⟩

/-! ### isinstance(x, T), T a built-in type -/
def rIsI (K : PySem.W.Frag) : List V → Hp → VK → Prop := fun xs H Q => ∃ x t T b, xs = [x, .ty T] ∧ TyOf K H x t ∧ PySem.W.kitOne K t (.type T) = some b ∧ Q (.bl b) H
/-! ### all(xs), xs a list of truths -/
def rAll (K : PySem.W.Frag) : List V → Hp → VK → Prop := fun xs H Q => ∃ (p : Addr) (bs : List Bool), xs = [.ref p] ∧ SqL K H p (bs.map V.bl) ∧ Q (.bl (bs.all id)) H
end

theorem Same.tup {K : PySem.W.Frag} {H H' : Hp} {a : Addr} {xs : List V} (e : Same H H') (h : SqT K H a xs) : SqT K H' a xs := by
  rcases h with (h | ⟨o, h⟩) | h
  · exact .inl (.inl (e _ _ h))
  · exact .inl (.inr ⟨o, e _ _ h⟩)
  · exact .inr h
mutual
theorem DR.same {K : PySem.W.Frag} {H H' : Hp} (e : Same H H') : ∀ {x : V} {d : PyData}, DR K H x d → DR K H' x d
  | _, _, .non => .non
  | _, _, .bl b => .bl b
  | _, _, .int i => .int i
  | _, _, .str x => .str x
  | _, _, .lst h hs => .lst (e.seq h) (DRs.same e hs)
  | _, _, .tup h hs => .tup (e.tup h) (DRs.same e hs)
theorem DRs.same {K : PySem.W.Frag} {H H' : Hp} (e : Same H H') : ∀ {xs : List V} {ds : List PyData}, DRs K H xs ds → DRs K H' xs ds
  | _, _, .nil => .nil
  | _, _, .cons h hs => .cons (DR.same e h) (DRs.same e hs)
end
theorem DRs.ints {K : PySem.W.Frag} {H : Hp} : ∀ ns : List Int, DRs K H (ns.map V.int) (ns.map PyData.int)
  | [] => .nil
  | n :: ns => .cons (.int n) (DRs.ints ns)
theorem same_new {H : Hp} {p : Addr} (h : H p = none) (o : HO) : Same H (upd H p o) := fun b u q => by rw [upd_ne (ne_of_none q h)]; exact q
end L2

namespace L2
open PySem PySem.Spec PyProof.Rows

/-! ### a def of the text with its promise, in one word -/
structure Dfn (P : Program) (w : World) (K : PySem.W.Frag) (mg : Str → Option Value) (base : Heap) (k : Nat) (x : Str) (ps : List Str) (sp : Sp) : Prop where
  ex : ∃ f fd, FnOk P w K mg base CX0 k f fd ps sp ∧ Binds K fd ps [] ∧ PySem.W.keepIn K (.ref f) = true ∧ mg x = some (.ref f)
section
variable {P : Program} {w : World} {K : PySem.W.Frag} {mg : Str → Option Value} {base : Heap}
theorem Dfn.mono {j k : Nat} {x : Str} {ps : List Str} {sp : Sp} (D : Dfn P w K mg base j x ps sp) (h : j ≤ k) : Dfn P w K mg base k x ps sp := by
  obtain ⟨f, fd, F, b, kp, m⟩ := D.ex
  exact ⟨f, fd, F.mono h, b, kp, m⟩
theorem Dfn.of {k : Nat} {x qual : Str} {st : Stmt} {f : Addr} {fd : FuncData} {N ps : List Str} {sp : Sp} (F : Fun K x qual st f fd) (b : Binds K fd ps []) (m : mg x = some (.ref f)) (S : FnScope N ps (defScope st)) (len : ∀ vs H Q E, sp vs H Q E → vs.length = ps.length)
    (hbody : ∀ (cdv : Value) (A : Around) (outer : List Env) (s : Shared) (H : Hp) (vs : List V) (Q : VK) (E : XK), Room k (A.deeper (envOfC qual (defScope st) s.heap.objs.size f cdv)) → sp vs H Q E →
      ∃ t, PSs (cxOf CX0 P w K mg base N qual (defScope st) f cdv A outer s H E).nox (defBody st) t ∧ t { nx := fun _ H' => Q .non H', rt := Q } (start N vs) H) : Dfn P w K mg base (k + 1) x ps sp :=
  ⟨f, fd, F.ok S len hbody, b, F.kp, m⟩
end
theorem pe_def {X : Cx} {k j : Nat} {x : Str} {ps : List Str} {sp : Sp} {e : Expr} {es : List Expr} {t : TA} {p pos : Pos} (D : Dfn X.prog X.w X.K X.mg X.base k x ps sp) (hr : Room j X.A) (hj : k ≤ j) (hg : Gl X x) (ha : PA X (e :: es) t)
    (hdb : (x == ("__debug__" : Str)) = false := by decide) (he : starEach (e :: es) X.env = (false, eval e X.env) :: starEach es X.env := by rfl) (hpl : (backTo pos (starEach es X.env)).any (·.1) = false := by rfl) :
    PE X (.Call (.Name x p) (e :: es) [] pos) (tCall sp [] E0 t) := by
  obtain ⟨f, fd, F, b, kp, m⟩ := D.ex
  exact pe_call F (hr.mono hj) hg m kp b .nil pass0 ha hdb he hpl

/-! ### comprehensions by what they come to: F i is the list behind i turns, nothing else changes but what is new -/
def CW (n : Nat) (acc : Addr) (Pv : Nat → List V → Hp → Prop) : Nat → Nat → Hp → Prop := fun i m H => m = n - i ∧ i ≤ n ∧ ∃ ys, H acc = some (.lst ys) ∧ Pv i ys H
def CSkip (n : Nat) (acc : Addr) (Pv : Nat → List V → Hp → Prop) (i : Nat) (H : Hp) : Prop := ∃ m', m' < n - i ∧ CW n acc Pv (i + 1) m' H
def CPut (n : Nat) (acc : Addr) (Pv : Nat → List V → Hp → Prop) (i : Nat) (y : V) (H : Hp) : Prop := ∃ ys, H acc = some (.lst ys) ∧ ys.length < sizeLine ∧ ∃ m', m' < n - i ∧ CW n acc Pv (i + 1) m' (upd H acc (.lst (ys ++ [y])))
def CP (H1 : Hp) (F : Nat → List V) : Nat → List V → Hp → Prop := fun i ys H => Same H1 H ∧ ys = F i
section
variable {n i : Nat} {acc : Addr} {H1 H H' : Hp} {F : Nat → List V} {y : V}
theorem cput (hlt : i < n) (hacc : H1 acc = none) (S : Same H1 H) (h0 : H acc = some (.lst (F i))) (s : Same H H') (e : F (i + 1) = F i ++ [y]) (hz : (F i).length < sizeLine) : CPut n acc (CP H1 F) i y H' :=
  ⟨F i, s acc _ h0, hz, n - (i + 1), by omega, rfl, hlt, F i ++ [y], upd_same, fun b o q => by
    rw [upd_ne (ne_of_none q hacc)]; exact s b o (S b o q), e.symm⟩
theorem cskip (hlt : i < n) (S : Same H1 H) (h0 : H acc = some (.lst (F i))) (s : Same H H') (e : F (i + 1) = F i) : CSkip n acc (CP H1 F) i H' :=
  ⟨n - (i + 1), by omega, rfl, hlt, F i, s acc _ h0, S.trans s, e.symm⟩
end
section
variable {K : PySem.W.Frag} {m : Nat} {js : List Nat} {g : TG} {c : TT} {te : TE} {σ : St} {H1 : Hp} {Q : VK}
theorem comp_list {a : Addr} {xs : List V} (hx : SqL K H1 a xs) (F : Nat → List V) (hF : F 0 = [])
    (turn : ∀ acc i x H, H1 acc = none → i < xs.length → xs[i]? = some x → Same H1 H → H acc = some (.lst (F i)) → g x (pick m js σ) H fun σ2 H2 => Wk (pick m js σ) σ2 ∧ c σ2 H2 fun b H3 => if b = true then te σ2 H3 fun y H4 => CPut xs.length acc (CP H1 F) i y H4 else CSkip xs.length acc (CP H1 F) i H3)
    (hQ : ∀ acc H, H1 acc = none → Same H1 H → H acc = some (.lst (F xs.length)) → Q (.ref acc) H) : tCompR m js g c te (Itl K a) σ H1 Q := by
  intro acc hacc
  refine ⟨CW xs.length acc (CP H1 F), ⟨_, rfl, Nat.zero_le _, [], upd_same, same_new hacc _, hF.symm⟩, ?_⟩
  rintro i m' H ⟨rfl, hi, ys, h0, S, rfl⟩
  have q := S.seq hx
  by_cases hlt : i < xs.length
  · refine .inr ⟨⟨xs, xs[i], q, by simp [hlt]⟩, fun x H' y => ?_⟩
    obtain ⟨e, y⟩ := y
    subst e
    exact turn acc i x _ hacc hlt (y xs q) S h0
  · have e : i = xs.length := by omega
    subst e
    exact .inl ⟨⟨xs, q, Nat.le_refl _⟩, hQ acc H hacc S h0⟩
theorem comp_enum {a : Addr} {xs : List V} (hx : SqL K H1 a xs) (F : Nat → List V) (hF : F 0 = [])
    (turn : ∀ acc i x p H, H1 acc = none → i < xs.length → xs[i]? = some x → Same H1 H → H acc = some (.lst (F i)) → H p = none → g (.ref p) (pick m js σ) (upd H p (.tup [.int (i : Nat), x])) fun σ2 H2 => Wk (pick m js σ) σ2 ∧ c σ2 H2 fun b H3 => if b = true then te σ2 H3 fun y H4 => CPut xs.length acc (CP H1 F) i y H4 else CSkip xs.length acc (CP H1 F) i H3)
    (hQ : ∀ acc H, H1 acc = none → Same H1 H → H acc = some (.lst (F xs.length)) → Q (.ref acc) H) : tCompR m js g c te (Ite K a) σ H1 Q := by
  intro acc hacc
  refine ⟨CW xs.length acc (CP H1 F), ⟨_, rfl, Nat.zero_le _, [], upd_same, same_new hacc _, hF.symm⟩, ?_⟩
  rintro i m' H ⟨rfl, hi, ys, h0, S, rfl⟩
  have q := S.seq hx
  by_cases hlt : i < xs.length
  · refine .inr ⟨⟨xs, xs[i], q, by simp [hlt]⟩, fun x H' y => ?_⟩
    obtain ⟨p, v, e, hp, e2, y⟩ := y
    subst e e2
    exact turn acc i v p _ hacc hlt (y xs q) S h0 hp
  · have e : i = xs.length := by omega
    subst e
    exact .inl ⟨⟨xs, q, Nat.le_refl _⟩, hQ acc H hacc S h0⟩
theorem comp_range {lo : Int} {n : Nat} (F : Nat → List V) (hF : F 0 = [])
    (turn : ∀ acc i H, H1 acc = none → i < n → Same H1 H → H acc = some (.lst (F i)) → g (.int (lo + (i : Nat))) (pick m js σ) H fun σ2 H2 => Wk (pick m js σ) σ2 ∧ c σ2 H2 fun b H3 => if b = true then te σ2 H3 fun y H4 => CPut n acc (CP H1 F) i y H4 else CSkip n acc (CP H1 F) i H3)
    (hQ : ∀ acc H, H1 acc = none → Same H1 H → H acc = some (.lst (F n)) → Q (.ref acc) H) : tCompR m js g c te (Itr lo n) σ H1 Q := by
  intro acc hacc
  refine ⟨CW n acc (CP H1 F), ⟨_, rfl, Nat.zero_le _, [], upd_same, same_new hacc _, hF.symm⟩, ?_⟩
  rintro i m' H ⟨rfl, hi, ys, h0, S, rfl⟩
  by_cases hlt : i < n
  · refine .inr ⟨hlt, fun x H' y => ?_⟩
    obtain ⟨e, y⟩ := y
    subst e y
    exact turn acc i _ hacc hlt S h0
  · have e : i = n := by omega
    subst e
    exact .inl ⟨Nat.le_refl _, hQ acc H hacc S h0⟩
end
/-! ### small things -/
theorem int_eq {i j : Int} : decide (V.int i = V.int j) = (i == j) := dec_int
theorem atI_int {ns : List Int} {k : Int} (h0 : 0 ≤ k) (h : k < (ns.length : Int)) : atI (ns.map V.int) k = some (.int (ns.getD k.toNat 0)) := by
  have hk : k.toNat < ns.length := by omega
  have ek : k = ((k.toNat : Nat) : Int) := by omega
  have q : atI (ns.map V.int) ((k.toNat : Nat) : Int) = some (.int ns[k.toNat]) := atI_nat (by rw [List.getElem?_map, List.getElem?_eq_getElem hk] <;> rfl)
  rw [← ek] at q
  rw [q, List.getD_eq_getElem?_getD, List.getElem?_eq_getElem hk]; rfl
theorem ints_get {ns : List Int} {i : Nat} {x : V} (h : (ns.map V.int)[i]? = some x) : x = .int (ns.getD i 0) := by
  rw [List.getElem?_map] at h
  cases e : ns[i]? with
  | none => rw [e] at h; cases h
  | some n => rw [e] at h; cases h; rw [List.getD_eq_getElem?_getD, e]; rfl
theorem small {n : Nat} (h : n ≤ 1000) : n ≤ sizeLine := Nat.le_of_lt (small1000 h)
/-- a book: a tuple of how many things and the list of the baskets -/
def Bk (K : PySem.W.Frag) (H : Hp) (b : Addr) (many : Int) (bs : List Int) : Prop := ∃ l, SqT K H b [.int many, .ref l] ∧ SqL K H l (bs.map V.int)
theorem Bk.same {K : PySem.W.Frag} {H H' : Hp} {b : Addr} {many : Int} {bs : List Int} (e : Same H H') (h : Bk K H b many bs) : Bk K H' b many bs := by
  obtain ⟨l, h1, h2⟩ := h
  exact ⟨l, e.tup h1, e.seq h2⟩
theorem lay_ints : ∀ ns : List Int, PyData.canLayAll0 (ns.map PyData.int) = true
  | [] => rfl
  | n :: ns => by
    show (PyData.canLay0 (.int n) && PyData.canLayAll0 (ns.map PyData.int)) = true
    rw [lay_ints ns]; rfl
theorem depth_ints : ∀ ns : List Int, PyData.depthAll (ns.map PyData.int) = 0
  | [] => rfl
  | n :: ns => by
    show max (PyData.depth (.int n)) (PyData.depthAll (ns.map PyData.int)) = 0
    rw [depth_ints ns]; rfl
theorem shaped_ints (ns : List Int) : PySem.SeqAt.shaped (.list (ns.map PyData.int)) = true := by
  unfold PySem.SeqAt.shaped
  rw [show PyData.canLay0 (.list (ns.map PyData.int)) = true from lay_ints ns]
  rw [show PyData.depth (.list (ns.map PyData.int)) = 0 + 1 from by rw [← depth_ints ns]; rfl]
  rfl
theorem eqv_ints : ∀ ns ms : List Int, PyData.eqvAll (ns.map PyData.int) (ms.map PyData.int) = decide (ns = ms) := PySem.W.ked_eqvAll
end L2
namespace L2
open PySem PySem.Spec PyProof.Rows
/-! ### two ways meet behind a statement: what holds there is said once -/
def tMid (t u : TS) : TS := fun D σ H => ∃ R : St → Hp → Prop, t { D with nx := R } σ H ∧ ∀ σ' H', R σ' H' → u D σ' H'
theorem pss_mid {X : Cx} {st : Stmt} {rest : List Stmt} {t u : TS} (h1 : PS X st t) (h2 : PSs X rest u) : PSs X (st :: rest) (tMid t u) := by
  intro pins s σ H D I h
  obtain ⟨R, q1, q2⟩ := h
  refine wpAny_execs_cons (thn (h1 pins s σ H { D with nx := R } I q1) fun f s1 q => ?_)
  cases f with
  | next =>
    obtain ⟨σ', H', I', q⟩ := q
    exact h2 pins s1 σ' H' D I' (q2 σ' H' q)
  | ret v => exact q
  | brk => exact q
  | cont => exact q
/-- a test that only makes new things -/
def LookT (t : TT) (σ : St) (H : Hp) (c : Bool) : Prop := ∀ Q : Bool → Hp → Prop, (∀ H', Same H H' → Q c H') → t σ H Q
theorem LookT.pure {t : TT} {σ : St} {H : Hp} {c : Bool} (h : ∀ Q : Bool → Hp → Prop, Q c H → t σ H Q) : LookT t σ H c := fun Q q => h Q (q H (Same.refl H))
theorem lookOr {t u : TT} {σ : St} {H : Hp} {c d : Bool} (h1 : LookT t σ H c) (h2 : c = false → ∀ H1, Same H H1 → LookT u σ H1 d) : LookT (tOr t u) σ H (c || d) := fun Q h => by
  refine h1 _ fun H1 S1 => ?_
  cases c with
  | true => exact iteT (h H1 S1)
  | false => exact iteF (h2 rfl H1 S1 Q fun H2 S2 => h H2 (S1.trans S2))
/-- all that was tracked but at l is as it was -/
def SameB (l : Addr) (H H' : Hp) : Prop := ∀ b o, b ≠ l → H b = some o → H' b = some o
theorem Same.b {l : Addr} {H H' : Hp} (h : Same H H') : SameB l H H' := fun b o _ e => h b o e
theorem SameB.trans {l : Addr} {H H1 H2 : Hp} (a : SameB l H H1) (b : SameB l H1 H2) : SameB l H H2 := fun c o n h => b c o n (a c o n h)
theorem sameB_upd {l : Addr} {H : Hp} {o : HO} : SameB l H (upd H l o) := fun b u n e => by rw [upd_ne n]; exact e
theorem SameB.same {l : Addr} {H0 H H' : Hp} (h : SameB l H H') (h0 : Same H0 H) (hn : H0 l = none) : Same H0 H' := fun b o e => h b o (ne_of_none e hn) (h0 b o e)
theorem SameB.seq {K : PySem.W.Frag} {l : Addr} {H H' : Hp} {a : Addr} {xs : List V} (e : SameB l H H') (n : a ≠ l) (h : SqL K H a xs) : SqL K H' a xs := by
  rcases h with (h | ⟨o, h⟩) | h
  · exact .inl (.inl (e _ _ n h))
  · exact .inl (.inr ⟨o, e _ _ n h⟩)
  · exact .inr h
theorem SameB.tup {K : PySem.W.Frag} {l : Addr} {H H' : Hp} {a : Addr} {xs : List V} (e : SameB l H H') (n : a ≠ l) (h : SqT K H a xs) : SqT K H' a xs := by
  rcases h with (h | ⟨o, h⟩) | h
  · exact .inl (.inl (e _ _ n h))
  · exact .inl (.inr ⟨o, e _ _ n h⟩)
  · exact .inr h
/-- slices of lists of ints -/
def cutI (ds : List Int) (lo hi : Option Int) : List Int := (ds.drop (HT.sIx ds.length 0 lo)).take (HT.sIx ds.length ds.length hi - HT.sIx ds.length 0 lo)
end L2
namespace L2
open PySem PySem.Spec PyProof.Rows
/-! ### the same rules where the context is a comprehension's: K is said -/
section
variable {X : Cx} (K : PySem.W.Frag) (hK : X.K = K)
include hK
theorem pg_tupK {pos : Pos} {es : List Expr} {k : Nat} {t : TGs} {n : Nat} (hc : X.calm = true) (h : PGs X es t) (hn : (assignEach es X.env).length = n := by rfl) (hst : (assignEach es X.env).findIdx? (·.1) = none := by rfl) : PG X (.Tuple es k pos) (gTup K n t) := by
  subst hK; exact pg_tup hc h hn hst
theorem ix_listK : IxR X (rIxL K) := by subst hK; exact ix_list
end
end L2

namespace OL
open PySem L2

/-! ### what the program's defs answer, over plain lists -/
def hasF (x y : Int) : Bool := Builtin.bitAnd x y == y
def topF (n : Int) : Int := 1 * 2 ^ n.toNat - 1
def hold (bs : List Int) (lot : Int) (n : Nat) : List Int := ((List.range n).filter fun i => hasF (bs.getD i 0) lot).map fun (i : Nat) => (i : Int)
def holdF (bs : List Int) (lot : Int) : List Int := hold bs lot bs.length
def commonF (many : Int) (bs ps : List Int) : Int := ps.foldl (fun acc p => Builtin.bitAnd acc (bs.getD p.toNat 0)) (topF many)
def closeF (many : Int) (bs : List Int) (lot : Int) : Int := commonF many bs (holdF bs lot)
/-- the law's own closing -/
def closeL (many : Int) (bs : List Int) (lot : Int) : Int := bs.foldl (fun acc b => if hasF b lot then Builtin.bitAnd acc b else acc) (topF many)

/-! ### promises -/
def spHas : Sp := fun vs H Q _ => ∃ x y, vs = [.int x, .int y] ∧ Q (.bl (hasF x y)) H
def spTop : Sp := fun vs H Q _ => ∃ n : Int, vs = [.int n] ∧ 0 ≤ n ∧ n ≤ 64 ∧ Q (.int (topF n)) H
def spHold (K : PySem.W.Frag) : Sp := fun vs H Q _ => ∃ (b : Addr) (many : Int) (bs : List Int) (lot : Int), vs = [.ref b, .int lot] ∧ Bk K H b many bs ∧ bs.length ≤ 500 ∧
  ∀ (r : Addr) (H' : Hp), Same H H' → H r = none → H' r = some (.lst ((holdF bs lot).map V.int)) → Q (.ref r) H'
def spCommon (K : PySem.W.Frag) : Sp := fun vs H Q _ => ∃ (b p : Addr) (many : Int) (bs ps : List Int), vs = [.ref b, .ref p] ∧ Bk K H b many bs ∧ SqL K H p (ps.map V.int) ∧ 0 ≤ many ∧ many ≤ 64 ∧ (∀ q ∈ ps, 0 ≤ q ∧ q < bs.length) ∧ Q (.int (commonF many bs ps)) H
def spClose (K : PySem.W.Frag) (f : Int → List Int → Int → V) : Sp := fun vs H Q _ => ∃ (b : Addr) (many : Int) (bs : List Int) (lot : Int), vs = [.ref b, .int lot] ∧ Bk K H b many bs ∧ bs.length ≤ 500 ∧ 0 ≤ many ∧ many ≤ 64 ∧ ∀ H', Same H H' → Q (f many bs lot) H'
/-! ### books that a law draws -/
def InB (many : Int) (x : Int) : Prop := 0 ≤ x ∧ x < 2 ^ many.toNat
structure BookOk (many : Int) (bs : List Int) (most top : Int) : Prop where
  lo : 1 ≤ many
  hi : many ≤ most
  len : (bs.length : Int) ≤ top
  bas : ∀ x ∈ bs, InB many x
def spBook : Sp := fun vs H Q _ => ∃ (c most tp : Int), vs = [.int c, .int most, .int tp] ∧ 1 ≤ most ∧ most ≤ 12 ∧ 0 ≤ tp ∧ tp ≤ 20 ∧
  ∀ (b l : Addr) (H' : Hp) (many : Int) (bs : List Int), Same H H' → H b = none → H l = none → H' b = some (.tup [.int many, .ref l]) → H' l = some (.lst (bs.map V.int)) → BookOk many bs most tp → Q (.ref b) H'
def spWhole : Sp := fun vs H Q _ => ∃ i : Int, vs = [.int i] ∧ Q (.bl true) H
theorem getD_mem {ds : List Int} {i : Nat} (h : i < ds.length) : ds.getD i 0 ∈ ds := by
  rw [List.getD_eq_getElem?_getD, List.getElem?_eq_getElem h]; exact List.getElem_mem h
end OL

namespace OL
open PySem L2
/-- a test that looks and changes nothing -/
def PureT (t : TT) (σ : St) (H : Hp) (c : Bool) : Prop := ∀ Q : Bool → Hp → Prop, Q c H → t σ H Q
theorem mod_ok (a : Int) {m : Int} (h0 : 0 < m) (h1 : m < 2 ^ 64) : -(2 ^ 64) < a % m ∧ a % m < 2 ^ 64 := by
  have g0 := Int.emod_nonneg a (show m ≠ 0 by omega)
  have g1 := Int.emod_lt_of_pos a h0
  omega
def cellF (ns : List Int) (k : Int) : Int := ns.getD k.toNat 0
def spCell (K : PySem.W.Frag) : Sp := fun vs H Q _ => ∃ (a : Addr) (ns : List Int) (k : Int), vs = [.ref a, .int k] ∧ SqL K H a (ns.map V.int) ∧ 0 ≤ k ∧ Q (.int (cellF ns k)) H
def spDraws : Sp := fun vs H Q _ => ∃ (c m b : Int), vs = [.int c, .int m, .int b] ∧ 0 ≤ m ∧ m ≤ 100 ∧ 0 < b ∧ b < 1073741824 ∧
  ∀ (r : Addr) (H' : Hp) (ds : List Int), Same H H' → H r = none → H' r = some (.lst (ds.map V.int)) → (ds.length : Int) = m → (∀ d ∈ ds, 0 ≤ d ∧ d < b) → Q (.ref r) H'
end OL
namespace OL
open PySem L2
theorem atI_map {ns : List Int} {k : Int} (h0 : 0 ≤ k) (h : k < ((ns.map V.int).length : Int)) : atI (ns.map V.int) k = some (.int (ns.getD k.toNat 0)) := atI_int h0 (by rwa [List.length_map] at h)
end OL
namespace OL
open PySem L2
def spLaw (K : PySem.W.Frag) : Sp := fun vs H Q _ => ∃ (a : Addr) (ns : List Int), vs = [.ref a] ∧ SqL K H a (ns.map V.int) ∧ ns.length ≤ 63 ∧ ∀ H', Q (.bl true) H'
theorem ints_eqv (ns : List Int) : PyData.eqv (.list (ns.map PyData.int)) (.list (ns.map PyData.int)) = true := by
  show PyData.eqvAll (ns.map PyData.int) (ns.map PyData.int) = true
  rw [eqv_ints]; simp
theorem yes_of {σ : St} {H : Hp} {A B : Hp → Prop} (h : A H) : tYes σ H fun b H3 => if b = true then A H3 else B H3 := by
  show if true = true then A H else B H
  exact iteT h
theorem seq_if {c : TT} {t u v : TS} {D : Ends} {σ : St} {H : Hp} {b : Bool} (h : LookT c σ H b) (k : ∀ H', Same H H' → if b = true then t { D with nx := v D } σ H' else u { D with nx := v D } σ H') : tSeq (tIfS c t u) v D σ H := h _ k
theorem one_if {c : TT} {t u : TS} {D : Ends} {σ : St} {H : Hp} {b : Bool} (h : LookT c σ H b) (k : ∀ H', Same H H' → if b = true then t D σ H' else u D σ H') : tIfS c t u D σ H := h _ k
theorem take_get {cs : List Int} {i : Nat} (h : i < cs.length) : cs.take (i + 1) = cs.take i ++ [cs.getD i 0] := by
  rw [List.getD_eq_getElem?_getD, List.getElem?_eq_getElem h]
  exact List.take_succ_eq_append_getElem h
end OL

namespace OL
open PySem L2
def countF (bs : List Int) (lot : Int) : Int := ((holdF bs lot).length : Int)
def spLot (K : PySem.W.Frag) : Sp := fun vs H Q _ => ∃ (b : Addr) (many : Int) (bs : List Int) (c : Int), vs = [.ref b, .int c] ∧ Bk K H b many bs ∧ (∀ x ∈ bs, InB many x) ∧ 0 ≤ many ∧ many ≤ 64 ∧ ∀ (H' : Hp) (lot : Int), Same H H' → InB many lot → Q (.int lot) H'
theorem InB.zero (many : Int) : InB many 0 := ⟨Int.le_refl 0, Int.pow_pos (by decide)⟩
end OL
namespace L2
open PySem PySem.Spec PyProof.Rows
theorem op_inK {X : Cx} (K : PySem.W.Frag) (hK : X.K = K) : OpR X (compareOp .In) (rIn K false) := by subst hK; exact op_in_seq
end L2

namespace OL
open PySem L2
/-! ### lots as sets of things -/
def Th (x : Int) (i : Nat) : Prop := x.toNat.testBit i = true
theorem th_and {x y : Int} (hx : 0 ≤ x) (hy : 0 ≤ y) (i : Nat) : Th (Builtin.bitAnd x y) i ↔ Th x i ∧ Th y i := by
  unfold Th
  rw [PyProof.Rows.bitAnd_pp hx hy, Int.toNat_natCast, Nat.testBit_and, Bool.and_eq_true]
theorem th_ext {x y : Int} (hx : 0 ≤ x) (hy : 0 ≤ y) (h : ∀ i, Th x i ↔ Th y i) : x = y := by
  have e : x.toNat = y.toNat := Nat.eq_of_testBit_eq fun i => by
    have := h i
    unfold Th at this
    cases h1 : x.toNat.testBit i <;> cases h2 : y.toNat.testBit i <;> simp_all
  omega
theorem and_nn {x y : Int} (hx : 0 ≤ x) (hy : 0 ≤ y) : 0 ≤ Builtin.bitAnd x y := by
  rw [PyProof.Rows.bitAnd_pp hx hy]; exact Int.natCast_nonneg _
theorem has_iff {x y : Int} (hx : 0 ≤ x) (hy : 0 ≤ y) : hasF x y = true ↔ ∀ i, Th y i → Th x i := by
  unfold hasF
  rw [beq_iff_eq]
  constructor
  · intro h i hi
    rw [← h] at hi
    exact ((th_and hx hy i).mp hi).1
  · intro h
    exact th_ext (and_nn hx hy) hy fun i => by
      rw [th_and hx hy]
      exact ⟨fun z => z.2, fun z => ⟨h i z, z⟩⟩
theorem InB.th {many x : Int} (h : InB many x) {i : Nat} (hi : Th x i) : i < many.toNat := by
  unfold Th at hi
  have h1 : x.toNat < 2 ^ many.toNat := by
    have : (2 : Int) ^ many.toNat = ((2 ^ many.toNat : Nat) : Int) := by push_cast; rfl
    have := h.2
    have := h.1
    omega
  by_cases hlt : i < many.toNat
  · exact hlt
  · have := Nat.testBit_lt_two_pow (Nat.lt_of_lt_of_le h1 (Nat.pow_le_pow_right (by decide) (Nat.le_of_not_lt hlt)))
    rw [this] at hi
    cases hi
theorem InB.of_th {many x : Int} (h0 : 0 ≤ x) (h : ∀ i, Th x i → i < many.toNat) : InB many x := by
  refine ⟨h0, ?_⟩
  have h1 : x.toNat < 2 ^ many.toNat := Nat.lt_pow_two_of_testBit _ fun i hi => by
    cases e : x.toNat.testBit i with
    | false => rfl
    | true => exact absurd (h i e) (Nat.not_lt.mpr hi)
  have : (2 : Int) ^ many.toNat = ((2 ^ many.toNat : Nat) : Int) := by push_cast; rfl
  omega
theorem or_pp {x y : Int} (hx : 0 ≤ x) (hy : 0 ≤ y) : Builtin.bitOr x y = ((x.toNat ||| y.toNat : Nat) : Int) := by
  have nn : ∀ z : Int, 0 ≤ z → ¬ 0 ≤ Builtin.bitNot z := fun z hz => by unfold Builtin.bitNot; omega
  have bb : ∀ z : Int, Builtin.bitNot (Builtin.bitNot z) = z := fun z => by unfold Builtin.bitNot; omega
  unfold Builtin.bitOr
  rw [PyProof.Rows.bitAnd_nn (nn x hx) (nn y hy), bb, bb, bb]
theorem th_or {x y : Int} (hx : 0 ≤ x) (hy : 0 ≤ y) (i : Nat) : Th (Builtin.bitOr x y) i ↔ Th x i ∨ Th y i := by
  unfold Th
  rw [or_pp hx hy, Int.toNat_natCast, Nat.testBit_or, Bool.or_eq_true]
theorem or_nn {x y : Int} (hx : 0 ≤ x) (hy : 0 ≤ y) : 0 ≤ Builtin.bitOr x y := by rw [or_pp hx hy]; exact Int.natCast_nonneg _
theorem th_pow (n i : Nat) : Th (1 * 2 ^ n) i ↔ i = n := by
  unfold Th
  have e : (1 * 2 ^ n : Int).toNat = 2 ^ n := by
    have : (2 : Int) ^ n = ((2 ^ n : Nat) : Int) := by push_cast; rfl
    rw [Int.one_mul, this]; exact Int.toNat_natCast _
  rw [e, Nat.testBit_two_pow, decide_eq_true_eq]
  exact eq_comm
/-! ### closings -/
structure BasOk (many : Int) (bs : List Int) : Prop where
  bas : ∀ x ∈ bs, InB many x
section
variable {many : Int} {bs : List Int} (hb : ∀ x ∈ bs, InB many x)
include hb
end
theorem filter_lt {α : Type} {p q : α → Bool} : ∀ {l : List α}, (∀ x ∈ l, p x = true → q x = true) → (∃ x ∈ l, q x = true ∧ p x = false) → (l.filter p).length < (l.filter q).length
  | [], _, ⟨x, hx, _⟩ => nomatch hx
  | y :: r, h, hx => by
    have hr : ∀ x ∈ r, p x = true → q x = true := fun x hx => h x (List.mem_cons_of_mem _ hx)
    have le : ∀ l : List α, (∀ x ∈ l, p x = true → q x = true) → (l.filter p).length ≤ (l.filter q).length := by
      intro l
      induction l with
      | nil => intro _; exact Nat.le_refl _
      | cons z s ih =>
        intro hz
        have i1 := ih fun x hx => hz x (List.mem_cons_of_mem _ hx)
        rw [List.filter_cons, List.filter_cons]
        cases hp : p z with
        | true => rw [hz z List.mem_cons_self hp]; simpa using i1
        | false =>
          cases q z with
          | true => simp; omega
          | false => simpa using i1
    obtain ⟨x, hm, h1, h2⟩ := hx
    rw [List.filter_cons, List.filter_cons]
    rcases List.mem_cons.mp hm with rfl | z
    · rw [h1, h2]
      have := le r hr
      simp; omega
    · have ih := filter_lt hr ⟨x, z, h1, h2⟩
      cases hp : p y with
      | true => rw [h y List.mem_cons_self hp]; simpa using ih
      | false =>
        cases q y with
        | true => simp; omega
        | false => simpa using ih
end OL
namespace OL
open PySem L2
end OL

namespace L2
open PySem PySem.Spec PyProof.Rows
section
variable {X : Cx}
/-! ### range(n) as a value, and its list -/
def rangeI (n : Nat) : List Int := (List.range n).map fun (i : Nat) => (i : Int)
end
/-! ### rows: lists of tuples of two ints -/
def Row (H : Hp) (x : V) (r : Int × Int) : Prop := ∃ p, x = .ref p ∧ H p = some (.tup [.int r.1, .int r.2])
def Rows (H : Hp) : List V → List (Int × Int) → Prop := Paired (Row H)
def TSame (H H' : Hp) : Prop := ∀ b xs, H b = some (.tup xs) → H' b = some (.tup xs)
theorem Same.t {H H' : Hp} (h : Same H H') : TSame H H' := fun b xs e => h b _ e
theorem TSame.trans {H H1 H2 : Hp} (a : TSame H H1) (b : TSame H1 H2) : TSame H H2 := fun c xs h => b c xs (a c xs h)
theorem tsame_upd {H : Hp} {l : Addr} {xs : List V} {o : HO} (h : H l = some (.lst xs)) : TSame H (upd H l o) := fun b ys e => by
  rw [upd_ne (ne_of e h (by intro z; cases z))]; exact e
theorem Row.same {H H' : Hp} {x : V} {r : Int × Int} (h : Row H x r) (S : TSame H H') : Row H' x r := by
  obtain ⟨p, rfl, e⟩ := h
  exact ⟨p, rfl, S _ _ e⟩
theorem Rows.same {H H' : Hp} {xs : List V} {rs : List (Int × Int)} (h : Rows H xs rs) (S : TSame H H') : Rows H' xs rs := Paired.imp' (fun _ _ z => z.same S) h
theorem Rows.length {H : Hp} {xs : List V} {rs : List (Int × Int)} (h : Rows H xs rs) : xs.length = rs.length := Paired.length h
theorem Rows.snoc {H : Hp} {xs : List V} {rs : List (Int × Int)} {x : V} {r : Int × Int} (h : Rows H xs rs) (z : Row H x r) : Rows H (xs ++ [x]) (rs ++ [r]) := Paired.snoc h z
def dRow (r : Int × Int) : PyData := .tuple [.int r.1, .int r.2]
/-! ### comprehensions that come to rows -/
def CPR (H1 : Hp) (R : Nat → List (Int × Int)) : Nat → List V → Hp → Prop := fun i ys H => Same H1 H ∧ Rows H ys (R i)
section
variable {n i : Nat} {acc : Addr} {H1 H H' : Hp} {R : Nat → List (Int × Int)} {ys : List V} {p : Addr} {r : Int × Int}
end
section
variable {K : PySem.W.Frag} {m : Nat} {js : List Nat} {g : TG} {c : TT} {te : TE} {σ : St} {H1 : Hp} {Q : VK}
end
end L2

namespace OL
open PySem L2
def oftenV (many : Int) (bs : List Int) (least lot : Int) : V := if countF bs lot < least then .non else .int (closeF many bs lot)
def isRow (many : Int) (bs : List Int) (least lot : Int) : Bool := decide (least ≤ countF bs lot) && (closeF many bs lot == lot)
def rowsU (many : Int) (bs : List Int) (least : Int) (n : Nat) : List (Int × Int) := ((List.range n).filter fun (i : Nat) => isRow many bs least (i : Int)).map fun (i : Nat) => ((i : Int), countF bs (i : Int))
def rowsF (many : Int) (bs : List Int) (least : Int) : List (Int × Int) := rowsU many bs least (2 ^ many.toNat)
def spAll : Sp := fun vs H Q _ => ∃ n : Int, vs = [.int n] ∧ 0 ≤ n ∧ n ≤ 12 ∧ ∀ (r : Addr) (H' : Hp), Same H H' → H r = none → H' r = some (.lst ((rangeI (2 ^ n.toNat)).map V.int)) → Q (.ref r) H'
def spOften (K : PySem.W.Frag) : Sp := fun vs H Q _ => ∃ (b : Addr) (many : Int) (bs : List Int) (least lot : Int), vs = [.ref b, .int least, .int lot] ∧ Bk K H b many bs ∧ bs.length ≤ 500 ∧ 0 ≤ many ∧ many ≤ 64 ∧ ∀ H', Same H H' → Q (oftenV many bs least lot) H'
def spClosed (K : PySem.W.Frag) : Sp := fun vs H Q _ => ∃ (b : Addr) (many : Int) (bs : List Int) (least : Int), vs = [.ref b, .int least] ∧ Bk K H b many bs ∧ bs.length ≤ 500 ∧ 0 ≤ many ∧ many ≤ 12 ∧ ∀ (r : Addr) (xs : List V) (H' : Hp), Same H H' → H r = none → H' r = some (.lst xs) → Rows H' xs (rowsF many bs least) → Q (.ref r) H'
theorem pow12 {n : Int} (h : n ≤ 12) : (2 : Nat) ^ n.toNat ≤ 4096 := by
  have : (2 : Nat) ^ n.toNat ≤ 2 ^ 12 := Nat.pow_le_pow_right (by decide) (by omega)
  exact this
theorem pow_cast (n : Nat) : (2 : Int) ^ n = ((2 ^ n : Nat) : Int) := by push_cast; rfl
end OL
namespace L2
open PySem PySem.Spec PyProof.Rows
theorem Rows.get {H : Hp} : ∀ {xs : List V} {rs : List (Int × Int)} {i : Nat} {x : V}, Rows H xs rs → xs[i]? = some x → ∃ r, Row H x r
  | _, _, _, _, .nil, e => by simp at e
  | _, _, 0, _, .cons r _, e => by simp at e; subst e; exact ⟨_, r⟩
  | _, _, i + 1, x, .cons _ t, e => Rows.get (i := i) (x := x) t (by simpa using e)
end L2
namespace OL
open PySem L2
def lotsU (many : Int) (bs : List Int) (n : Nat) : List Int := ((List.range n).filter fun (i : Nat) => closeF many bs (i : Int) == (i : Int)).map fun (i : Nat) => (i : Int)
/-- one entry of an early list of rows -/
def PairR (H : Hp) (e : Addr) (x : V) : Prop := ∃ (p t d : Addr) (xs ys : List V) (rs : List (Int × Int)), x = .ref p ∧ t ≠ e ∧ d ≠ e ∧ H p = some (.tup [.ref t, .ref d]) ∧ H t = some (.lst xs) ∧ H d = some (.lst ys) ∧ Rows H xs rs ∧ Rows H ys rs
theorem PairR.b {H H' : Hp} {e : Addr} {x : V} (h : PairR H e x) (S : SameB e H H') (T : TSame H H') : PairR H' e x := by
  obtain ⟨p, t, d, xs, ys, rs, rfl, h2, h3, h4, h5, h6, h7, h8⟩ := h
  exact ⟨p, t, d, xs, ys, rs, rfl, h2, h3, T _ _ h4, S _ _ h2 h5, S _ _ h3 h6, h7.same T, h8.same T⟩
end OL

namespace OL
open PySem L2
theorem SameB.t {l : Addr} {xs : List V} {H H' : Hp} (S : SameB l H H') (h : H l = some (.lst xs)) : TSame H H' := fun b ys e => S b _ (ne_of e h (by intro z; cases z)) e
def spMixed : Sp := fun vs H Q _ => ∃ (c k : Int), vs = [.int c, .int k] ∧ ∀ y : Int, 0 ≤ y → Q (.int y) H
def spPile (K : PySem.W.Frag) : Sp := fun vs H Q _ => ∃ (a : Addr) (ns : List Int) (k : Int), vs = [.ref a, .int k] ∧ SqL K H a (ns.map V.int) ∧ 0 ≤ k ∧ ∀ (r : Addr) (H' : Hp) (x y z : Int), Same H H' → H r = none → H' r = some (.lst [.int x, .int y, .int z]) → Q (.ref r) H'
def spTake : Sp := fun vs H Q _ => ∃ (p : Addr) (m x y z : Int), vs = [.ref p, .int m] ∧ 0 < m ∧ m < 1073741824 ∧ H p = some (.lst [.int x, .int y, .int z]) ∧ ∀ (d x' y' z' : Int) (H' : Hp), 0 ≤ d → d < m → SameB p H H' → H' p = some (.lst [.int x', .int y', .int z']) → Q (.int d) H'
structure BookP (many : Int) (bs : List Int) : Prop where
  lo : 1 ≤ many
  hi : many ≤ 8
  len : bs.length ≤ 14
  bas : ∀ x ∈ bs, InB many x
def spBookP (K : PySem.W.Frag) : Sp := fun vs H Q _ => ∃ (a : Addr) (ns : List Int) (k : Int), vs = [.ref a, .int k] ∧ SqL K H a (ns.map V.int) ∧ 0 ≤ k ∧
  ∀ (b l : Addr) (H' : Hp) (many : Int) (bs : List Int), Same H H' → H b = none → H l = none → H' b = some (.tup [.int many, .ref l]) → H' l = some (.lst (bs.map V.int)) → BookP many bs → Q (.ref b) H'
theorem mul01 (x : Int) (c : Bool) : CMul x (if c = true then 1 else 0) := .inr (by split <;> decide)
end OL

namespace L2
open PySem PySem.Spec PyProof.Rows
theorem mt_bits {X : Cx} : MtR X "int.bit_length" (fun x vs H Q => ∃ i : Int, x = .int i ∧ vs = [] ∧ Q (.int (Builtin.Int.intBits i : Nat)) H) := by
  intro pins s σ H x vs v us Q I rx rv h
  obtain ⟨i, rfl, rfl, q⟩ := h
  obtain ⟨t, rfl⟩ := rx
  cases rv
  exact call_int_bit_length ⟨.int (Builtin.Int.intBits i : Nat), H, I.tok _, ⟨_, rfl⟩, q⟩
end L2
namespace OL
open PySem L2
def upto (p : Int → Bool) (n : Nat) : List Int := ((List.range n).filter fun (i : Nat) => p (i : Int)).map fun (i : Nat) => (i : Int)
theorem upto_yes {p : Int → Bool} {n : Nat} (h : p (n : Int) = true) : upto p (n + 1) = upto p n ++ [(n : Int)] := by
  unfold upto
  rw [List.range_succ, List.filter_append, List.map_append, List.filter_cons, if_pos h]; rfl
theorem upto_no {p : Int → Bool} {n : Nat} (h : ¬ p (n : Int) = true) : upto p (n + 1) = upto p n := by
  unfold upto
  rw [List.range_succ, List.filter_append, List.map_append, List.filter_cons, if_neg h]
  exact List.append_nil _
theorem upto_len (p : Int → Bool) (n : Nat) : (upto p n).length ≤ n := by
  unfold upto
  rw [List.length_map]
  have h := List.length_filter_le (fun (i : Nat) => p (i : Int)) (List.range n)
  rw [List.length_range] at h
  exact h
def thingsF (lot : Int) : List Int := upto (fun t => hasF lot (1 * 2 ^ t.toNat)) (Builtin.Int.intBits lot)
def fewF (lot : Int) : List Int := (thingsF lot).map fun t => lot - 1 * 2 ^ t.toNat
def leastP (bs : List Int) (lot : Int) : Bool := (fewF lot).all fun f => !decide (countF bs f ≤ countF bs lot)
def hitL (bs : List Int) (lot : Int) (t : Nat) : Bool := (Builtin.bitAnd (lot / 2 ^ t) 1 == 1) && (countF bs (lot - 1 * 2 ^ t) == countF bs lot)
def leastL (many : Int) (bs : List Int) (lot : Int) : Bool := (List.range many.toNat).all fun t => !hitL bs lot t
theorem bit_iff {lot : Int} (h : 0 ≤ lot) (t : Nat) : (Builtin.bitAnd (lot / 2 ^ t) 1 == 1) = true ↔ Th lot t := by
  rw [PyProof.Rows.bitAnd_m1, beq_iff_eq]
  unfold Th
  rw [Nat.testBit_eq_decide_div_mod_eq, decide_eq_true_eq, pow_cast]
  have e : lot = ((lot.toNat : Nat) : Int) := by omega
  rw [e, Int.toNat_natCast]
  constructor
  · intro z
    have : ((lot.toNat / 2 ^ t % 2 : Nat) : Int) = 1 := by push_cast; exact_mod_cast z
    omega
  · intro z
    have : ((lot.toNat / 2 ^ t % 2 : Nat) : Int) = 1 := by omega
    exact_mod_cast this
theorem sub_th {x : Nat} {t : Nat} (h : x.testBit t = true) : x - 2 ^ t = x ^^^ 2 ^ t ∧ 2 ^ t ≤ x := by
  have e1 : (x ^^^ 2 ^ t) ||| 2 ^ t = x := Nat.eq_of_testBit_eq fun i => by
    rw [Nat.testBit_or, Nat.testBit_xor, Nat.testBit_two_pow]
    by_cases e : t = i
    · subst e; simp [h]
    · simp [e]
  have e2 : (x ^^^ 2 ^ t) &&& 2 ^ t = 0 := Nat.eq_of_testBit_eq fun i => by
    rw [Nat.testBit_and, Nat.testBit_xor, Nat.testBit_two_pow]
    by_cases e : t = i
    · subst e; simp [h]
    · simp [e]
  have e3 := PyProof.Rows.nat_or_add_and (x ^^^ 2 ^ t) (2 ^ t)
  rw [e1, e2] at e3
  omega
theorem bits_lt {lot : Int} (h : 0 ≤ lot) {t : Nat} (ht : Th lot t) : t < Builtin.Int.intBits lot := by
  unfold Builtin.Int.intBits
  have h1 : 2 ^ t ≤ lot.toNat := (sub_th ht).2
  have h2 : lot.natAbs = lot.toNat := by omega
  have h3 : 0 < lot.toNat := Nat.lt_of_lt_of_le (Nat.two_pow_pos t) h1
  have h4 : (lot == 0) = false := by rw [beq_eq_false_iff_ne]; omega
  rw [h4, h2]
  simp only [Bool.false_eq_true, if_false]
  have := (Nat.le_log2 (by omega : lot.toNat ≠ 0)).mpr h1
  omega
theorem bits_small {lot : Int} {n : Nat} (h : InB (n : Int) lot) : Builtin.Int.intBits lot ≤ n := by
  unfold Builtin.Int.intBits
  split
  · omega
  · rename_i hz
    have h1 := h.1
    have h2 := h.2
    rw [Int.toNat_natCast, pow_cast] at h2
    have h3 : lot.natAbs < 2 ^ n := by omega
    have h4 : lot.natAbs ≠ 0 := by
      intro z
      have : lot = 0 := by omega
      subst this
      exact hz rfl
    have := (Nat.log2_lt h4).mpr h3
    omega
end OL
namespace OL
open PySem L2
def Sm (x : Int) : Prop := 0 ≤ x ∧ x < 4096
theorem Sm.bits {x : Int} (h : Sm x) : Builtin.Int.intBits x ≤ 12 := bits_small (n := 12) ⟨h.1, h.2⟩
def withinF (lot : Int) : List Int := upto (fun i => hasF lot i) (lot + 1).toNat
def kinF (many : Int) (bs : List Int) (lot : Int) : List Int := (withinF lot).filter fun x => closeF many bs x == lot
def leastLF (many : Int) (bs : List Int) (lot : Int) : List Int := (kinF many bs lot).filter fun x => leastP bs x
def spHasT : Sp := fun vs H Q _ => ∃ lot t : Int, vs = [.int lot, .int t] ∧ 0 ≤ t ∧ t ≤ 64 ∧ Q (.bl (hasF lot (1 * 2 ^ t.toNat))) H
def spInts (g : Int → List Int) : Sp := fun vs H Q _ => ∃ lot : Int, vs = [.int lot] ∧ Sm lot ∧ ∀ (r : Addr) (H' : Hp), Same H H' → H r = none → H' r = some (.lst ((g lot).map V.int)) → Q (.ref r) H'
def spIsL (K : PySem.W.Frag) (g : Int → List Int → Int → Bool) : Sp := fun vs H Q _ => ∃ (b : Addr) (many : Int) (bs : List Int) (lot : Int), vs = [.ref b, .int lot] ∧ Bk K H b many bs ∧ bs.length ≤ 500 ∧ 0 ≤ many ∧ many ≤ 12 ∧ Sm lot ∧ ∀ H', Same H H' → Q (.bl (g many bs lot)) H'
def spBInts (K : PySem.W.Frag) (g : Int → List Int → Int → List Int) : Sp := fun vs H Q _ => ∃ (b : Addr) (many : Int) (bs : List Int) (lot : Int), vs = [.ref b, .int lot] ∧ Bk K H b many bs ∧ bs.length ≤ 500 ∧ 0 ≤ many ∧ many ≤ 12 ∧ Sm lot ∧ ∀ (r : Addr) (H' : Hp), Same H H' → H r = none → H' r = some (.lst ((g many bs lot).map V.int)) → Q (.ref r) H'
theorem few_len {lot : Int} (h : Sm lot) : (thingsF lot).length ≤ 12 := Nat.le_trans (upto_len _ _) h.bits
end OL
namespace OL
open PySem L2
def PairI (H : Hp) (e : Addr) (x : V) : Prop := ∃ (p t d : Addr) (ns : List Int), x = .ref p ∧ t ≠ e ∧ d ≠ e ∧ H p = some (.tup [.ref t, .ref d]) ∧ H t = some (.lst (ns.map V.int)) ∧ H d = some (.lst (ns.map V.int))
theorem PairI.b {H H' : Hp} {e : Addr} {x : V} (h : PairI H e x) (S : SameB e H H') (T : TSame H H') : PairI H' e x := by
  obtain ⟨p, t, d, ns, rfl, h2, h3, h4, h5, h6⟩ := h
  exact ⟨p, t, d, ns, rfl, h2, h3, T _ _ h4, S _ _ h2 h5, S _ _ h3 h6⟩
def spWholes : Sp := fun vs H Q _ => ∃ (f d : Addr) (ns : List Int), vs = [.ref f, .ref d] ∧ H f = some (.lst (ns.map V.int)) ∧ H d = some (.lst (ns.map V.int)) ∧ ∀ H', Same H H' → Q (.bl true) H'
def dueD (many : Int) (bs : List Int) (c i : Int) : Bool := (Builtin.bitAnd i c == i) && ((closeL many bs i == c) && leastL many bs i)
theorem InB.sm {many x : Int} (h : InB many x) (hm : many ≤ 12) : Sm x := by
  refine ⟨h.1, Int.lt_of_lt_of_le h.2 ?_⟩
  have := pow12 hm
  rw [pow_cast]; omega
end OL

namespace OL
open PySem L2
def spMeet : Sp := fun vs H Q _ => ∃ x y : Int, vs = [.int x, .int y] ∧ Q (.int (Builtin.bitAnd x y)) H
def spJoin (K : PySem.W.Frag) : Sp := fun vs H Q _ => ∃ (b : Addr) (many : Int) (bs : List Int) (x y : Int), vs = [.ref b, .int x, .int y] ∧ Bk K H b many bs ∧ bs.length ≤ 500 ∧ 0 ≤ many ∧ many ≤ 64 ∧ ∀ H', Same H H' → Q (.int (closeF many bs (Builtin.bitOr x y))) H'
def spRight (K : PySem.W.Frag) : Sp := fun vs H Q _ => ∃ (b : Addr) (many : Int) (bs : List Int) (x y : Int), vs = [.ref b, .int x, .int y] ∧ Bk K H b many bs ∧ bs.length ≤ 500 ∧ 0 ≤ many ∧ many ≤ 12 ∧ InB many x ∧ InB many y ∧ ∀ H', Same H H' → Q (.bl true) H'
def spCRight (K : PySem.W.Frag) : Sp := fun vs H Q _ => ∃ (b : Addr) (many : Int) (bs : List Int) (x y : Int), vs = [.ref b, .int x, .int y] ∧ Bk K H b many bs ∧ bs.length ≤ 500 ∧ 0 ≤ many ∧ many ≤ 12 ∧ (∀ x ∈ bs, InB many x) ∧ InB many x ∧ InB many y ∧ closeF many bs x = x ∧ closeF many bs y = y ∧ ∀ H', Same H H' → Q (.bl true) H'
section
variable {many : Int} {bs : List Int} (hb : ∀ x ∈ bs, InB many x)
include hb
end
end OL

namespace L2
open PySem PySem.Spec PyProof.Rows
section
variable {X : Cx}
end
section
variable {K : PySem.W.Frag} {m : Nat} {js : List Nat} {g : TG} {c : TT} {te : TE} {σ : St} {H1 : Hp} {Q : VK}
/-- a comprehension over a range whose turns change what they say -/
theorem comp_rangeG {lo : Int} {n : Nat} (Pv : Addr → Nat → List V → Hp → Prop) (h0 : ∀ acc, H1 acc = none → Pv acc 0 [] (upd H1 acc (.lst [])))
    (turn : ∀ acc i ys H, H1 acc = none → i < n → H acc = some (.lst ys) → Pv acc i ys H → g (.int (lo + (i : Nat))) (pick m js σ) H fun σ2 H2 => Wk (pick m js σ) σ2 ∧ c σ2 H2 fun b H3 => if b = true then te σ2 H3 fun y H4 => CPut n acc (Pv acc) i y H4 else CSkip n acc (Pv acc) i H3)
    (hQ : ∀ acc ys H, H1 acc = none → H acc = some (.lst ys) → Pv acc n ys H → Q (.ref acc) H) : tCompR m js g c te (Itr lo n) σ H1 Q := by
  intro acc hacc
  refine ⟨CW n acc (Pv acc), ⟨_, rfl, Nat.zero_le _, [], upd_same, h0 acc hacc⟩, ?_⟩
  rintro i m' H ⟨rfl, hi, ys, hy, p⟩
  by_cases hlt : i < n
  · refine .inr ⟨hlt, fun x H' y => ?_⟩
    obtain ⟨e, y⟩ := y
    subst e y
    exact turn acc i ys _ hacc hlt hy p
  · have e : i = n := by omega
    subst e
    exact .inl ⟨Nat.le_refl _, hQ acc ys H hacc hy p⟩
theorem cputG {n i : Nat} {acc : Addr} {Pv : Nat → List V → Hp → Prop} {H : Hp} {ys : List V} {y : V} (hlt : i < n) (h : H acc = some (.lst ys)) (hz : ys.length < sizeLine) (p : Pv (i + 1) (ys ++ [y]) (upd H acc (.lst (ys ++ [y])))) : CPut n acc Pv i y H :=
  ⟨ys, h, hz, n - (i + 1), by omega, rfl, hlt, ys ++ [y], upd_same, p⟩
end
end L2

namespace OL
open PySem L2
def colU (bs : List Int) (lot : Int) : Nat → Int
  | 0 => 0
  | n + 1 => if hasF (bs.getD n 0) lot then colU bs lot n + 1 * 2 ^ n else colU bs lot n
def colF (bs : List Int) (lot : Int) : Int := colU bs lot bs.length
def lotOf (ps : List Int) : Int := ps.foldl (fun acc p => Builtin.bitOr acc (1 * 2 ^ p.toNat)) 0
def colsU (bs : List Int) (n : Nat) : List Int := (List.range n).map fun (t : Nat) => colF bs (1 * 2 ^ t)
def spWith : Sp := fun vs H Q _ => ∃ (lot t : Int), vs = [.int lot, .int t] ∧ 0 ≤ t ∧ t ≤ 1000 ∧ Q (.int (Builtin.bitOr lot (1 * 2 ^ t.toNat))) H
def spLotOf (K : PySem.W.Frag) : Sp := fun vs H Q _ => ∃ (p : Addr) (ps : List Int), vs = [.ref p] ∧ SqL K H p (ps.map V.int) ∧ (∀ q ∈ ps, 0 ≤ q ∧ q ≤ 1000) ∧ Q (.int (lotOf ps)) H
def spCols (K : PySem.W.Frag) : Sp := fun vs H Q _ => ∃ (b : Addr) (many : Int) (bs : List Int), vs = [.ref b] ∧ Bk K H b many bs ∧ bs.length ≤ 500 ∧ 0 ≤ many ∧ many ≤ 64 ∧ ∀ (r : Addr) (H' : Hp), Same H H' → H r = none → H' r = some (.lst ((colsU bs many.toNat).map V.int)) → Q (.ref r) H'
def spPop62 : Sp := fun vs H Q _ => ∃ (l : Addr) (ds : List Int), vs = [.ref l] ∧ H l = some (.lst (ds.map V.int)) ∧ ∀ (d : Int) (ds' : List Int) (H' : Hp), SameB l H H' → H' l = some (.lst (ds'.map V.int)) → Q (.int d) H'
def spDraws62 (K : PySem.W.Frag) : Sp := fun vs H Q _ => ∃ (a : Addr) (ns : List Int) (tn mn : Int), vs = [.ref a, .int tn, .int mn] ∧ SqL K H a (ns.map V.int) ∧ ns.length ≤ 63 ∧ 0 ≤ tn ∧ tn ≤ 100 ∧ 0 ≤ mn ∧ mn ≤ 100 ∧ ∀ (r : Addr) (ds : List Int) (H' : Hp), Same H H' → H r = none → H' r = some (.lst (ds.map V.int)) → Q (.ref r) H'
def spBook62 : Sp := fun vs H Q _ => ∃ (l : Addr) (ds : List Int) (most : Int), vs = [.ref l, .int most] ∧ H l = some (.lst (ds.map V.int)) ∧ 1 ≤ most ∧ most ≤ 12 ∧
  ∀ (b bl : Addr) (many : Int) (bs ds' : List Int) (H' : Hp), SameB l H H' → H b = none → H bl = none → H' b = some (.tup [.int many, .ref bl]) → H' bl = some (.lst (bs.map V.int)) → H' l = some (.lst (ds'.map V.int)) → BookOk many bs most 24 → Q (.ref b) H'
def spCopy (K : PySem.W.Frag) : Sp := fun vs H Q _ => ∃ (b : Addr) (many : Int) (bs : List Int), vs = [.ref b] ∧ Bk K H b many bs ∧ ∀ (c cl : Addr) (H' : Hp), Same H H' → H c = none → H cl = none → H' c = some (.tup [.int many, .ref cl]) → H' cl = some (.lst (bs.map V.int)) → Q (.ref c) H'
end OL

namespace L2
open PySem PySem.Spec PyProof.Rows
section
variable {prog : Program} {w : World} {A : Around} {E : Value → Shared → Prop} {s : Shared}
/-! ### a list of two taken apart -/
end
section
variable {X : Cx}
def gLst2 (K : PySem.W.Frag) (t : TGs) : TG := fun v σ H Q => ∃ a x y, v = .ref a ∧ SqL K H a [x, y] ∧ t [x, y] σ H Q
/-! ### for .. in enumerate(list) -/
theorem for_enum {K : PySem.W.Frag} {a : Addr} {xs : List V} {g : TG} {tb : TS} {D : Ends} {σ : St} {H : Hp} (Pv : Nat → St → Hp → Prop) (h0 : Pv 0 σ H) (hl : ∀ i σ H, i ≤ xs.length → Pv i σ H → SqL K H a xs)
    (hs : ∀ i x p σ H, xs[i]? = some x → Pv i σ H → H p = none → g (.ref p) σ (upd H p (.tup [.int (i : Nat), x])) fun σ2 H2 => tb { D with nx := Pv (i + 1), ct := Pv (i + 1), bk := D.nx } σ2 H2) (hd : ∀ σ H, Pv xs.length σ H → D.nx σ H) :
    ∃ W : Nat → Nat → St → Hp → Prop, (∃ m, W 0 m σ H) ∧ ∀ i m σ H, W i m σ H →
      ((Ite K a).stop i H ∧ D.nx σ H) ∨ ((Ite K a).go i H ∧ ∃ N : St → Hp → Prop, (∀ σ' H', N σ' H' → ∃ m', m' < m ∧ W (i + 1) m' σ' H') ∧ ∀ x H', (Ite K a).yld i H x H' → g x σ H' fun σ2 H2 => tb { D with nx := N, ct := N, bk := D.nx } σ2 H2) := by
  refine ⟨fun i m σ H => m = xs.length - i ∧ i ≤ xs.length ∧ Pv i σ H, ⟨xs.length, by simp, Nat.zero_le _, h0⟩, ?_⟩
  rintro i m σ H ⟨rfl, hi, p⟩
  have q := hl i σ H hi p
  by_cases hlt : i < xs.length
  · refine .inr ⟨⟨xs, xs[i], q, by simp [hlt]⟩, Pv (i + 1), fun σ' H' p' => ⟨xs.length - (i + 1), by omega, rfl, hlt, p'⟩, fun x H' y => ?_⟩
    obtain ⟨pp, v, e1, hp, e2, y⟩ := y
    subst e1 e2
    exact hs i v pp σ _ (y xs q) p hp
  · have e : i = xs.length := by omega
    subst e
    exact .inl ⟨⟨xs, q, Nat.le_refl _⟩, hd σ H p⟩
end
end L2

namespace L2
open PySem PySem.Spec PyProof.Rows
theorem Rows.getD {H : Hp} : ∀ {xs : List V} {rs : List (Int × Int)} {i : Nat} {x : V}, Rows H xs rs → xs[i]? = some x → Row H x (rs.getD i (0, 0))
  | _, _, _, _, .nil, e => by simp at e
  | _, _, 0, _, .cons r _, e => by simp at e; subst e; exact r
  | _, _, i + 1, x, .cons _ t, e => by
    have := Rows.getD (i := i) (x := x) t (by simpa using e)
    simpa using this
theorem Rows.at {H : Hp} {xs : List V} {rs : List (Int × Int)} {i : Nat} (h : Rows H xs rs) (hi : i < rs.length) : ∃ p, xs[i]? = some (.ref p) ∧ H p = some (.tup [.int (rs.getD i (0, 0)).1, .int (rs.getD i (0, 0)).2]) := by
  have hl := h.length
  have e : xs[i]? = some xs[i] := List.getElem?_eq_getElem (by omega)
  obtain ⟨p, e2, hp⟩ := Rows.getD h e
  exact ⟨p, by rw [e, e2], hp⟩
end L2
namespace OL
open PySem L2
def takeB (lot : Int) (r : Int × Int) : Bool := hasF lot r.1 && !hasF lot r.2
def ptF (rs : List (Int × Int)) (lot : Int) : Option Nat := rs.findIdx? (takeB lot)
def ptV : Option Nat → V
  | none => .non
  | some i => .int (i : Nat)
def unsat (rs : List (Int × Int)) (lot : Int) : Nat := (rs.filter fun r => !hasF lot r.2).length
def sndF (rs : List (Int × Int)) (i : Nat) : Int := (rs.getD i (0, 0)).2
def bF (rs : List (Int × Int)) : Nat → Int → Int × List Int
  | 0, lot => (lot, [])
  | n + 1, lot => match ptF rs lot with
    | none => (lot, [])
    | some i => ((bF rs n (Builtin.bitOr lot (sndF rs i))).1, ((i : Nat) : Int) :: (bF rs n (Builtin.bitOr lot (sndF rs i))).2)
def NN (rs : List (Int × Int)) : Prop := ∀ r ∈ rs, 0 ≤ r.1 ∧ 0 ≤ r.2
section
variable {rs : List (Int × Int)} {lot : Int} {i n : Nat}
theorem bF_some (h : ptF rs lot = some i) : bF rs (n + 1) lot = ((bF rs n (Builtin.bitOr lot (sndF rs i))).1, ((i : Nat) : Int) :: (bF rs n (Builtin.bitOr lot (sndF rs i))).2) := by
  show (match ptF rs lot with | none => _ | some i => _) = _; rw [h]
theorem getD_at (hi : i < rs.length) : rs.getD i (0, 0) = rs[i] := by rw [List.getD_eq_getElem?_getD, List.getElem?_eq_getElem hi]; rfl
theorem pt_get (h : ptF rs lot = some i) : i < rs.length ∧ takeB lot (rs.getD i (0, 0)) = true := by
  unfold ptF at h
  rw [List.findIdx?_eq_some_iff_getElem] at h
  obtain ⟨hi, h1, _⟩ := h
  exact ⟨hi, by rw [getD_at hi]; exact h1⟩
theorem snd_nn (hr : NN rs) (hi : i < rs.length) : 0 ≤ sndF rs i := by
  unfold sndF; rw [getD_at hi]; exact (hr _ (List.getElem_mem hi)).2
theorem unsat_lt (hr : NN rs) (hl : 0 ≤ lot) (h : ptF rs lot = some i) : unsat rs (Builtin.bitOr lot (sndF rs i)) < unsat rs lot := by
  obtain ⟨hi, ht⟩ := pt_get h
  have hs := snd_nn hr hi
  have ho := or_nn hl hs
  unfold unsat
  refine filter_lt (fun x hx hp => ?_) ⟨rs[i], List.getElem_mem hi, ?_, ?_⟩
  · have hx0 := (hr x hx).2
    rw [Bool.not_eq_true'] at hp ⊢
    cases e : hasF lot x.2 with
    | false => rfl
    | true =>
      rw [has_iff hl hx0] at e
      rw [← hp]
      exact ((has_iff ho hx0).mpr fun j hj => (th_or hl hs j).mpr (.inl (e j hj))).symm
  · have := (Bool.and_eq_true_iff.mp ht).2
    rw [getD_at hi] at this
    exact this
  · have hx0 := (hr _ (List.getElem_mem hi)).2
    have : hasF (Builtin.bitOr lot (sndF rs i)) rs[i].2 = true := (has_iff ho hx0).mpr fun j hj => (th_or hl hs j).mpr (.inr (by unfold sndF; rw [getD_at hi]; exact hj))
    rw [this]; rfl
structure Run (rs : List (Int × Int)) (lot0 : Int) (m : Nat) (come : Int) (st : List Int) : Prop where
  un : unsat rs come ≤ m
  nn : 0 ≤ come
  eq : bF rs rs.length lot0 = ((bF rs m come).1, st ++ (bF rs m come).2)
  ln : st.length + m ≤ rs.length
theorem Run.step (hr : NN rs) {lot0 : Int} {m : Nat} {come : Int} {st : List Int} (R : Run rs lot0 m come st) (h : ptF rs come = some i) : ∃ m', Run rs lot0 m' (Builtin.bitOr come (sndF rs i)) (st ++ [((i : Nat) : Int)]) := by
  have hu := unsat_lt hr R.nn h
  have := R.un
  obtain ⟨m', rfl⟩ : ∃ m', m = m' + 1 := ⟨m - 1, by omega⟩
  refine ⟨m', by omega, or_nn R.nn (snd_nn hr (pt_get h).1), ?_, ?_⟩
  · rw [R.eq, bF_some h]
    simp
  · have := R.ln
    rw [List.length_append]; show st.length + 1 + m' ≤ _; omega
end
def RL (H : Hp) (a : Addr) (rs : List (Int × Int)) : Prop := ∃ xs, H a = some (.lst xs) ∧ Rows H xs rs
theorem RL.same {H H' : Hp} {a : Addr} {rs : List (Int × Int)} (h : RL H a rs) (S : Same H H') : RL H' a rs := by
  obtain ⟨xs, h1, h2⟩ := h
  exact ⟨xs, S _ _ h1, h2.same S.t⟩
def spPlace : Sp := fun vs H Q _ => ∃ (a : Addr) (rs : List (Int × Int)) (lot : Int), vs = [.ref a, .int lot] ∧ RL H a rs ∧ ∀ H', Same H H' → Q (ptV (ptF rs lot)) H'
def spBrought : Sp := fun vs H Q _ => ∃ (a : Addr) (rs : List (Int × Int)) (lot : Int), vs = [.ref a, .int lot] ∧ RL H a rs ∧ rs.length ≤ 100 ∧ NN rs ∧ 0 ≤ lot ∧
  ∀ (t s : Addr) (H' : Hp), Same H H' → H t = none → H s = none → H' t = some (.tup [.int (bF rs rs.length lot).1, .ref s]) → H' s = some (.lst ((bF rs rs.length lot).2.map V.int)) → Q (.ref t) H'
def spRulesL : Sp := fun vs H Q _ => ∃ (c many most : Int), vs = [.int c, .int many, .int most] ∧ 0 ≤ many ∧ many ≤ 12 ∧ 0 ≤ most ∧ most ≤ 20 ∧
  ∀ (r : Addr) (rs : List (Int × Int)) (H' : Hp), Same H H' → H r = none → RL H' r rs → (rs.length : Int) ≤ most → (∀ x ∈ rs, Sm x.1 ∧ Sm x.2) → Q (.ref r) H'
def shR (f : Int) (r : Int × Int) : Int × Int := (r.1 * 2 ^ f.toNat, r.2 * 2 ^ f.toNat)
/-- an early one: two tuples of a lot and steps -/
def PairB (H : Hp) (e : Addr) (x : V) : Prop := ∃ (p t d s1 s2 : Addr) (c : Int) (ns : List Int), x = .ref p ∧ s1 ≠ e ∧ s2 ≠ e ∧ H p = some (.tup [.ref t, .ref d]) ∧ H t = some (.tup [.int c, .ref s1]) ∧ H d = some (.tup [.int c, .ref s2]) ∧ H s1 = some (.lst (ns.map V.int)) ∧ H s2 = some (.lst (ns.map V.int))
theorem PairB.b {H H' : Hp} {e : Addr} {x : V} (h : PairB H e x) (S : SameB e H H') (T : TSame H H') : PairB H' e x := by
  obtain ⟨p, t, d, s1, s2, c, ns, rfl, n1, n2, h1, h2, h3, h4, h5⟩ := h
  exact ⟨p, t, d, s1, s2, c, ns, rfl, n1, n2, T _ _ h1, T _ _ h2, T _ _ h3, S _ _ n1 h4, S _ _ n2 h5⟩
def spWithin : Sp := fun vs H Q _ => ∃ x y : Int, vs = [.int x, .int y] ∧ Q (.bl (Builtin.bitAnd x y == x)) H
end OL

namespace L2
open PySem PySem.Spec PyProof.Rows
/-! ### list(reversed(x)) of a list -/
section
variable {prog : Program} {w : World} {A : Around} {s : Shared} {R : Result → Shared → Prop} {it : Addr} {fp wr : List Addr} {GG : Array GenState → Array GenState → Prop} {n : Nat} {PP : Nat → Value → Prop} {St : Nat → Shared → Prop}
end
section
variable {prog : Program} {w : World} {A : Around} {E : Value → Shared → Prop} {s : Shared}
end
section
variable {X : Cx}
/-- list(reversed(x)), x a list -/
def tLRev (K : PySem.W.Frag) (ta : TA) : TE := fun σ H Q => ta σ H fun vs H1 => ∃ a xs, vs = [.ref a] ∧ SqL K H1 a xs ∧ ∀ l, H1 l = none → Q (.ref l) (upd H1 l (.lst xs.reverse))
/-! ### for .. in reversed(list) -/
def Itv (K : PySem.W.Frag) (a : Addr) (n : Nat) : It := ⟨fun i H => i < n ∧ ∃ xs, SqL K H a xs ∧ xs.length = n, fun i H x H' => H' = H ∧ ∀ xs, SqL K H a xs → xs[n - 1 - i]? = some x, fun i _ => i = n⟩
def iRev (K : PySem.W.Frag) (ta : TA) : TI := fun σ H R => ta σ H fun vs H1 => ∃ a xs, vs = [.ref a] ∧ SqL K H1 a xs ∧ R (Itv K a xs.length) H1
end
end L2

namespace OL
open PySem L2
def overF (x y : Int) : Bool := (!decide (x = y)) && hasF x y
def nextL (ls : List Int) (x y : Int) : Bool := overF x y && (ls.filter fun m => overF x m && overF m y).isEmpty
def keepB (ls : List Int) (T : Int → Bool) (R : Int → Int → Bool) (x : Int) : Bool := T x && !(ls.any fun m => R x m && T m)
theorem has_le {x y : Int} (hx : 0 ≤ x) (hy : 0 ≤ y) (h : hasF x y = true) : y ≤ x := by
  unfold hasF at h
  have e := beq_iff_eq.mp h
  rw [PyProof.Rows.bitAnd_pp hx hy] at e
  have : x.toNat &&& y.toNat ≤ x.toNat := Nat.and_le_left
  omega
theorem over_lt {x y : Int} (hx : 0 ≤ x) (hy : 0 ≤ y) (h : overF x y = true) : y < x := by
  unfold overF at h
  have h1 := (Bool.and_eq_true_iff.mp h).1
  have h2 := has_le hx hy (Bool.and_eq_true_iff.mp h).2
  have h3 : x ≠ y := by simpa using h1
  omega
structure Rise (ls : List Int) : Prop where
  up : ls.Pairwise (· < ·)
  nn : ∀ x ∈ ls, 0 ≤ x
theorem Rise.at {ls : List Int} (h : Rise ls) {i j : Nat} (hi : i < ls.length) (hj : j < ls.length) (hlt : ls[j] < ls[i]) : j < i := by
  by_cases hh : j < i
  · exact hh
  · by_cases e : j = i
    · subst e; omega
    · have := List.pairwise_iff_getElem.mp h.up i j hi hj (by omega)
      omega
def abT (lot : Int) (x : Int) : Bool := overF x lot
def beT (lot : Int) (x : Int) : Bool := overF lot x
def spLotsOf : Sp := fun vs H Q _ => ∃ (a : Addr) (rs : List (Int × Int)), vs = [.ref a] ∧ RL H a rs ∧ rs.length ≤ 5000 ∧ ∀ (r : Addr) (H' : Hp), Same H H' → H r = none → H' r = some (.lst ((rs.map Prod.fst).map V.int)) → Q (.ref r) H'
def spAny (K : PySem.W.Frag) (g : Int → Int → Bool) : Sp := fun vs H Q _ => ∃ (x : Int) (o : Addr) (ts : List Int), vs = [.int x, .ref o] ∧ SqL K H o (ts.map V.int) ∧ Q (.bl (ts.any fun t => g x t)) H
def spNb (g : List Int → Int → Int → Bool) : Sp := fun vs H Q _ => ∃ (a : Addr) (rs : List (Int × Int)) (lot : Int), vs = [.ref a, .int lot] ∧ RL H a rs ∧ rs.length ≤ 5000 ∧ Rise (rs.map Prod.fst) ∧ 0 ≤ lot ∧
  ∀ (r : Addr) (H' : Hp), Same H H' → H r = none → H' r = some (.lst (((rs.map Prod.fst).filter fun x => g (rs.map Prod.fst) x lot).map V.int)) → Q (.ref r) H'
def spOver : Sp := fun vs H Q _ => ∃ x y : Int, vs = [.int x, .int y] ∧ Q (.bl (overF x y)) H
def spNextL (K : PySem.W.Frag) : Sp := fun vs H Q _ => ∃ (o : Addr) (ls : List Int) (x y : Int), vs = [.ref o, .int x, .int y] ∧ SqL K H o (ls.map V.int) ∧ ls.length ≤ 5000 ∧ ∀ H', Same H H' → Q (.bl (nextL ls x y)) H'
end OL

namespace L2
open PySem PySem.Spec PyProof.Rows
section
variable {X : Cx}
/-! ### str of a list or tuple of data -/
end
end L2

namespace OL
open PySem L2
def gcdF (x y : Int) : Int := (Nat.gcd x.toNat y.toNat : Nat)
def shA (t b : Int) : List Int := [t / gcdF t b, b / gcdF t b]
/-- the share of t in b: nothing where b is nought, else a tuple -/
def Sh (K : PySem.W.Frag) (H : Hp) (v : V) (t b : Int) : Prop := (b = 0 ∧ v = .non) ∨ (0 < b ∧ ∃ p, v = .ref p ∧ H p = some (.tup ((shA t b).map V.int)))
def shD (t b : Int) : PyData := if b = 0 then .none else .tuple ((shA t b).map PyData.int)
theorem Sh.same {K : PySem.W.Frag} {H H' : Hp} {v : V} {t b : Int} (h : Sh K H v t b) (S : Same H H') : Sh K H' v t b := by
  rcases h with h | ⟨h, p, e, z⟩
  · exact .inl h
  · exact .inr ⟨h, p, e, S _ _ z⟩
/-- a rule: a tuple of two lots -/
def Rl (K : PySem.W.Frag) (H : Hp) (r : Addr) (x y : Int) : Prop := SqT K H r [.int x, .int y]
def spRuleC (K : PySem.W.Frag) (g : List Int → Int → Int → V) : Sp := fun vs H Q _ => ∃ (b r : Addr) (many : Int) (bs : List Int) (x y : Int), vs = [.ref b, .ref r] ∧ Bk K H b many bs ∧ Rl K H r x y ∧ bs.length ≤ 500 ∧ 0 ≤ many ∧ many ≤ 64 ∧ ∀ H', Same H H' → Q (g bs x y) H'
def spShare (K : PySem.W.Frag) : Sp := fun vs H Q _ => ∃ (b r : Addr) (many : Int) (bs : List Int) (x y : Int), vs = [.ref b, .ref r] ∧ Bk K H b many bs ∧ Rl K H r x y ∧ bs.length ≤ 500 ∧ 0 ≤ many ∧ many ≤ 64 ∧ ∀ v H', Same H H' → Sh K H' v (countF bs (Builtin.bitOr x y)) (countF bs x) → Q v H'
def spLow : Sp := fun vs H Q _ => ∃ (t b : Int), vs = [.int t, .int b] ∧ 0 ≤ t ∧ 0 < b ∧ b ≤ 500 ∧ ∀ p, H p = none → Q (.ref p) (upd H p (.tup ((shA t b).map V.int)))
def spDivL : Sp := fun vs H Q _ => ∃ (x y : Int), vs = [.int x, .int y] ∧ 0 ≤ x ∧ 0 ≤ y ∧ Q (.int (gcdF x y)) H
end OL

namespace OL
open PySem L2
def stepL (ls : List Int) (cur other : Int) : List Int := (ls.filter fun x => nextL ls x cur).filter fun x => hasF other x
theorem next_over {ls : List Int} {x y : Int} (h : nextL ls x y = true) : overF x y = true := (Bool.and_eq_true_iff.mp h).1
def lastF (w : List Int) : Int := w.getD (w.length - 1) 0
structure WayP (ls : List Int) (one other : Int) (w : List Int) : Prop where
  pos : 0 < w.length
  first : w.getD 0 0 = one
  mem : ∀ x ∈ w, x ∈ ls
  steps : ∀ j, j + 1 < w.length → nextL ls (w.getD (j + 1) 0) (w.getD j 0) = true
  inn : hasF other (lastF w) = true
  len : (w.length : Int) ≤ lastF w + 1
theorem lastF_mem {w : List Int} (h : 0 < w.length) : lastF w ∈ w := getD_mem (by omega)
theorem last_app (w : List Int) (x : Int) : lastF (w ++ [x]) = x := by
  unfold lastF
  rw [List.getD_eq_getElem?_getD, List.length_append]
  show ((w ++ [x])[w.length + 1 - 1]?).getD 0 = x
  rw [Nat.add_sub_cancel, List.getElem?_append_right (Nat.le_refl _), Nat.sub_self]; rfl
theorem getD_app {w : List Int} {x : Int} {j : Nat} (h : j < w.length) : (w ++ [x]).getD j 0 = w.getD j 0 := by
  rw [List.getD_eq_getElem?_getD, List.getD_eq_getElem?_getD, List.getElem?_append_left h]
theorem getD_end {w : List Int} {x : Int} : (w ++ [x]).getD w.length 0 = x := by
  rw [List.getD_eq_getElem?_getD, List.getElem?_append_right (Nat.le_refl _), Nat.sub_self]; rfl
theorem WayP.step {ls : List Int} (h : Rise ls) {one other : Int} {w : List Int} (R : WayP ls one other w) {x : Int} (hx : x ∈ ls) (hn : nextL ls x (lastF w) = true) (hi : hasF other x = true) : WayP ls one other (w ++ [x]) := by
  have hl := over_lt (h.nn _ hx) (h.nn _ (R.mem _ (lastF_mem R.pos))) (next_over hn)
  have := R.pos
  refine ⟨by rw [List.length_append]; show 0 < _ + 1; omega, by rw [getD_app R.pos]; exact R.first, fun y hy => ?_, fun j hj => ?_, by rw [last_app]; exact hi, ?_⟩
  · rcases List.mem_append.mp hy with z | z
    · exact R.mem y z
    · have : y = x := by simpa using z
      rw [this]; exact hx
  · rw [List.length_append] at hj
    have hj' : j + 1 < w.length + 1 := hj
    by_cases e : j + 1 = w.length
    · have ej : j = w.length - 1 := by omega
      rw [getD_app (show j < w.length by omega), e, getD_end, ej]
      exact hn
    · rw [getD_app (by omega), getD_app (by omega)]
      exact R.steps j (by omega)
  · rw [last_app, List.length_append]
    have := R.len
    show ((w.length + 1 : Nat) : Int) ≤ x + 1
    omega
def spStep (K : PySem.W.Frag) : Sp := fun vs H Q _ => ∃ (a : Addr) (rs : List (Int × Int)) (lot other : Int), vs = [.ref a, .int lot, .int other] ∧ RL H a rs ∧ rs.length ≤ 5000 ∧ Rise (rs.map Prod.fst) ∧ lot ∈ rs.map Prod.fst ∧ other ∈ rs.map Prod.fst ∧ overF other lot = true ∧
  ∀ (x : Int) (H' : Hp), Same H H' → x ∈ rs.map Prod.fst → nextL (rs.map Prod.fst) x lot = true → hasF other x = true → Q (.int x) H'
def spWay (K : PySem.W.Frag) : Sp := fun vs H Q _ => ∃ (a : Addr) (rs : List (Int × Int)) (one other : Int), vs = [.ref a, .int one, .int other] ∧ RL H a rs ∧ rs.length ≤ 5000 ∧ Rise (rs.map Prod.fst) ∧ one ∈ rs.map Prod.fst ∧ other ∈ rs.map Prod.fst ∧ hasF other one = true ∧ other < 4000 ∧
  ∀ (r : Addr) (w : List Int) (H' : Hp), Same H H' → H r = none → H' r = some (.lst (w.map V.int)) → WayP (rs.map Prod.fst) one other w → lastF w = other → Q (.ref r) H'
def spIsWay : Sp := fun vs H Q _ => ∃ (a f : Addr) (rs : List (Int × Int)) (w : List Int) (one other : Int), vs = [.ref a, .ref f, .int one, .int other] ∧ RL H a rs ∧ rs.length ≤ 5000 ∧ Rise (rs.map Prod.fst) ∧ H f = some (.lst (w.map V.int)) ∧ w.length ≤ 4100 ∧ WayP (rs.map Prod.fst) one other w ∧ lastF w = other ∧ ∀ H', Same H H' → Q (.bl true) H'
end OL

namespace L2
open PySem PySem.Spec PyProof.Rows
/-! gt# max(list of ints, default=None) -/
section
variable {prog : Program} {w : World} {A : Around} {R : Result → Shared → Prop} {it : Addr} {fp wr : List Addr} {n : Nat} {PP : Nat → Value → Prop} {St : Nat → Heap → Prop}
end
section
variable {X : Cx}
/-- the value: None of none, else the best of the ints -/
def bstmax (ns : List Int) : Nat → Int
  | 0 => ns.getD 0 0
  | j + 1 => if ns.getD (j + 1) 0 > bstmax ns j then ns.getD (j + 1) 0 else bstmax ns j
def valmax (ns : List Int) : V := if ns.length = 0 then .non else .int (bstmax ns (ns.length - 1))
def tDvmax (K : PySem.W.Frag) (ta : TA) : TE := fun σ H Q => ta σ H fun vs H1 => ∃ a ns, vs = [.ref a] ∧ SqL K H1 a (ns.map V.int) ∧ Q (valmax ns) H1
end
/-! lt# min(list of ints, default=None) -/
section
variable {prog : Program} {w : World} {A : Around} {R : Result → Shared → Prop} {it : Addr} {fp wr : List Addr} {n : Nat} {PP : Nat → Value → Prop} {St : Nat → Heap → Prop}
end
section
variable {X : Cx}
/-- the value: None of none, else the best of the ints -/
def bstmin (ns : List Int) : Nat → Int
  | 0 => ns.getD 0 0
  | j + 1 => if ns.getD (j + 1) 0 < bstmin ns j then ns.getD (j + 1) 0 else bstmin ns j
def valmin (ns : List Int) : V := if ns.length = 0 then .non else .int (bstmin ns (ns.length - 1))
def tDvmin (K : PySem.W.Frag) (ta : TA) : TE := fun σ H Q => ta σ H fun vs H1 => ∃ a ns, vs = [.ref a] ∧ SqL K H1 a (ns.map V.int) ∧ Q (valmin ns) H1
end
end L2

namespace L2
open PySem PySem.Spec PyProof.Rows
section
variable {X : Cx}
def rSumI (K : PySem.W.Frag) : List V → Hp → VK → Prop := fun xs H Q => ∃ (p : Addr) (ns : List Int), xs = [.ref p] ∧ SqL K H p (ns.map V.int) ∧ Q (.int (List.sum ns)) H
/-- sorted of a list of fewer than 64 whole numbers -/
def rSortI (K : PySem.W.Frag) : List V → Hp → VK → Prop := fun xs H Q => ∃ (p : Addr) (ns : List Int), xs = [.ref p] ∧ SqL K H p (ns.map V.int) ∧ ns.length < 64 ∧ ∀ (l : Addr) (ns' : List Int), H l = none → ns'.Perm ns → ns'.Pairwise (· ≤ ·) → Q (.ref l) (upd H l (.lst (ns'.map V.int)))
end
end L2

namespace OL
open PySem L2
def eqN (bs : List Int) (x : Int) : Nat := (bs.filter fun b => b == x).length
def jmany (told : List (Int × Int)) (row : Int × Int) : Int := row.2 - ((told.filter fun o => hasF o.1 row.1).map Prod.snd).sum
def jstep (told : List (Int × Int)) (row : Int × Int) : List (Int × Int) := if jmany told row > 0 then told ++ [(row.1, jmany told row)] else told
def justF (cl : List (Int × Int)) : List (Int × Int) := (cl.reverse.foldl jstep []).reverse
def baskF (rs : List (Int × Int)) : List Int := rs.flatMap fun r => List.replicate r.2.toNat r.1
def isBk (bs : List Int) (i : Nat) : Bool := decide (0 < eqN bs (i : Int))
def bkRow (bs : List Int) (i : Nat) : Int × Int := ((i : Int), (eqN bs (i : Int) : Int))
def justU (bs : List Int) (n : Nat) : List (Int × Int) := ((List.range n).filter (isBk bs)).map (bkRow bs)
section
variable {many : Int} {bs : List Int} (hb : ∀ x ∈ bs, InB many x)
include hb
end
end OL
namespace OL
open PySem L2
def spJust : Sp := fun vs H Q _ => ∃ (a : Addr) (rs : List (Int × Int)), vs = [.ref a] ∧ RL H a rs ∧ rs.length ≤ 1000 ∧ ∀ (r : Addr) (xs : List V) (H' : Hp), Same H H' → H r = none → H' r = some (.lst xs) → Rows H' xs (justF rs) → Q (.ref r) H'
def spBaskets : Sp := fun vs H Q _ => ∃ (a : Addr) (rs : List (Int × Int)), vs = [.ref a] ∧ RL H a rs ∧ rs.length ≤ 1000 ∧ (∀ r ∈ justF rs, 0 ≤ r.2 ∧ r.2 ≤ 100) ∧ (baskF (justF rs)).length ≤ 1000 ∧ ∀ (r : Addr) (H' : Hp), Same H H' → H r = none → H' r = some (.lst ((baskF (justF rs)).map V.int)) → Q (.ref r) H'
end OL

namespace L2
open PySem PySem.Spec PyProof.Rows
/-! ### lists of pairs as tables -/
section
variable {κ : Type} [DecidableEq κ]
def valV (kvs : List (κ × V)) (k : κ) : Option V := (kvs.find? fun kv => decide (kv.1 = k)).map (·.2)
/-- in its place, or at the end -/
def putK (kvs : List (κ × V)) (k : κ) (v : V) : List (κ × V) :=
  if (kvs.any fun kv => decide (kv.1 = k)) = true then kvs.map (fun kv => if kv.1 = k then (kv.1, v) else kv) else kvs ++ [(k, v)]
def dropK (kvs : List (κ × V)) (k : κ) : List (κ × V) := kvs.filter fun kv => decide (kv.1 ≠ k)

theorem valV_pos {p : κ × V} {r : List (κ × V)} {k : κ} (e : p.1 = k) : valV (p :: r) k = some p.2 := by simp [valV, List.find?_cons, e]
theorem valV_neg {p : κ × V} {r : List (κ × V)} {k : κ} (e : ¬ p.1 = k) : valV (p :: r) k = valV r k := by simp [valV, List.find?_cons, e]
theorem valV_any (k : κ) : ∀ kvs : List (κ × V), (kvs.any fun kv => decide (kv.1 = k)) = (valV kvs k).isSome
  | [] => rfl
  | p :: r => by
    rw [List.any_cons]
    by_cases e : p.1 = k
    · simp only [valV_pos e, decide_eq_true e, Bool.true_or, Option.isSome_some]
    · rw [valV_neg e, decide_eq_false e, Bool.false_or]; exact valV_any k r
theorem valV_map (k j : κ) (y : V) : ∀ kvs : List (κ × V), valV (kvs.map fun kv => if kv.1 = k then (kv.1, y) else kv) j = (valV kvs j).map fun x => if j = k then y else x
  | [] => rfl
  | p :: r => by
    have ih := valV_map k j y r
    rw [List.map_cons]
    by_cases h : p.1 = k
    · rw [if_pos h]
      by_cases e : p.1 = j
      · rw [valV_pos (p := (p.1, y)) e, valV_pos e, Option.map_some, if_pos (e.symm.trans h)]
      · rw [valV_neg (p := (p.1, y)) e, valV_neg e, ih]
    · rw [if_neg h]
      by_cases e : p.1 = j
      · rw [valV_pos (p := p) e, valV_pos e, Option.map_some, if_neg (fun z => h (e.trans z))]
      · rw [valV_neg (p := p) e, valV_neg e, ih]
theorem valV_snoc (k j : κ) (y : V) : ∀ kvs : List (κ × V), valV kvs k = none → valV (kvs ++ [(k, y)]) j = if j = k then some y else valV kvs j
  | [], _ => by
    by_cases e : k = j
    · rw [if_pos e.symm]; exact valV_pos (p := (k, y)) e
    · rw [if_neg (fun z => e z.symm)]; exact valV_neg (p := (k, y)) e
  | p :: r, hn => by
    rw [List.cons_append]
    have hk : ¬ p.1 = k := fun z => by rw [valV_pos z] at hn; cases hn
    rw [valV_neg hk] at hn
    have ih := valV_snoc k j y r hn
    by_cases e : p.1 = j
    · rw [valV_pos e, valV_pos e, if_neg (fun z => hk (e.trans z))]
    · rw [valV_neg e, valV_neg e, ih]
theorem valV_put (kvs : List (κ × V)) (k j : κ) (y : V) : valV (putK kvs k y) j = if j = k then some y else valV kvs j := by
  unfold putK
  by_cases a : (kvs.any fun kv => decide (kv.1 = k)) = true
  · rw [if_pos a, valV_map]
    rw [valV_any] at a
    by_cases e : j = k
    · obtain ⟨x, hx⟩ := Option.isSome_iff_exists.mp a
      rw [if_pos e, e, hx, Option.map_some, if_pos rfl]
    · rw [if_neg e]
      cases valV kvs j with
      | none => rfl
      | some x => rw [Option.map_some, if_neg e]
  · rw [if_neg a]
    refine valV_snoc k j y kvs ?_
    rw [valV_any] at a
    cases q : valV kvs k with
    | none => rfl
    | some x => rw [q] at a; exact (a rfl).elim
theorem RelO.isSome_eq {o : Option V} {u : Option Value} (r : RelO o u) : o.isSome = u.isSome := by
  cases o with
  | none => cases u with
    | none => rfl
    | some _ => exact (show False from r).elim
  | some _ => cases u with
    | none => exact (show False from r).elim
    | some _ => rfl
theorem RelO.getD {o : Option V} {u : Option Value} {d : V} {d' : Value} (r : RelO o u) (rd : RelV d d') : RelV (o.getD d) (u.getD d') := by
  cases o with
  | none => cases u with
    | none => exact rd
    | some _ => exact (show False from r).elim
  | some _ => cases u with
    | none => exact (show False from r).elim
    | some _ => exact r

/-- raw tables of the same keys -/
theorem KV.val {kvs : List (κ × V)} {vs : List (κ × Value)} (r : KV kvs vs) (k : κ) : RelO (valV kvs k) (valueAt vs k) := by
  unfold KV at r
  induction r with
  | nil => exact True.intro
  | @cons p q ps qs h t ih =>
    obtain ⟨h1, h2⟩ := h
    by_cases e : p.1 = k
    · have e' : q.1 = k := h1.symm.trans e
      have b : valueAt (q :: qs) k = some q.2 := by simp [valueAt, List.find?_cons, e']
      rw [valV_pos e, b]; exact h2
    · have e' : ¬ q.1 = k := fun z => e (h1.trans z)
      have b : valueAt (q :: qs) k = valueAt qs k := by simp [valueAt, List.find?_cons, e']
      rw [valV_neg e, b]; exact ih
theorem KV.any {kvs : List (κ × V)} {vs : List (κ × Value)} (r : KV kvs vs) (k : κ) : (kvs.any fun kv => decide (kv.1 = k)) = vs.any fun kv => decide (kv.1 = k) := by
  unfold KV at r
  induction r with
  | nil => rfl
  | cons h t ih => rw [List.any_cons, List.any_cons, ih, h.1]
theorem KV.repl {kvs : List (κ × V)} {vs : List (κ × Value)} (r : KV kvs vs) (k : κ) {y : V} {u : Value} (ry : RelV y u) :
    KV (kvs.map fun kv => if kv.1 = k then (kv.1, y) else kv) (vs.map fun kv => if kv.1 = k then (kv.1, u) else kv) := by
  unfold KV at r ⊢
  induction r with
  | nil => exact .nil
  | @cons p q ps qs h t ih =>
    rw [List.map_cons, List.map_cons]
    refine .cons ?_ ih
    obtain ⟨h1, h2⟩ := h
    by_cases e : p.1 = k
    · rw [if_pos e, if_pos (h1.symm.trans e)]; exact ⟨h1, ry⟩
    · rw [if_neg e, if_neg (fun z => e (h1.trans z))]; exact ⟨h1, h2⟩
theorem KV.put {kvs : List (κ × V)} {vs : List (κ × Value)} (r : KV kvs vs) (k : κ) {y : V} {u : Value} (ry : RelV y u) : KV (putK kvs k y) (stored vs k u) := by
  unfold putK stored
  rw [r.any k]
  by_cases e : (vs.any fun kv => decide (kv.1 = k)) = true
  · rw [if_pos e, if_pos e]; exact r.repl k ry
  · rw [if_neg e, if_neg e]; exact Paired.snoc r ⟨rfl, ry⟩
theorem KV.drop {kvs : List (κ × V)} {vs : List (κ × Value)} (r : KV kvs vs) (k : κ) : KV (dropK kvs k) (without vs k) := by
  unfold KV at r ⊢
  unfold dropK without
  induction r with
  | nil => exact .nil
  | @cons p q ps qs h t ih =>
    obtain ⟨h1, h2⟩ := h
    rw [List.filter_cons, List.filter_cons]
    by_cases e : p.1 = k
    · have a : ¬ decide (p.1 ≠ k) = true := by simp [e]
      have b : ¬ decide (q.1 ≠ k) = true := by simp [h1.symm.trans e]
      rw [if_neg a, if_neg b]; exact ih
    · have e' : ¬ q.1 = k := fun z => e (h1.trans z)
      have a : decide (p.1 ≠ k) = true := by simp [e]
      have b : decide (q.1 ≠ k) = true := by simp [e']
      rw [if_pos a, if_pos b]; exact .cons ⟨h1, h2⟩ ih
theorem KV.keys {kvs : List (κ × V)} {vs : List (κ × Value)} (r : KV kvs vs) : kvs.map (·.1) = vs.map (·.1) := by
  unfold KV at r
  induction r with
  | nil => rfl
  | cons h t ih => rw [List.map_cons, List.map_cons, ih, h.1]
theorem KV.length {kvs : List (κ × V)} {vs : List (κ × Value)} (r : KV kvs vs) : kvs.length = vs.length := Paired.length r
end


/-! ### a tracked dict, its keys ints and texts or tuples of these -/
/-- raw entries of a dict with tuple keys -/
abbrev KT (H : Hp) : List (List Key × V) → List (List Key × Addr × Value) → Prop := Paired fun p q => p.1 = q.1 ∧ H q.2.1 = some (.tup (p.1.map kV)) ∧ RelV p.2 q.2.2
theorem KT.val {H : Hp} {kvs : List (List Key × V)} {xs : List (List Key × Addr × Value)} (r : KT H kvs xs) (k : List Key) : RelO (valV kvs k) ((atKey xs k).map (·.2)) := by
  induction r with
  | nil => exact True.intro
  | @cons p q ps qs h t ih =>
    obtain ⟨h1, _, h2⟩ := h
    by_cases e : p.1 = k
    · have e' : q.1 = k := h1.symm.trans e
      have b : atKey (q :: qs) k = some q.2 := by simp [atKey, List.find?_cons, e']
      rw [valV_pos e, b]; exact h2
    · have e' : ¬ q.1 = k := fun z => e (h1.trans z)
      have b : atKey (q :: qs) k = atKey qs k := by simp [atKey, List.find?_cons, e']
      rw [valV_neg e, b]; exact ih
theorem KT.repl {H : Hp} {kvs : List (List Key × V)} {xs : List (List Key × Addr × Value)} (r : KT H kvs xs) (k : List Key) {y : V} {u : Value} (ry : RelV y u) :
    KT H (kvs.map fun kv => if kv.1 = k then (kv.1, y) else kv) (xs.map (putAt k u)) := by
  induction r with
  | nil => exact .nil
  | @cons p q ps qs h t ih =>
    rw [List.map_cons, List.map_cons]
    refine .cons ?_ ih
    obtain ⟨h1, h2, h3⟩ := h
    unfold putAt
    by_cases e : p.1 = k
    · rw [if_pos e, if_pos (h1.symm.trans e)]; exact ⟨h1, h2, ry⟩
    · rw [if_neg e, if_neg (fun z => e (h1.trans z))]; exact ⟨h1, h2, h3⟩
theorem KT.put {H : Hp} {kvs : List (List Key × V)} {xs : List (List Key × Addr × Value)} (r : KT H kvs xs) (k : List Key) {b : Addr} {y : V} {u : Value} (hb : H b = some (.tup (k.map kV))) (ry : RelV y u) :
    KT H (putK kvs k y) (storedH xs k b u) := by
  have e : (kvs.any fun kv => decide (kv.1 = k)) = (atKey xs k).isSome := by
    rw [valV_any, (r.val k).isSome_eq, Option.isSome_map]
  unfold putK storedH
  rw [e]
  by_cases q : (atKey xs k).isSome = true
  · rw [if_pos q, if_pos q]; exact r.repl k ry
  · rw [if_neg q, if_neg q]; exact Paired.snoc r ⟨rfl, hb, ry⟩
theorem KT.keeps {H H' : Hp} {kvs : List (List Key × V)} {xs : List (List Key × Addr × Value)} (r : KT H kvs xs) (ht : ∀ b ys, H b = some (.tup ys) → H' b = some (.tup ys)) : KT H' kvs xs :=
  Paired.mapP r fun _ _ z => ⟨z.1, ht _ _ z.2.1, z.2.2⟩

section
variable {P : Program} {w : World} {H : Hp} {h : Heap} {a : Addr}
end

/-- what the dict at a holds at the key y -/
def DGet (H : Hp) (a : Addr) (y : V) (r : Option V) : Prop :=
  (∃ kvs k, Rd H a (.dK kvs) ∧ y = kV k ∧ r = valV kvs k) ∨ ∃ kvs k b, Rd H a (.dT kvs) ∧ y = .ref b ∧ H b = some (.tup (k.map kV)) ∧ r = valV kvs k
/-- the heap behind a[y] = v -/
def DPut (H : Hp) (a : Addr) (y v : V) (H' : Hp) : Prop :=
  (∃ kvs k, H a = some (.dK kvs) ∧ y = kV k ∧ kvs.length < sizeLine ∧ H' = upd H a (.dK (putK kvs k v))) ∨
  ∃ kvs k b, H a = some (.dT kvs) ∧ y = .ref b ∧ H b = some (.tup (k.map kV)) ∧ kvs.length < sizeLine ∧ H' = upd H a (.dT (putK kvs k v))
theorem DGet.k {H : Hp} {a : Addr} {kvs : List (Key × V)} {k : Key} (e : H a = some (.dK kvs)) : DGet H a (kV k) (valV kvs k) := .inl ⟨kvs, k, .inl e, rfl, rfl⟩
theorem DGet.t {H : Hp} {a b : Addr} {kvs : List (List Key × V)} {k : List Key} (e : H a = some (.dT kvs)) (eb : H b = some (.tup (k.map kV))) : DGet H a (.ref b) (valV kvs k) := .inr ⟨kvs, k, b, .inl e, rfl, eb, rfl⟩
theorem DPut.k {H : Hp} {a : Addr} {kvs : List (Key × V)} {k : Key} {v : V} (e : H a = some (.dK kvs)) (hl : kvs.length < sizeLine) : DPut H a (kV k) v (upd H a (.dK (putK kvs k v))) := .inl ⟨kvs, k, e, rfl, hl, rfl⟩
theorem DPut.t {H : Hp} {a b : Addr} {kvs : List (List Key × V)} {k : List Key} {v : V} (e : H a = some (.dT kvs)) (eb : H b = some (.tup (k.map kV))) (hl : kvs.length < sizeLine) :
    DPut H a (.ref b) v (upd H a (.dT (putK kvs k v))) := .inr ⟨kvs, k, b, e, rfl, eb, hl, rfl⟩


section
variable {X : Cx} {pins : List (Addr × Obj)} {σ : St} {H : Hp} {s : Shared} {a : Addr} {y v : V} {u r : Value} {o : Option V} {A : Around} {E : Value → Shared → Prop}

end

section
variable {X : Cx} {pins : List (Addr × Obj)} {σ : St} {H : Hp} {s : Shared} {a : Addr} {kvs : List (Key × V)} {k : Key} {u : Value} {A : Around} {E : Value → Shared → Prop}
end


/-! ### readings and rules -/
/-- the element of a subscription, not a slice -/
def NoSl (i : Expr) : Prop := ∀ ov iv, subscripted i false ov iv = operate [ov, iv] (getItem ov iv)
/-- d[y] -/
def tDGet (td ty : TE) : TE := fun σ H Q => td σ H fun x H1 => ty σ H1 fun y H2 => ∃ a v, x = .ref a ∧ DGet H2 a y (some v) ∧ Q v H2
/-- y in d, y not in d -/
def tDIn (ty td : TE) : TE := fun σ H Q => ty σ H fun y H1 => td σ H1 fun x H2 => ∃ a o, x = .ref a ∧ DGet H2 a y o ∧ Q (.bl o.isSome) H2
def tDNotIn (ty td : TE) : TE := fun σ H Q => ty σ H fun y H1 => td σ H1 fun x H2 => ∃ a o, x = .ref a ∧ DGet H2 a y o ∧ Q (.bl (!o.isSome)) H2
/-- d[y] = v -/
def sDPut (td ty tv : TE) : TS := fun D σ H => tv σ H fun v H1 => td σ H1 fun x H2 => ty σ H2 fun y H3 => ∃ a H4, x = .ref a ∧ DPut H3 a y v H4 ∧ D.nx σ H4
/-- d[y] op= v -/
def sDAug (td ty tv : TE) (rd : V → V → Hp → VK → Prop) : TS := fun D σ H => td σ H fun x H1 => ty σ H1 fun y H2 => ∃ a v, x = .ref a ∧ DGet H2 a y (some v) ∧
  tv σ H2 fun y2 H3 => rd v y2 H3 fun z H4 => ∃ H5, DPut H4 a y z H5 ∧ D.nx σ H5
/-- del d[y] -/
def sDDel (td ty : TE) : TS := fun D σ H => td σ H fun x H1 => ty σ H1 fun y H2 => ∃ a kvs k, x = .ref a ∧ H2 a = some (.dK kvs) ∧ y = kV k ∧ (valV kvs k).isSome = true ∧ D.nx σ (upd H2 a (.dK (dropK kvs k)))

section
variable {X : Cx} {o i e value : Expr} {pos pos' tpos : Pos} {td ty tv : TE}
end


/-! ### displays -/
/-- {}, to be a dict of the kind that is wanted -/
def tDNewK : TE := fun _ H Q => ∀ p, H p = none → Q (.ref p) (upd H p (.dK []))
def tDNewT : TE := fun _ H Q => ∀ p, H p = none → Q (.ref p) (upd H p (.dT []))
section
variable {X : Cx} {pos : Pos}
end

/-- the pairs of a display, from the left -/
def tPairs : List (TE × TE) → St → Hp → (List (V × V) → Hp → Prop) → Prop
  | [], _, H, Q => Q [] H
  | (tk, tv) :: r, σ, H, Q => tk σ H fun x H1 => tv σ H1 fun y H2 => tPairs r σ H2 fun ps H3 => Q ((x, y) :: ps) H3
abbrev VV : List (V × V) → List (Value × Value) → Prop := Paired fun p q => RelV p.1 q.1 ∧ RelV p.2 q.2
def PPs (X : Cx) (pos : Pos) (keys : List (Option Expr)) (values : List Expr) (trs : List (TE × TE)) : Prop :=
  ∀ (pins : List (Addr × Obj)) (s : Shared) (σ : St) (H : Hp) (Q : List (V × V) → Hp → Prop), Inv X pins σ H s → tPairs trs σ H Q →
    wpAny (model X.prog X.w) X.A (evalPairs (pairTrees keys values X.env pos)) (fun vs s' => ∃ ps H', Inv X pins σ H' s' ∧ VV ps vs ∧ Q ps H') X.xe s
def mergeK (kvs more : List (Key × V)) : List (Key × V) := more.foldl (fun acc kv => putK acc kv.1 kv.2) kvs
/-- {k: v, ..} with keys ints and texts; the new dict stands empty while the pairs are made -/
def tDisp (trs : List (TE × TE)) : TE := fun σ H Q => ∀ p, H p = none → tPairs trs σ (upd H p (.dK [])) fun ps H2 => H2 p = some (.dK []) ∧ ∃ kvs : List (Key × V), ps = kvs.map (fun kv => (kV kv.1, kv.2)) ∧ kvs.length ≤ 15 ∧ Q (.ref p) (upd H2 p (.dK (mergeK [] kvs)))
/-! ### methods -/
/-- a method call o.m(e) of a built-in, with one argument: what must be seen of the text -/
structure M1 (X : Cx) (o : Expr) (m : Str) (apos : Pos) (e : Expr) (cpos : Pos) : Prop where
  base : attributeBase o m X.env (eval o X.env) = eval o X.env
  few : ((backTo cpos (starEach [e] X.env)).all (fun x => !x.1) && (backToKw cpos (keywordEach [] X.env)).all (fun x => x.1.isSome)
    && decide (([e] : List Expr).length + ([] : List Keyword).length + (if ([] : List Keyword).isEmpty then 0 else 1) < 30)) = true
  line : (apos.endLine == cpos.line) = true
  trees : backTo cpos (starEach [e] X.env) = [(false, eval e X.env)]
structure M2 (X : Cx) (o : Expr) (m : Str) (apos : Pos) (e f : Expr) (cpos : Pos) : Prop where
  base : attributeBase o m X.env (eval o X.env) = eval o X.env
  few : ((backTo cpos (starEach [e, f] X.env)).all (fun x => !x.1) && (backToKw cpos (keywordEach [] X.env)).all (fun x => x.1.isSome)
    && decide (([e, f] : List Expr).length + ([] : List Keyword).length + (if ([] : List Keyword).isEmpty then 0 else 1) < 30)) = true
  line : (apos.endLine == cpos.line) = true
  trees : backTo cpos (starEach [e, f] X.env) = [(false, eval e X.env), (false, eval f X.env)]

/-- a is a dict, whatever its keys -/
def IsD (H : Hp) (a : Addr) : Prop := (∃ kvs, Rd H a (.dK kvs)) ∨ ∃ kvs, Rd H a (.dT kvs)
section
variable {X : Cx} {pins : List (Addr × Obj)} {σ : St} {H : Hp} {s : Shared} {a : Addr} {y d : V} {u r : Value} {o : Option V} {A : Around} {E : Value → Shared → Prop}
end

def tDGet1 (td ty : TE) : TE := fun σ H Q => td σ H fun x H1 => ∃ a, x = .ref a ∧ IsD H1 a ∧ ty σ H1 fun y H2 => ∃ o, DGet H2 a y o ∧ Q (o.getD .non) H2
def tDGet2 (td ty tx : TE) : TE := fun σ H Q => td σ H fun x H1 => ∃ a, x = .ref a ∧ IsD H1 a ∧ ty σ H1 fun y H2 => tx σ H2 fun z H3 => ∃ o, DGet H3 a y o ∧ Q (o.getD z) H3
/-- d.pop(k): there; d.pop(k, x): there or not -/
def tDPop1 (td ty : TE) : TE := fun σ H Q => td σ H fun x H1 => ∃ a, x = .ref a ∧ IsD H1 a ∧ ty σ H1 fun y H2 => ∃ kvs k v, H2 a = some (.dK kvs) ∧ y = kV k ∧ valV kvs k = some v ∧ Q v (upd H2 a (.dK (dropK kvs k)))
def tDPop2 (td ty tx : TE) : TE := fun σ H Q => td σ H fun x H1 => ∃ a, x = .ref a ∧ IsD H1 a ∧ ty σ H1 fun y H2 => tx σ H2 fun z H3 => ∃ kvs k, H3 a = some (.dK kvs) ∧ y = kV k ∧
  (∀ v, valV kvs k = some v → Q v (upd H3 a (.dK (dropK kvs k)))) ∧ (valV kvs k = none → Q z H3)
section
variable {X : Cx} {o e f : Expr} {apos cpos : Pos} {td ty tx : TE}
end

/-! ### dict(d): a copy -/
section
variable {X : Cx} {pins : List (Addr × Obj)} {σ : St} {H : Hp} {s : Shared} {a : Addr} {kvs : List (Key × V)} {A : Around} {E : Value → Shared → Prop}
end


section
variable {X : Cx} {pins : List (Addr × Obj)} {σ : St} {H : Hp} {s : Shared} {a : Addr} {y : V} {u : Value} {A : Around} {E : Value → Shared → Prop}
end
end L2


namespace L2
open PySem PySem.Spec PyProof.Rows
section
variable {X : Cx}
/-! ### for .. in d: the dict stands still while it is walked -/
def Itd (d : Addr) (o : Obj) (kvs : List (Key × V)) : It := ⟨fun i H => i < kvs.length ∧ H d = some (.frz o (.dK kvs)), fun i H x H' => H' = H ∧ ∃ k v, kvs[i]? = some (k, v) ∧ x = kV k, fun i H => i = kvs.length ∧ H d = some (.frz o (.dK kvs))⟩
def iDict (te : TE) : TI := fun σ H R => te σ H fun x H1 => ∃ (d : Addr) (kvs : List (Key × V)), x = .ref d ∧ H1 d = some (.dK kvs) ∧ ∀ o, R (Itd d o kvs) (upd H1 d (.frz o (.dK kvs)))
end
section
variable {K : PySem.W.Frag} {m : Nat} {js : List Nat} {g : TG} {c : TT} {te : TE} {σ : St} {H1 : Hp} {Q : VK}
end
end L2

namespace OL
open PySem L2
/-- how many bits stand in a number -/
def popc (n : Nat) : Nat := if h : n = 0 then 0 else n % 2 + popc (n / 2)
termination_by n
decreasing_by omega
section
variable {many : Int} {bs : List Int} (hb : ∀ x ∈ bs, InB many x)
include hb
end
def ofB (bs : List Int) (least : Int) (i : Nat) : Bool := decide (least ≤ countF bs (i : Int))
def ofKV (bs : List Int) (i : Nat) : Key × V := (Sum.inl (i : Int), V.int (colF bs (i : Int)))
def oftenKV (bs : List Int) (least : Int) (n : Nat) : List (Key × V) := ((List.range n).filter (ofB bs least)).map (ofKV bs)
def oftenR (bs : List Int) (least : Int) (n : Nat) : List (Int × Int) := ((List.range n).filter (ofB bs least)).map fun (i : Nat) => ((i : Int), countF bs (i : Int))
def keepKV (kvs : List (Key × V)) (least lot col : Int) : List (Key × V) := if least ≤ ((popc col.toNat : Nat) : Int) then putK kvs (.inl lot) (.int col) else kvs
/-- the lots gone through, and what a thing more brings behind them -/
def moreKV (bs : List Int) (least : Int) (t j : Nat) : List (Key × V) := oftenKV bs least (2 ^ t) ++ (((((List.range (2 ^ t)).filter (ofB bs least)).take j).filter fun i => ofB bs least (2 ^ t + i)).map fun i => ofKV bs (2 ^ t + i))
def spPlaces : Sp := fun vs H Q _ => ∃ x : Int, vs = [.int x] ∧ 0 ≤ x ∧ Q (.int ((popc x.toNat : Nat) : Int)) H
def spKeep : Sp := fun vs H Q _ => ∃ (d : Addr) (kvs : List (Key × V)) (least lot col : Int), vs = [.ref d, .int least, .int lot, .int col] ∧ H d = some (.dK kvs) ∧ kvs.length ≤ 5000 ∧ 0 ≤ col ∧ ∀ H', SameB d H H' → TSame H H' → H' d = some (.dK (keepKV kvs least lot col)) → Q .non H'
def spOftenC (K : PySem.W.Frag) : Sp := fun vs H Q _ => ∃ (b : Addr) (many : Int) (bs : List Int) (least : Int), vs = [.ref b, .int least] ∧ Bk K H b many bs ∧ bs.length ≤ 500 ∧ 0 ≤ many ∧ many ≤ 10 ∧ (∀ x ∈ bs, InB many x) ∧ ∀ (d : Addr) (H' : Hp), Same H H' → H d = none → H' d = some (.dK (oftenKV bs least (2 ^ many.toNat))) → Q (.ref d) H'
def spByC (K : PySem.W.Frag) : Sp := fun vs H Q _ => ∃ (b : Addr) (many : Int) (bs : List Int) (least : Int), vs = [.ref b, .int least] ∧ Bk K H b many bs ∧ bs.length ≤ 500 ∧ 0 ≤ many ∧ many ≤ 10 ∧ (∀ x ∈ bs, InB many x) ∧ ∀ (r : Addr) (xs : List V) (H' : Hp), Same H H' → H r = none → H' r = some (.lst xs) → Rows H' xs (oftenR bs least (2 ^ many.toNat)) → Q (.ref r) H'
end OL
namespace OL
open PySem L2
def TupAll (H : Hp) (xs : List V) (n : Nat) : Prop := ∀ x ∈ xs, ∃ (p : Addr) (ms : List Int), x = .ref p ∧ H p = some (.tup (ms.map V.int)) ∧ ms.length = n
theorem TupAll.same {H H' : Hp} {xs : List V} {n : Nat} (h : TupAll H xs n) (S : Same H H') : TupAll H' xs n := fun x hx => by
  obtain ⟨p, ms, e, hp, hl⟩ := h x hx
  exact ⟨p, ms, e, S _ _ hp, hl⟩
def spRowsL : Sp := fun vs H Q _ => ∃ (f : Addr) (xs : List V) (n : Nat), vs = [.ref f, .int (n : Int)] ∧ H f = some (.lst xs) ∧ TupAll H xs n ∧ n ≤ 10 ∧ ∀ H', Same H H' → Q (.bl true) H'
def spLeast62 : Sp := fun vs H Q _ => ∃ (l b bl : Addr) (ds bs : List Int) (many : Int), vs = [.ref l, .ref b] ∧ H l = some (.lst (ds.map V.int)) ∧ H b = some (.tup [.int many, .ref bl]) ∧ H bl = some (.lst (bs.map V.int)) ∧ bl ≠ l ∧ bs.length ≤ 500 ∧ ∀ (d : Int) (ds' : List Int) (H' : Hp), SameB l H H' → H' l = some (.lst (ds'.map V.int)) → 1 ≤ d → Q (.int d) H'
end OL

namespace OL
open PySem L2
def olF (bs : List Int) (least lot : Int) : Bool := decide (least ≤ countF bs lot) && leastP bs lot
def rowsP (bs : List Int) (p : Int → Bool) (n : Nat) : List (Int × Int) := ((List.range n).filter fun (i : Nat) => p (i : Int)).map fun (i : Nat) => ((i : Int), countF bs (i : Int))
def spOL (K : PySem.W.Frag) : Sp := fun vs H Q _ => ∃ (b : Addr) (many : Int) (bs : List Int) (least lot : Int), vs = [.ref b, .int least, .int lot] ∧ Bk K H b many bs ∧ bs.length ≤ 500 ∧ 0 ≤ many ∧ many ≤ 12 ∧ Sm lot ∧ ∀ H', Same H H' → Q (.bl (olF bs least lot)) H'
def spRowsB (K : PySem.W.Frag) (p : List Int → Int → Int → Bool) : Sp := fun vs H Q _ => ∃ (b : Addr) (many : Int) (bs : List Int) (least : Int), vs = [.ref b, .int least] ∧ Bk K H b many bs ∧ bs.length ≤ 500 ∧ 0 ≤ many ∧ many ≤ 12 ∧ ∀ (r : Addr) (xs : List V) (H' : Hp), Same H H' → H r = none → H' r = some (.lst xs) → Rows H' xs (rowsP bs (p bs least) (2 ^ many.toNat)) → Q (.ref r) H'
end OL
namespace OL
open PySem L2
def dlF (many : Int) (bs : List Int) (least lot : Int) : Bool := decide (least ≤ countF bs lot) && leastL many bs lot
def spDue (K : PySem.W.Frag) : Sp := fun vs H Q _ => ∃ (b : Addr) (many : Int) (bs : List Int) (least : Int), vs = [.ref b, .int least] ∧ Bk K H b many bs ∧ bs.length ≤ 500 ∧ 0 ≤ many ∧ many ≤ 12 ∧ (∀ x ∈ bs, InB many x) ∧ ∀ (r : Addr) (xs : List V) (H' : Hp), Same H H' → H r = none → H' r = some (.lst xs) → Rows H' xs (rowsP bs (olF bs least) (2 ^ many.toNat)) → Q (.ref r) H'
def spTold : Sp := fun vs H Q _ => ∃ (f d : Addr) (xs ys : List V) (rs : List (Int × Int)), vs = [.ref f, .ref d] ∧ H f = some (.lst xs) ∧ H d = some (.lst ys) ∧ Rows H xs rs ∧ Rows H ys rs ∧ ∀ H', Same H H' → Q (.bl true) H'
end OL

namespace L2
open PySem PySem.Spec PyProof.Rows
/-! ### for .. in d.items() -/
def Iti (d : Addr) (o : Obj) (kvs : List (Key × V)) : It := ⟨fun i H => i < kvs.length ∧ H d = some (.frz o (.dK kvs)), fun i H x H' => ∃ p k v, x = .ref p ∧ H p = none ∧ H' = upd H p (.tup [kV k, v]) ∧ kvs[i]? = some (k, v), fun i H => i = kvs.length ∧ H d = some (.frz o (.dK kvs))⟩
section
variable {X : Cx}
def iItems (te : TE) : TI := fun σ H R => te σ H fun x H1 => ∃ (d : Addr) (kvs : List (Key × V)), x = .ref d ∧ H1 d = some (.dK kvs) ∧ ∀ o, R (Iti d o kvs) (upd H1 d (.frz o (.dK kvs)))
end
end L2

namespace Tim
open PySem PyProof.Rows
def gallop' : Bool → Keyed → Array Keyed → Nat → Nat → Nat → StateT SortSt Sem (Option Nat) := sortPriv% PySem.Builtin.gallop
def mergeLo' : Array Keyed → Array Keyed → StateT SortSt Sem (Array Keyed) := sortPriv% PySem.Builtin.mergeLo
def mergeHi' : Array Keyed → Array Keyed → StateT SortSt Sem (Array Keyed) := sortPriv% PySem.Builtin.mergeHi
abbrev setGal (st : SortSt) (g : Nat) : SortSt := SortSt.mk' (kindOf st) (arrOf st) (pendingOf st) g (failedOf st)
/-- comparing two keys leaves all as it is and tells their order -/
def CmpOk (prog : Program) (w : World) (A : Around) (s : Shared) (κ : KeyKind) (kd : SortKind) : Prop :=
  ∀ (E : Value → Shared → Prop) (x y : Value) (a b : κ.α) (Q : Bool → Shared → Prop), κ.keyOf x = some a → κ.keyOf y = some b → Q (κ.blt a b) s → wpAny (model prog w) A (keyLt' kd x y) Q E s
section
variable {prog : Program} {w : World} {A : Around} {E : Value → Shared → Prop} {s : Shared} {κ : KeyKind} {kd : SortKind}
/-- all keys of the array can be read -/
def Good (κ : KeyKind) (zs : Array Keyed) : Prop := ∀ (i : Nat) (p : Keyed), zs[i]? = some p → ∃ a, κ.keyOf p.1 = some a
theorem Good.at {zs : Array Keyed} (g : Good κ zs) {i : Nat} (hi : i < zs.size) : ∃ p, zs[i]? = some p ∧ κ.keyOf p.1 = some (KK κ zs i) := by
  have e : zs[i]? = some zs[i] := getElem?_pos zs i hi
  obtain ⟨a, ha⟩ := g i _ e
  refine ⟨_, e, ?_⟩
  unfold KK
  rw [e, ha]
  show some a = some ((κ.keyOf zs[i].fst).getD κ.dflt)
  rw [ha]; rfl
/-- is the item at i ahead of where p belongs -/
def bey (κ : KeyKind) (left : Bool) (kp : κ.α) (zs : Array Keyed) (i : Nat) : Bool := if left then κ.blt (KK κ zs i) kp else !κ.blt kp (KK κ zs i)
def ahead (left : Bool) (p : Keyed) (zs : Array Keyed) (i : Nat) : StateT SortSt Sem (Option Bool) := do
  let q ← elem' zs i
  if left then lt' q p else return (← lt' p q).map (!·)
end
end Tim

namespace Tim
open PySem PyProof.Rows
section
variable {κ : KeyKind}
def ky (κ : KeyKind) (p : Keyed) : κ.α := (κ.keyOf p.1).getD κ.dflt
def le (κ : KeyKind) (p q : Keyed) : Prop := κ.kle (ky κ p) (ky κ q)
theorem take_at {L : List Keyed} {i t : Nat} (ht : t < L.length) (h : t < i) : L[t] ∈ L.take i := by
  rw [List.mem_iff_getElem]
  exact ⟨t, by rw [List.length_take]; omega, by rw [List.getElem_take]⟩
/-- what is told by then, of A its first i, of B its first j -/
structure MI (κ : KeyKind) (A B O : List Keyed) (i j : Nat) : Prop where
  perm : O.Perm (A.take i ++ B.take j)
  srt : O.Pairwise (le κ)
  la : ∀ x ∈ O, ∀ y ∈ A.drop i, le κ x y
  lb : ∀ x ∈ O, ∀ y ∈ B.drop j, le κ x y
def Res (κ : KeyKind) (A B M : List Keyed) : Prop := M.Perm (A ++ B) ∧ M.Pairwise (le κ)
variable {A B O : List Keyed} {i j : Nat}
/-- the same from the end: told are those of A from i on and those of B from j on -/
structure MH (κ : KeyKind) (A B R : List Keyed) (i j : Nat) : Prop where
  perm : R.Perm (A.drop i ++ B.drop j)
  srt : R.Pairwise (le κ)
  la : ∀ x ∈ A.take i, ∀ y ∈ R, le κ x y
  lb : ∀ x ∈ B.take j, ∀ y ∈ R, le κ x y
end
end Tim

namespace Tim
open PySem PyProof.Rows
section
variable {κ : KeyKind}
end
section
variable {prog : Program} {w : World} {A : Around} {E : Value → Shared → Prop} {s : Shared} {κ : KeyKind} {kd : SortKind}
def OK1 (κ : KeyKind) (a b : Array Keyed) (st st' : SortSt) (o : Array Keyed) (i j : Nat) : Prop := (∃ g, setGal st g = st') ∧ MI κ a.toList b.toList o.toList i j ∧ i + 1 < a.size ∧ j < b.size
end
end Tim

namespace Tim
open PySem PyProof.Rows
section
variable {κ : KeyKind} {A B R : List Keyed} {i j : Nat}
end
section
variable {prog : Program} {w : World} {A : Around} {E : Value → Shared → Prop} {s : Shared} {κ : KeyKind} {kd : SortKind}
def OK2 (κ : KeyKind) (a b : Array Keyed) (st st' : SortSt) (i j : Nat) (o : Array Keyed) : Prop := (∃ g, setGal st g = st') ∧ MH κ a.toList b.toList o.toList.reverse i j ∧ 0 < i ∧ 1 < j ∧ i ≤ a.size ∧ j ≤ b.size
end
end Tim

namespace Tim
open PySem PyProof.Rows
section
variable {κ : KeyKind}
/-- rising from lo to hi -/
def Ri (κ : KeyKind) (zs : Array Keyed) (lo hi : Nat) : Prop := ∀ u v, lo ≤ u → u ≤ v → v < hi → κ.kle (KK κ zs u) (KK κ zs v)
abbrev Rn := Nat × Nat × Nat
/-- runs, one behind the other, from a to b -/
def Runs (κ : KeyKind) (zs : Array Keyed) : List Rn → Nat → Nat → Prop
  | [], a, b => a = b
  | r :: rs, a, b => r.1 = a ∧ 0 < r.2.1 ∧ Ri κ zs a (a + r.2.1) ∧ Runs κ zs rs (a + r.2.1) b
theorem Runs.le {zs : Array Keyed} : ∀ {L : List Rn} {a b : Nat}, Runs κ zs L a b → a + L.length ≤ b
  | [], a, b, h => by have h : a = b := h; simp [h]
  | r :: rs, a, b, h => by
    obtain ⟨h1, h2, h3, h4⟩ := h
    have := Runs.le h4
    rw [List.length_cons]; omega
theorem Ri.frame {zs ys : Array Keyed} {lo hi : Nat} (h : Ri κ zs lo hi) (e : ∀ k, lo ≤ k → k < hi → KK κ ys k = KK κ zs k) : Ri κ ys lo hi := fun u v h1 h2 h3 => by
  rw [e u h1 (by omega), e v (by omega) h3]; exact h u v h1 h2 h3
theorem Runs.frame {zs ys : Array Keyed} : ∀ {L : List Rn} {a b : Nat}, Runs κ zs L a b → (∀ k, a ≤ k → k < b → KK κ ys k = KK κ zs k) → Runs κ ys L a b
  | [], _, _, h, _ => h
  | r :: rs, a, b, h, e => by
    obtain ⟨h1, h2, h3, h4⟩ := h
    have q := Runs.le h4
    exact ⟨h1, h2, h3.frame fun k k1 k2 => e k k1 (by omega), h4.frame fun k k1 k2 => e k (by omega) k2⟩
theorem Runs.push {zs : Array Keyed} {n p : Nat} (hn : 0 < n) : ∀ {L : List Rn} {a b : Nat}, Runs κ zs L a b → Ri κ zs b (b + n) → Runs κ zs (L ++ [(b, n, p)]) a (b + n)
  | [], a, b, h, r => by
    have h : a = b := h
    subst h
    exact ⟨rfl, hn, r, rfl⟩
  | r :: rs, a, b, h, s => by
    obtain ⟨h1, h2, h3, h4⟩ := h
    exact ⟨h1, h2, h3, h4.push hn s⟩
structure Two (κ : KeyKind) (zs : Array Keyed) (a b : Nat) (r q : Rn) : Prop where
  next : q.1 = r.1 + r.2.1
  n1 : 0 < r.2.1
  n2 : 0 < q.2.1
  s1 : Ri κ zs r.1 (r.1 + r.2.1)
  s2 : Ri κ zs q.1 (q.1 + q.2.1)
  lo : a ≤ r.1
  hi : q.1 + q.2.1 ≤ b
end
section
variable {prog : Program} {w : World} {A : Around} {E : Value → Shared → Prop} {s : Shared} {κ : KeyKind} {kd : SortKind}
theorem Good.ex {zs : Array Keyed} (g : Good κ zs) (m n : Nat) : Good κ (zs.extract m n) := fun i p h => by
  have hm : p ∈ (zs.extract m n).toList := by
    rw [← Array.getElem?_toList] at h; exact List.mem_of_getElem? h
  rw [Array.toList_extract, List.extract_eq_take_drop] at hm
  obtain ⟨j, hj, e⟩ := List.mem_iff_getElem.mp (List.mem_of_mem_drop (List.mem_of_mem_take hm))
  exact g j p (by rw [← Array.getElem?_toList, List.getElem?_eq_getElem hj, e])
end
end Tim

namespace Tim
open PySem PyProof.Rows
section
variable {κ : KeyKind}
/-- the same things, and all as it was outside lo to hi -/
structure Fr0 (κ : KeyKind) (lo hi : Nat) (zs ys : Array Keyed) : Prop where
  perm : ys.toList.Perm zs.toList
  out : ∀ k, (k < lo ∨ hi ≤ k) → KK κ ys k = KK κ zs k
def De (κ : KeyKind) (zs : Array Keyed) (lo hi : Nat) : Prop := ∀ u v, lo ≤ u → u ≤ v → v < hi → κ.kle (KK κ zs v) (KK κ zs u)
variable {lo hi : Nat} {zs ys : Array Keyed}
theorem Fr0.refl (zs : Array Keyed) : Fr0 κ lo hi zs zs := ⟨List.Perm.refl _, fun _ _ => rfl⟩
theorem Fr0.size (F : Fr0 κ lo hi zs ys) : ys.size = zs.size := by
  rw [← Array.length_toList, ← Array.length_toList]; exact F.perm.length_eq
end
section
variable {prog : Program} {w : World} {A : Around} {E : Value → Shared → Prop} {s : Shared} {κ : KeyKind} {kd : SortKind}
end
end Tim

namespace Tim
open PySem PyProof.Rows
section
variable {prog : Program} {w : World} {A : Around} {E : Value → Shared → Prop} {s : Shared} {κ : KeyKind} {kd : SortKind}
/-- a state on the way: all of z0 is there, runs up to lo -/
structure On (κ : KeyKind) (kd : SortKind) (z0 : Array Keyed) (lo : Nat) (st : SortSt) : Prop where
  kind : kindOf st = kd
  fail : failedOf st = none
  perm : (arrOf st).toList.Perm z0.toList
  runs : Runs κ (arrOf st) (pendingOf st).toList 0 lo
theorem On.size {z0 : Array Keyed} {lo : Nat} {st : SortSt} (o : On κ kd z0 lo st) : (arrOf st).size = z0.size := by
  rw [← Array.length_toList, ← Array.length_toList]; exact o.perm.length_eq
end
end Tim

namespace Tim
open PySem PyProof.Rows PySem.W
def lev (κ : KeyKind) (x y : Value) : Prop := κ.kle ((κ.keyOf x).getD κ.dflt) ((κ.keyOf y).getD κ.dflt)
/-- what sorting asks of the state it is done in -/
structure Sorts (prog : Program) (w : World) (s : Shared) (κ : KeyKind) (kd : SortKind) (vs : List Value) : Prop where
  cmp : ∀ A, CmpOk prog w A s κ kd
  kind : 2 ≤ vs.length → ∀ (A : Around) (E : Value → Shared → Prop) (Q : SortKind → Shared → Prop), Q kd s → wpAny (model prog w) A (keyKind' vs.toArray) Q E s
  keys : ∀ v ∈ vs, ∃ a, κ.keyOf v = some a
section
variable {prog : Program} {w : World} {A : Around} {E : Value → Shared → Prop} {s : Shared}
/-- the heap while it is sorted: the list is empty, two new things behind -/
def midHeap (h : Heap) (a : Addr) (vs : List Value) : Heap := ((h.update a (Obj.mapSeq fun _ => #[])).push (seqObj "tuple" vs.toArray 0)).push (seqObj "list" #[] 0)
/-! ### whole numbers -/
@[reducible] def intK : KeyKind where
  α := Int
  blt a b := decide (a < b)
  irrefl a := by simp
  trans a b c h1 h2 := by simp only [decide_eq_true_eq] at *; omega
  negTrans a b c h := by simp only [decide_eq_true_eq] at *; omega
  total a b h1 h2 := by simp only [decide_eq_false_iff_not] at *; omega
  keyOf v := match v with | .int x _ => some x | _ => none
  dflt := 0
/-! ### tuples of whole numbers -/
def intOf : Value → Option Int
  | .int n _ => some n
  | _ => none
def decT (h : Heap) (v : Value) : Option (List Int) := match v with
  | .ref a => match h.get? a with
    | some o => match o.data with
      | .seq xs _ => xs.toList.mapM intOf
      | _ => none
    | none => none
  | _ => none
@[reducible] def tupK (h : Heap) : KeyKind where
  α := List Int
  blt a b := decide (a < b)
  irrefl a := by simpa using List.lt_irrefl a
  trans a b c h1 h2 := by simp only [decide_eq_true_eq] at *; exact List.lt_trans h1 h2
  negTrans a b c h := by
    simp only [decide_eq_true_eq] at *
    by_cases hab : a < b
    · exact .inl hab
    · exact .inr (List.lt_of_le_of_lt (List.not_lt.mp hab) h)
  total a b h1 h2 := by simp only [decide_eq_false_iff_not] at *; exact List.le_antisymm (List.not_lt.mp h2) (List.not_lt.mp h1)
  keyOf v := decT h v
  dflt := []
end
end Tim

namespace L2
open PySem PySem.Spec PyProof.Rows
section
variable {X : Cx}
/-- sorted of a list of whole numbers, of any length -/
def rSortZ (K : PySem.W.Frag) : List V → Hp → VK → Prop := fun xs H Q => ∃ (p : Addr) (ns : List Int), xs = [.ref p] ∧ SqL K H p (ns.map V.int) ∧ ∀ (l : Addr) (ns' : List Int), H l = none → ns'.Perm ns → ns'.Pairwise (· ≤ ·) → Q (.ref l) (upd H l (.lst (ns'.map V.int)))
/-- sorted of a list of tuples of whole numbers, each told by its key -/
def TupK (K : PySem.W.Frag) {α : Type} (key : α → List Int) (H : Hp) (x : V) (r : α) : Prop := ∃ p, x = .ref p ∧ SqT K H p ((key r).map V.int)
def rSortG (K : PySem.W.Frag) {α : Type} (key : α → List Int) (R : Hp → V → α → Prop) : List V → Hp → VK → Prop := fun xs H Q => ∃ (p : Addr) (ys : List V) (rs : List α), xs = [.ref p] ∧ SqL K H p ys ∧ Paired (R H) ys rs ∧ (∀ r ∈ rs, key r ≠ []) ∧
  ∀ (l : Addr) (zs : List V) (rs' : List α), H l = none → rs'.Perm rs → rs'.Pairwise (fun a b => ¬ key b < key a) → Paired (R H) zs rs' → Q (.ref l) (upd H l (.lst zs))
/-- sorted of rows -/
def rleq (a b : Int × Int) : Prop := a.1 < b.1 ∨ (a.1 = b.1 ∧ a.2 ≤ b.2)
def rSortR (K : PySem.W.Frag) : List V → Hp → VK → Prop := fun xs H Q => ∃ (p : Addr) (ys : List V) (rs : List (Int × Int)), xs = [.ref p] ∧ SqL K H p ys ∧ Rows H ys rs ∧
  ∀ (l : Addr) (zs : List V) (rs' : List (Int × Int)), H l = none → rs'.Perm rs → rs'.Pairwise rleq → Rows H zs rs' → Q (.ref l) (upd H l (.lst zs))
/-- a row in a list of rows -/
def rInR (K : PySem.W.Frag) (neg : Bool) : R2 := fun x y H Q => ∃ (p : Addr) (ys : List V) (rs : List (Int × Int)) (r : Int × Int), y = .ref p ∧ SqL K H p ys ∧ Rows H ys rs ∧ Row H x r ∧ Q (.bl (if neg then !rs.any (fun q => decide (q = r)) else rs.any fun q => decide (q = r))) H
def isRowV (H : Hp) (r : Int × Int) : Value → Bool
  | .ref a => match H a with
    | some (.tup [.int i, .int j]) => decide ((i, j) = r)
    | _ => false
  | _ => false
theorem op_notInK (K : PySem.W.Frag) (hK : X.K = K) : OpR X (compareOp .NotIn) (rIn K true) := by subst hK; exact op_notIn_seq
end
end L2

namespace PySem
open Sem (wp)
section
variable {prog : Program} {w : World} {A : Around} {E : Value → Shared → Prop} {s : Shared} {a : Addr}
end
end PySem

namespace PySem
open PyProof.Rows
section
variable {prog : Program} {w : World} {K : Type} [DecidableEq K] {knd : KeyKind prog w K} {A : Around} {R : Result → Shared → Prop}
end
end PySem

namespace L2
open PySem PySem.Spec PyProof.Rows
/-- rows as a table -/
def tabR (rs : List (Int × Int)) : List (Key × V) := rs.map fun r => (.inl r.1, .int r.2)
section
variable {X : Cx}
end
end L2

namespace OL
open PySem L2
/-! ### how many things a lot has -/
def sz (x : Nat) : Nat := (List.range 12).countP fun t => x.testBit t
/-! ### rows looked up -/
def inR (rs : List (Int × Int)) (f : Int) : Bool := rs.any fun r => decide (r.1 = f)
theorem lt_bits (x : Nat) : x < 2 ^ Builtin.Int.intBits (x : Int) := by
  by_cases h : x < 2 ^ Builtin.Int.intBits (x : Int)
  · exact h
  · obtain ⟨i, hi, ht⟩ := Nat.exists_ge_and_testBit_of_ge_two_pow (Nat.le_of_not_lt h)
    have := bits_lt (lot := (x : Int)) (Int.natCast_nonneg _) (t := i) (by unfold Th; rwa [Int.toNat_natCast])
    omega
def wt (lot : Int) (t : Nat) : Int := Builtin.bitOr lot (1 * 2 ^ t)
/-! ### levels -/
def levR (bs : List Int) (least : Int) (n k : Nat) : List (Int × Int) := ((List.range n).filter fun i => ofB bs least i && (sz i == k)).map fun (i : Nat) => ((i : Int), countF bs (i : Int))
def okB (rs : List (Int × Int)) (x : Int) : Bool := (fewF x).all fun f => inR rs f
def moreL (rs : List (Int × Int)) (lot : Int) (j : Nat) : List Int := ((List.range j).filter fun t => okB rs (wt lot (Builtin.Int.intBits lot + t))).map fun t => wt lot (Builtin.Int.intBits lot + t)
def nextU (many : Int) (rs : List (Int × Int)) (i : Nat) : List Int := (rs.take i).flatMap fun r => moreL rs r.1 (many.toNat - Builtin.Int.intBits r.1)
def candB (bs : List Int) (least : Int) (k i : Nat) : Bool := (sz i == k + 1) && (fewF (i : Int)).all fun f => decide (least ≤ countF bs f)
def candL (bs : List Int) (least : Int) (n k : Nat) : List Int := ((List.range n).filter (candB bs least k)).map fun (i : Nat) => (i : Int)
section
variable {many : Int} {bs : List Int} (hb : ∀ x ∈ bs, InB many x)
include hb
end
end OL

namespace L2
open PySem PySem.Spec PyProof.Rows
/-- a dict that is read while it is walked -/
theorem DGet.f {H : Hp} {a : Addr} {kvs : List (Key × V)} {o : Obj} {k : Key} (e : H a = some (.frz o (.dK kvs))) : DGet H a (kV k) (valV kvs k) := .inl ⟨kvs, k, .inr ⟨o, e⟩, rfl, rfl⟩
end L2

namespace OL
open PySem L2
def rowsC (bs ns : List Int) : List (Int × Int) := ns.map fun x => (x, countF bs x)
def spCounted (K : PySem.W.Frag) : Sp := fun vs H Q _ => ∃ (b l : Addr) (many : Int) (bs ns : List Int), vs = [.ref b, .ref l] ∧ Bk K H b many bs ∧ bs.length ≤ 500 ∧ 0 ≤ many ∧ many ≤ 64 ∧ SqL K H l (ns.map V.int) ∧ ns.length ≤ 5000 ∧
  ∀ (r : Addr) (xs : List V) (H' : Hp), Same H H' → H r = none → H' r = some (.lst xs) → Rows H' xs (rowsC bs ns) → Q (.ref r) H'
def spAmong (K : PySem.W.Frag) (p : Int → Int × Int → Bool) : Sp := fun vs H Q _ => ∃ (b l : Addr) (many : Int) (bs ns : List Int) (least : Int), vs = [.ref b, .int least, .ref l] ∧ Bk K H b many bs ∧ bs.length ≤ 500 ∧ 0 ≤ many ∧ many ≤ 64 ∧ SqL K H l (ns.map V.int) ∧ ns.length ≤ 5000 ∧
  ∀ (r : Addr) (xs : List V) (H' : Hp), Same H H' → H r = none → H' r = some (.lst xs) → Rows H' xs ((rowsC bs ns).filter (p least)) → Q (.ref r) H'
def ofP (least : Int) (r : Int × Int) : Bool := decide (r.2 ≥ least)
def raP (least : Int) (r : Int × Int) : Bool := decide (r.2 < least)
def spNext : Sp := fun vs H Q _ => ∃ (a : Addr) (many : Int) (xs : List V) (rs : List (Int × Int)), vs = [.int many, .ref a] ∧ 0 ≤ many ∧ many ≤ 12 ∧ H a = some (.lst xs) ∧ Rows H xs rs ∧ (rs.map Prod.fst).Nodup ∧ (∀ r ∈ rs, Sm r.1) ∧ rs.length ≤ 4096 ∧
  ∀ (r : Addr) (ns : List Int) (H' : Hp), Same H H' → H r = none → ns.Perm (nextU many rs rs.length) → ns.Pairwise (· ≤ ·) → H' r = some (.lst (ns.map V.int)) → Q (.ref r) H'
def spLevels (K : PySem.W.Frag) : Sp := fun vs H Q _ => ∃ (b : Addr) (many : Int) (bs : List Int) (least : Int), vs = [.ref b, .int least] ∧ Bk K H b many bs ∧ bs.length ≤ 500 ∧ 0 ≤ many ∧ many ≤ 12 ∧ (∀ x ∈ bs, InB many x) ∧
  ∀ (r : Addr) (ls : List Addr) (H' : Hp), Same H H' → H r = none → H' r = some (.lst (ls.map V.ref)) → levR bs least (2 ^ many.toNat) ls.length = [] → (∀ k, k < ls.length → levR bs least (2 ^ many.toNat) k ≠ []) →
    (∀ (k : Nat) (a : Addr), ls[k]? = some a → H a = none ∧ a ≠ r ∧ RL H' a (levR bs least (2 ^ many.toNat) k)) → ls.Nodup → Q (.ref r) H'
def spOftenB (K : PySem.W.Frag) : Sp := fun vs H Q _ => ∃ (b : Addr) (many : Int) (bs : List Int) (least : Int), vs = [.ref b, .int least] ∧ Bk K H b many bs ∧ bs.length ≤ 500 ∧ 0 ≤ many ∧ many ≤ 12 ∧ (∀ x ∈ bs, InB many x) ∧
  ∀ (r : Addr) (xs : List V) (H' : Hp), Same H H' → H r = none → H' r = some (.lst xs) → Rows H' xs (oftenR bs least (2 ^ many.toNat)) → Q (.ref r) H'
theorem big5 {n : Nat} (h : n ≤ 65000) : n < sizeLine := Nat.lt_of_le_of_lt h (by decide)
end OL

namespace OL
open PySem L2
def rareR (bs : List Int) (least : Int) (n k : Nat) : List (Int × Int) := (rowsC bs (candL bs least n k)).filter (raP least)
def rare0 (bs : List Int) (least : Int) : List (Int × Int) := (rowsC bs [0]).filter (raP least)
def bordB (bs : List Int) (least : Int) (i : Nat) : Bool := !ofB bs least i && (fewF (i : Int)).all fun f => decide (least ≤ countF bs f)
def bordR (bs : List Int) (least : Int) (n : Nat) : List (Int × Int) := ((List.range n).filter (bordB bs least)).map fun (i : Nat) => ((i : Int), countF bs (i : Int))
def spBord (K : PySem.W.Frag) : Sp := fun vs H Q _ => ∃ (b : Addr) (many : Int) (bs : List Int) (least : Int), vs = [.ref b, .int least] ∧ Bk K H b many bs ∧ bs.length ≤ 500 ∧ 0 ≤ many ∧ many ≤ 12 ∧ (∀ x ∈ bs, InB many x) ∧
  ∀ (r : Addr) (xs : List V) (H' : Hp), Same H H' → H r = none → H' r = some (.lst xs) → Rows H' xs (bordR bs least (2 ^ many.toNat)) → Q (.ref r) H'
/-! ### the things of a lot below twelve, as the law tells them -/
def b12 (n : Nat) (t : Int) : Bool := Builtin.bitAnd ((n : Int) / 2 ^ t.toNat) 1 == 1
def th12 (n : Nat) : List Int := upto (b12 n) 12
def fw12 (n : Nat) : List Int := (th12 n).map fun t => (n : Int) - 1 * 2 ^ t.toNat
def spTh12 : Sp := fun vs H Q _ => ∃ n : Nat, vs = [.int (n : Int)] ∧ n < 4096 ∧ ∀ (r : Addr) (H' : Hp), Same H H' → H r = none → H' r = some (.lst ((th12 n).map V.int)) → Q (.ref r) H'
end OL

namespace OL
open PySem L2
def dLev (bs : List Int) (least : Int) (n L : Nat) : PyData := .list ((List.range L).map fun k => .list ((levR bs least n k).map dRow))
end OL

namespace L2
open PySem PySem.Spec PyProof.Rows
section
variable {X : Cx}
/-- sorted(d), d a dict of whole numbers -/
def rSortD : List V → Hp → VK → Prop := fun xs H Q => ∃ (d : Addr) (rs : List (Int × Int)), xs = [.ref d] ∧ H d = some (.dK (tabR rs)) ∧ ∀ (l : Addr) (ns : List Int), H l = none → ns.Perm (rs.map Prod.fst) → ns.Pairwise (· ≤ ·) → Q (.ref l) (upd H l (.lst (ns.map V.int)))
end
end L2

namespace OL
open PySem L2
def numR (rs : List (Int × Int)) (f : Int) : Int := ((rs.find? fun r => decide (r.1 = f)).map (·.2)).getD 0
theorem nn (i : Nat) : (0 : Int) ≤ (i : Int) := Int.natCast_nonneg i
section
variable {many : Int} {bs : List Int} (hb : ∀ x ∈ bs, InB many x)
include hb
def insideL (bs : List Int) (least : Int) (n : Nat) (j : Int) : List Int := ((bordR bs least n).filter fun r => Builtin.bitAnd r.1 j == r.1).map Prod.fst
def besideL (bs : List Int) (least : Int) (n : Nat) (j : Int) : List Int := ((bordR bs least n).filter fun r => (Builtin.bitAnd r.1 j == r.1) && !(r.1 == j)).map Prod.fst
end
def up1 (r : Int × Int) : Int × Int := (r.1, r.2 + 1)
end OL

namespace OL
open PySem L2
def wantB (many : Int) (bs : List Int) (rs : List (Int × Int)) (n : Int) : Bool := (!(closeF many bs n == n)) && (ptF rs n).isNone
def fewU (many : Int) (bs : List Int) : Nat → List (Int × Int)
  | 0 => []
  | n + 1 => if wantB many bs (fewU many bs n) (n : Int) = true then fewU many bs n ++ [((n : Int), closeF many bs (n : Int) - (n : Int))] else fewU many bs n
/-- a lot in the law's way: what breaks it -/
def brkL (many : Int) (bs : List Int) (lot o : Int) : Bool := (Builtin.bitAnd o lot == o) && !(Builtin.bitAnd (closeL many bs o) lot == closeL many bs o)
def wantsL (many : Int) (bs : List Int) (lot : Int) (ls : List Int) : Bool := (!(closeL many bs lot == lot)) && !(ls.any fun o => brkL many bs lot o)
def wlotsU (many : Int) (bs : List Int) : Nat → List Int
  | 0 => []
  | n + 1 => if wantsL many bs (n : Int) (wlotsU many bs n) = true then wlotsU many bs n ++ [(n : Int)] else wlotsU many bs n
section
variable {many : Int} {bs : List Int} (hb : ∀ x ∈ bs, InB many x)
include hb
end
def spKeeps : Sp := fun vs H Q _ => ∃ (a : Addr) (rs : List (Int × Int)) (lot : Int), vs = [.int lot, .ref a] ∧ RL H a rs ∧ ∀ H', Same H H' → Q (.bl (ptF rs lot).isNone) H'
def spFew (K : PySem.W.Frag) : Sp := fun vs H Q _ => ∃ (b : Addr) (many : Int) (bs : List Int), vs = [.ref b] ∧ Bk K H b many bs ∧ bs.length ≤ 500 ∧ 0 ≤ many ∧ many ≤ 12 ∧ (∀ x ∈ bs, InB many x) ∧ ∀ (r : Addr) (xs : List V) (H' : Hp), Same H H' → H r = none → H' r = some (.lst xs) → Rows H' xs (fewU many bs (2 ^ many.toNat)) → Q (.ref r) H'
def spWants (K : PySem.W.Frag) : Sp := fun vs H Q _ => ∃ (b o : Addr) (many : Int) (bs : List Int) (lot : Int) (ls : List Int), vs = [.ref b, .int lot, .ref o] ∧ Bk K H b many bs ∧ bs.length ≤ 500 ∧ 0 ≤ many ∧ many ≤ 12 ∧ SqL K H o (ls.map V.int) ∧ ∀ H', Same H H' → Q (.bl (wantsL many bs lot ls)) H'
end OL

namespace L2
open PySem PySem.Spec PyProof.Rows
section
variable {X : Cx} {e e3 : Expr} {te : TE} {t3 : TO} {pos p2 : Pos}
/-- xs[::-1] of a list -/
def tRev (K : PySem.W.Frag) (te : TE) (t3 : TO) : TE := fun σ H Q => te σ H fun x H1 => t3 σ H1 fun o H2 => ∃ a xs, o = some (-1) ∧ x = .ref a ∧ SqL K H2 a xs ∧ ∀ p, H2 p = none → Q (.ref p) (upd H2 p (.lst xs.reverse))
end
end L2

namespace OL
open PySem L2
def tw (r : Int × Int) : Int × Int := (r.1, 2 * r.2)
/-! ### two things exchanged -/
def exI (x s t : Int) : Int := if (Builtin.bitAnd (x / 2 ^ s.toNat) 1 == Builtin.bitAnd (x / 2 ^ t.toNat) 1) = true then x else Builtin.bitXor x (Builtin.bitOr (1 * 2 ^ s.toNat) (1 * 2 ^ t.toNat))
def sw (s t i : Nat) : Nat := if i = s then t else if i = t then s else i
theorem pow_nn (s : Nat) : (0 : Int) ≤ 1 * 2 ^ s := by rw [Int.one_mul, pow_cast]; exact Int.natCast_nonneg _
section
variable {many : Int} {bs : List Int} (hb : ∀ x ∈ bs, InB many x) {s t : Int}
include hb
end
def exR (s t : Int) (r : Int × Int) : Int × Int := (exI r.1 s t, r.2)
/-! ### slices -/
def spEx : Sp := fun vs H Q _ => ∃ x s t : Int, vs = [.int x, .int s, .int t] ∧ 0 ≤ s ∧ s ≤ 64 ∧ 0 ≤ t ∧ t ≤ 64 ∧ Q (.int (exI x s t)) H
end OL

namespace L2
open PySem PySem.Spec PyProof.Rows
/-! max(list of lists, key=len, default=[]) -/
section
variable {prog : Program} {w : World} {A : Around} {R : Result → Shared → Prop} {it : Addr} {fp wr : List Addr} {n : Nat} {PP : Nat → Value → Prop} {St : Nat → Heap → Prop} {h0 : Heap} {kf : Nat → Int} {d : Value}
end
section
variable {X : Cx}
def tMaxLen (K : PySem.W.Frag) (ta : TA) : TE := fun σ H Q => ta σ H fun vs H1 => ∃ (a : Addr) (xs : List Addr) (ys : Nat → List V), vs = [.ref a] ∧ SqL K H1 a (xs.map V.ref) ∧ (∀ i x, xs[i]? = some x → SqL K H1 x (ys i)) ∧
  ∀ d, H1 d = none → (xs = [] → Q (.ref d) (upd H1 d (.lst []))) ∧ (∀ i x, xs[i]? = some x → (∀ j, j < xs.length → (ys j).length ≤ (ys i).length) → Q (.ref x) (upd H1 d (.lst [])))
end
end L2

namespace OL
open PySem L2
section
variable {many : Int} {bs : List Int} (hb : ∀ x ∈ bs, InB many x)
include hb
end
def Heads (H : Hp) (c : Int) (xs : List Addr) : Prop := ∀ x ∈ xs, ∃ t : List Int, H x = some (.lst ((c :: t).map V.int))
def spLongest : Sp := fun vs H Q _ => ∃ (a : Addr) (rs : List (Int × Int)), vs = [.ref a] ∧ RL H a rs ∧ rs.length ≤ 1000 ∧ (∀ q rs', rs = q :: rs' → ∀ r ∈ rs, hasF r.1 q.1 = true) ∧
  ∀ (r : Addr) (ys : List Int) (H' : Hp), Same H H' → H' r = some (.lst (ys.map V.int)) → (rs = [] → ys = []) → (∀ q rs', rs = q :: rs' → ∃ t, ys = q.1 :: t) → Q (.ref r) H'
def spLongestOf (K : PySem.W.Frag) : Sp := fun vs H Q _ => ∃ (a : Addr) (xs : List Addr) (ys : Nat → List V), vs = [.ref a] ∧ SqL K H a (xs.map V.ref) ∧ (∀ i x, xs[i]? = some x → SqL K H x (ys i)) ∧
  ∀ (H' : Hp), Same H H' → (∀ d, xs = [] → H d = none → H' d = some (.lst []) → Q (.ref d) H') ∧ (∀ i x, xs[i]? = some x → (∀ j, j < xs.length → (ys j).length ≤ (ys i).length) → Q (.ref x) H')
def spOrder : Sp := fun vs H Q _ => ∃ (p l : Addr) (x y z : Int) (bs : List Int), vs = [.ref p, .ref l] ∧ H p = some (.lst [.int x, .int y, .int z]) ∧ H l = some (.lst (bs.map V.int)) ∧ p ≠ l ∧ bs.length ≤ 500 ∧
  ∀ (r : Addr) (bs' : List Int) (x' y' z' : Int) (H' : Hp), SameB p H H' → H r = none → H' r = some (.lst (bs'.map V.int)) → bs'.Perm bs → H' p = some (.lst [.int x', .int y', .int z']) → Q (.ref r) H'
end OL

namespace OL
open PySem L2
/-! ### lots cut out: at least as many as there are unlike baskets -/
/-- every part of x is some member's part in x -/
def cutB (F : List Nat) (n x : Nat) : Bool := (List.range n).all fun y => (!(y &&& x == y)) || F.any fun b => b &&& x == y
end OL

namespace L2
open PySem PySem.Spec PyProof.Rows
theorem paired_of {α β : Type} {F : α → β → Prop} : ∀ {l₁ : List α} {l₂ : List β}, l₁.length = l₂.length → (∀ (i : Nat) x y, l₁[i]? = some x → l₂[i]? = some y → F x y) → Paired F l₁ l₂
  | [], [], _, _ => .nil
  | [], _ :: _, h, _ => by simp at h
  | _ :: _, [], h, _ => by simp at h
  | a :: l, b :: m, h, hf => .cons (hf 0 a b rfl rfl) (paired_of (by simpa using h) fun i x y hx hy => hf (i + 1) x y (by simpa using hx) (by simpa using hy))
/-- new objects, several at once -/
def mrg (H N : Hp) : Hp := fun b => match N b with | some o => some o | none => H b
section
variable {X : Cx}
/-- list(d.items()), d a dict of whole numbers to whole numbers -/
def tListItems (te : TE) : TE := fun σ H Q => te σ H fun x H1 => ∃ (d : Addr) (rs : List (Int × Int)), x = .ref d ∧ H1 d = some (.dK (tabR rs)) ∧
  ∀ (l : Addr) (xs : List V) (H2 : Hp), Same H1 H2 → H1 l = none → H2 l = some (.lst xs) → Rows H2 xs rs → Q (.ref l) H2
open Classical in
noncomputable def rowN (L : Addr) (as : List Addr) (rs : List (Int × Int)) : Hp := fun b => if b = L then some (.lst (as.map V.ref)) else if h : ∃ j : Nat, as[j]? = some b then some (.tup [.int (rs.getD h.choose (0, 0)).1, .int (rs.getD h.choose (0, 0)).2]) else none
end
end L2

namespace L2
open PySem PySem.Spec PyProof.Rows
end L2
namespace OL
open PySem L2
/-! ### parts of a lot -/
def wiF (n : Nat) (i : Nat) : List Int := ((List.range i).filter fun (y : Nat) => Builtin.bitAnd (y : Int) (n : Int) == (y : Int)).map fun (y : Nat) => (y : Int)
def cutI' (bs : List Int) (lot : Int) : List Int := bs.map fun b => Builtin.bitAnd b lot
def toldF (bs : List Int) (n : Nat) (lot : Int) : List Int := (justU (cutI' bs lot) n).map Prod.fst
def cOut (bs : List Int) (n x : Nat) : Bool := toldF bs n (x : Int) == wiF x (x + 1)
def outL (bs : List Int) (n i : Nat) : List Int := ((List.range i).filter (cOut bs n)).map fun (x : Nat) => (x : Int)
def fewL (k : Int) (i : Nat) : List Int := ((List.range i).filter fun x => decide ((sz x : Int) < k)).map fun (x : Nat) => (x : Int)
/-! ### counting in a dict -/
def CInv (cs : List Int) (rs : List (Int × Int)) : Prop := (rs.map Prod.fst).Nodup ∧ (∀ r ∈ rs, r.1 ∈ cs ∧ r.2 = (eqN cs r.1 : Int)) ∧ ∀ x ∈ cs, ∃ r ∈ rs, r.1 = x
def addR (rs : List (Int × Int)) (x : Int) : List (Int × Int) := if inR rs x = true then rs.map (fun r => if r.1 = x then (r.1, r.2 + 1) else r) else rs ++ [(x, 1)]
def spSz : Sp := fun vs H Q _ => ∃ n : Nat, vs = [.int (n : Int)] ∧ n < 4096 ∧ ∀ H', Same H H' → Q (.int (sz n : Int)) H'
def spWi : Sp := fun vs H Q _ => ∃ n : Nat, vs = [.int (n : Int)] ∧ n < 4096 ∧ ∀ (r : Addr) (H' : Hp), Same H H' → H r = none → H' r = some (.lst ((wiF n (n + 1)).map V.int)) → Q (.ref r) H'
def spJu (K : PySem.W.Frag) : Sp := fun vs H Q _ => ∃ (l : Addr) (many : Int) (bs : List Int), vs = [.int many, .ref l] ∧ SqL K H l (bs.map V.int) ∧ bs.length ≤ 100 ∧ 0 ≤ many ∧ many ≤ 5 ∧ (∀ x ∈ bs, InB many x) ∧ ∀ (r : Addr) (xs : List V) (H' : Hp), Same H H' → H r = none → H' r = some (.lst xs) → Rows H' xs (justU bs (2 ^ many.toNat)) → Q (.ref r) H'
def spCt (K : PySem.W.Frag) : Sp := fun vs H Q _ => ∃ (l : Addr) (many : Int) (bs : List Int), vs = [.ref l] ∧ SqL K H l (bs.map V.int) ∧ bs.length ≤ 100 ∧ (∀ x ∈ bs, InB many x) ∧ ∀ (r : Addr) (xs : List V) (H' : Hp), Same H H' → H r = none → H' r = some (.lst xs) → Rows H' xs (justU bs (2 ^ many.toNat)) → Q (.ref r) H'
def spLo : Sp := fun vs H Q _ => ∃ (p : Addr) (many rows x y z : Int), vs = [.ref p, .int many, .int rows] ∧ 1 ≤ many ∧ many ≤ 5 ∧ 0 ≤ rows ∧ rows ≤ 30 ∧ H p = some (.lst [.int x, .int y, .int z]) ∧
  ∀ (r : Addr) (bs : List Int) (x' y' z' : Int) (H' : Hp), SameB p H H' → H r = none → H' r = some (.lst (bs.map V.int)) → bs.length ≤ 100 → (∀ x ∈ bs, InB many x) → H' p = some (.lst [.int x', .int y', .int z']) → Q (.ref r) H'
end OL

/-! a comprehension whose own names may be cells (a comprehension within it reads them) -/
namespace L2
open PySem PySem.Spec PyProof.Rows

theorem cellsFrom_app : ∀ (names : List (Str × NameKind)) (n : Nat) (acc : List (Str × Addr)), cellsFrom n names acc = cellsFrom n names [] ++ acc
  | [], _, _ => rfl
  | (name, kind) :: r, n, acc => by
    unfold cellsFrom
    split
    · rw [cellsFrom_app r (n + 1) ((name, n) :: acc), cellsFrom_app r (n + 1) [(name, n)], List.append_assoc]; rfl
    · exact cellsFrom_app r n acc
theorem cellsFrom_mem : ∀ (names : List (Str × NameKind)) (n : Nat) (acc : List (Str × Addr)) {x : Str} {c : Addr}, (x, c) ∈ cellsFrom n names acc → (x, NameKind.cell) ∈ names ∨ (x, c) ∈ acc
  | [], _, _, _, _, h => .inr h
  | (name, kind) :: r, n, acc, x, c, h => by
    unfold cellsFrom at h
    split at h
    · rename_i hk
      rcases cellsFrom_mem r (n + 1) _ h with z | z
      · exact .inl (List.mem_cons_of_mem _ z)
      · rcases List.mem_cons.mp z with e | z
        · cases e
          have : kind = .cell := by simpa using hk
          subst this
          exact .inl List.mem_cons_self
        · exact .inr z
    · rcases cellsFrom_mem r n _ h with z | z
      · exact .inl (List.mem_cons_of_mem _ z)
      · exact .inr z

theorem lookup_app {l1 l2 : List (Str × Addr)} {x : Str} : (l1 ++ l2).lookup x = match l1.lookup x with | some c => some c | none => l2.lookup x := by
  induction l1 with
  | nil => rfl
  | cons p r ih =>
    obtain ⟨n, c⟩ := p
    rw [List.cons_append, List.lookup_cons, List.lookup_cons]
    cases x == n with
    | true => rfl
    | false => exact ih

theorem wpAny_newFunctionEnv_comp {M : Model} {A : Around} {E : Value → Shared → Prop} {s : Shared} {scope : Scope} {globals : Addr} {cl : List (Str × Addr)} {qual : Str} {env : Env} {Q : Env → Shared → Prop}
    (hQ : Q (newEnv scope s.heap.objs.size globals (cellsFrom (s.heap.objs.size + 1) scope.names cl) qual none .none (some env) builtinsNs) { s with heap := pushCells (s.heap.push { cls := .type "dict", data := .dict #[] }) scope.names }) :
    wpAny M A (newFunctionEnv scope globals cl [] qual none .none (some env)) Q E s := by
  simp only [newFunctionEnv, Option.isSome_some, if_true]
  refine wpAny_bind (wpAny_alloc ?_)
  refine wpAny_bind (wpAny_layCells _ (fun name kind cells => by cases hkc : kind == NameKind.cell <;> simp [hkc]) _ _ _ _ ?_)
  rw [show ({ s with heap := s.heap.push { cls := .type "dict", data := .dict #[] } } : Shared).heap.objs.size = s.heap.objs.size + 1 from Heap.size_push ..]
  refine wpAny_bind ?_
  rw [List.forIn_nil]
  exact wpAny_pure (wpAny_pure hQ)

/-- the scope that stands there, or one relabelled -/
def RelSc (a b : Scope) : Prop := a = b ∨ ∃ env, a = relabel b env
theorem relabel_kept {scope : Scope} {env : Env} {x : Str} (h : scope.names.lookup x = some .cell ∨ scope.names.lookup x = some .free) : (relabel scope env).names.lookup x = some .cell ∨ (relabel scope env).names.lookup x = some .free := by
  have go : ∀ names : List (Str × NameKind), (names.lookup x = some .cell ∨ names.lookup x = some .free) → (names.map fun (n, k) => if (k == NameKind.free && env.scope.kind == .function && env.kindOf n == some .cell) then (n, NameKind.cell) else (n, k)).lookup x = some .cell ∨
      (names.map fun (n, k) => if (k == NameKind.free && env.scope.kind == .function && env.kindOf n == some .cell) then (n, NameKind.cell) else (n, k)).lookup x = some .free := by
    intro names
    induction names with
    | nil => intro h; rcases h with h | h <;> cases h
    | cons p r ih =>
      obtain ⟨n, k⟩ := p
      intro h
      rw [List.lookup_cons] at h
      rw [List.map_cons]
      by_cases hc : (k == NameKind.free && env.scope.kind == .function && env.kindOf n == some .cell) = true
      · simp only [hc, if_true]
        rw [List.lookup_cons]
        cases hx : x == n with
        | true => exact .inl rfl
        | false => rw [hx] at h; exact ih h
      · have hc' : (k == NameKind.free && env.scope.kind == .function && env.kindOf n == some .cell) = false := by simpa using hc
        simp only [hc', Bool.false_eq_true, if_false]
        rw [List.lookup_cons]
        cases hx : x == n with
        | true => rw [hx] at h; exact h
        | false => rw [hx] at h; exact ih h
  exact go _ h

def Cx.compC (X : Cx) (scope : Scope) (own : List Str) (js : List Nat) (cl : List (Str × Addr)) (s : Shared) (H : Hp) (C : Addr) (fp : List Addr) : Cx :=
  { prog := X.prog, w := X.w, K := X.K, mg := X.mg, base := X.base, A := X.A, N := own ++ js.map (fun j => X.N.getD j ""), s₀ := s, H₀ := H, env := compEnvC scope cl C X.env, outer := X.stack, stack := X.stack, ex := fp,
    fn := fun x => scope.names.lookup x == some .cell, calm := X.calm, pn := [], xe := fun _ _ => False }
structure CompScopeCN (sc : Scope) (N : List Str) (scope : Scope) (js : List Nat) : Prop where
  kind : scope.kind = .function
  cell : ∀ x ∈ scope.names, x.2 = .cell → scope.names.lookup x.1 = some .cell
  names : ∀ x ∈ scope.names, x.2 = .local → scope.names.lookup x.1 = some .local
  free : ∀ x ∈ scope.names, x.2 = .free → sc.names.lookup x.1 = some .cell ∨ sc.names.lookup x.1 = some .free
  js : ∀ j ∈ js, scope.names.lookup (N.getD j "") ≠ some .local ∧ scope.names.lookup (N.getD j "") ≠ some .cell
structure CompScopeC (X : Cx) (scope : Scope) (own : List Str) (js : List Nat) : Prop where
  kind : scope.kind = .function
  cell : ∀ x ∈ scope.names, x.2 = .cell → scope.names.lookup x.1 = some .cell
  names : ∀ x ∈ scope.names, x.2 = .local → scope.names.lookup x.1 = some .local
  free : ∀ x ∈ scope.names, x.2 = .free → X.env.kindOf x.1 = some .cell ∨ X.env.kindOf x.1 = some .free
  js : ∀ j ∈ js, scope.names.lookup (X.N.getD j "") ≠ some .local ∧ scope.names.lookup (X.N.getD j "") ≠ some .cell

section
variable {X : Cx} {scope : Scope} {own : List Str} {js : List Nat}
theorem CompScopeCN.cs {sc : Scope} {N : List Str} (S : CompScopeCN sc N scope js) (h1 : RelSc X.env.scope sc) (h2 : X.N = N) : CompScopeC X scope own js := by
  subst h2
  refine ⟨S.kind, S.cell, S.names, fun x hx hf => ?_, S.js⟩
  have := S.free x hx hf
  rcases h1 with e | ⟨env, e⟩
  · show X.env.scope.names.lookup _ = _ ∨ X.env.scope.names.lookup _ = _
    rw [e]; exact this
  · show X.env.scope.names.lookup _ = _ ∨ X.env.scope.names.lookup _ = _
    rw [e]; exact relabel_kept this

/-- what the cells of the block are: the closure's, and new ones -/
structure CellsIn (X : Cx) (scope : Scope) (cl : List (Str × Addr)) (C : Addr) (h1 : Heap) : Prop where
  what : ∀ x c, cl.lookup x = some c → (X.env.cells.lookup x = some c ∧ (x, NameKind.cell) ∉ scope.names) ∨ (@LT.lt Nat _ C c ∧ h1.IsCell c none ∧ (x, NameKind.cell) ∈ scope.names)
  inj : ∀ x y c, (x, NameKind.cell) ∈ scope.names → (y, NameKind.cell) ∈ scope.names → cl.lookup x = some c → cl.lookup y = some c → x = y
  has : ∀ n, (n, NameKind.free) ∈ scope.names ∨ (n, NameKind.cell) ∈ scope.names → ∃ c, cl.lookup n = some c

theorem cells_in {cl0 : List (Str × Addr)} {h : Heap} {C : Addr} (S : CompScopeC X scope own js) (hcl : ∀ x c, cl0.lookup x = some c → X.env.cells.lookup x = some c) (hcl2 : ∀ n, (n, NameKind.free) ∈ scope.names → ∃ c, cl0.lookup n = some c)
    (hC : @Eq Nat h.objs.size (C + 1)) : CellsIn X scope (cellsFrom (C + 1) scope.names cl0) C (pushCells h scope.names) := by
  have ok := cellsFrom_ok scope.names h (C + 1) [] ⟨fun _ _ hm => (nomatch hm), List.Pairwise.nil⟩ (Nat.le_of_eq hC.symm)
  rw [hC] at ok
  have cases2 : ∀ x c, (cellsFrom (C + 1) scope.names cl0).lookup x = some c → ((cellsFrom (C + 1) scope.names []).lookup x = some c) ∨ ((cellsFrom (C + 1) scope.names []).lookup x = none ∧ cl0.lookup x = some c) := fun x c e => by
    rw [cellsFrom_app, lookup_app] at e
    cases q : (cellsFrom (C + 1) scope.names []).lookup x with
    | some c' => rw [q] at e; exact .inl e
    | none => rw [q] at e; exact .inr ⟨rfl, e⟩
  have newMem : ∀ x c, (cellsFrom (C + 1) scope.names []).lookup x = some c → (x, NameKind.cell) ∈ scope.names := fun x c e => (cellsFrom_mem _ _ _ (PySem.mem_of_lookup e)).elim id fun z => nomatch z
  have newHas : ∀ x, (x, NameKind.cell) ∈ scope.names → ∃ c, (cellsFrom (C + 1) scope.names []).lookup x = some c := fun x hx => Option.isSome_iff_exists.mp (PySem.W.cellsFrom_some scope.names _ [] (.inl (S.cell _ hx rfl)))
  refine ⟨fun x c e => ?_, fun x y c hx hy e1 e2 => ?_, fun n hn => ?_⟩
  · rcases cases2 x c e with q | ⟨q, e⟩
    · obtain ⟨z1, z2⟩ := ok.empty x c (PySem.mem_of_lookup q)
      exact .inr ⟨z2, z1, newMem x c q⟩
    · refine .inl ⟨hcl x c e, fun hm => ?_⟩
      obtain ⟨c', e'⟩ := newHas x hm
      rw [q] at e'; cases e'
  · have g : ∀ x, (x, NameKind.cell) ∈ scope.names → (cellsFrom (C + 1) scope.names cl0).lookup x = some c → (cellsFrom (C + 1) scope.names []).lookup x = some c := fun x hm e => by
      rcases cases2 x c e with q | ⟨q, e⟩
      · exact q
      · obtain ⟨c', e'⟩ := newHas x hm
        rw [q] at e'; cases e'
    exact name_of_addr ok.apart (PySem.mem_of_lookup (g x hx e1)) (PySem.mem_of_lookup (g y hy e2))
  · rw [cellsFrom_app, lookup_app]
    cases q : (cellsFrom (C + 1) scope.names []).lookup n with
    | some c' => exact ⟨c', rfl⟩
    | none =>
      rcases hn with hn | hn
      · exact hcl2 n hn
      · obtain ⟨c', e'⟩ := newHas n hn
        rw [q] at e'; cases e'

theorem comp_startC {pins : List (Addr × Obj)} {σ : St} {H : Hp} {s : Shared} {cl : List (Str × Addr)} {fp : List Addr} {h1 : Heap} {C : Addr} {m : Str → Option Value} {t1 : Nat} (S : CompScopeC X scope own js) (I : Inv X pins σ H s)
    (hf : ∀ b ∈ fp, FpOk X pins H b ∧ b < s.heap.objs.size)
    (CI : CellsIn X scope cl C h1)
    (hC : @Eq Nat C (s.heap.objs.size + 1)) (hns : h1.Ns C m) (hk : ∀ b o, s.heap.get? b = some o → h1.get? b = some o) (hn : h1.get? s.heap.objs.size = some { cls := .type "list", dict := none, data := .seq ([] : List Value).toArray }) :
    Inv (X.compC scope own js cl s H C fp) [] (pick own.length js σ) (upd H s.heap.objs.size (.lst [])) { s with heap := h1, toks := t1 } := by
  have below : ∀ b, b < s.heap.objs.size → b ≠ C ∧ b ≠ s.heap.objs.size := fun b hb => ⟨Nat.ne_of_lt (Nat.lt_of_lt_of_eq (Nat.lt_succ_of_lt hb) hC.symm), Nat.ne_of_lt hb⟩
  have kinds : ∀ x, ((X.compC scope own js cl s H C fp).env.kindOf x = some .cell ∨ (X.compC scope own js cl s H C fp).env.kindOf x = some .free) → (x, NameKind.free) ∈ scope.names ∨ (x, NameKind.cell) ∈ scope.names := fun x hx => by
    have hx : (relabel scope X.env).names.lookup x = some .cell ∨ (relabel scope X.env).names.lookup x = some .free := hx
    rcases hx with hx | hx
    · obtain ⟨k, q1, q2⟩ := relabel_lookup hx
      rcases q2 with q2 | ⟨q2, _⟩
      · subst q2; exact .inr (PySem.mem_of_lookup q1)
      · exact .inl (q2 ▸ PySem.mem_of_lookup q1)
    · obtain ⟨k, q1, q2⟩ := relabel_lookup hx
      rcases q2 with q2 | ⟨_, q2⟩
      · exact .inl (q2 ▸ PySem.mem_of_lookup q1)
      · cases q2
  have hCle : s.heap.objs.size ≤ C := Nat.le_of_lt (Nat.lt_of_lt_of_eq (Nat.lt_succ_self _) hC.symm)
  have hCne : C ≠ s.heap.objs.size := Nat.ne_of_gt (Nat.lt_of_lt_of_eq (Nat.lt_succ_self _) hC.symm)
  have accn : H s.heap.objs.size = none := I.hok.fresh (Nat.le_refl _)
  have oldLt : ∀ x c, X.env.cells.lookup x = some c → c < s.heap.objs.size := fun x c e => by
    obtain ⟨v, z⟩ := I.cell x c e
    exact z.lt
  have inj : ∀ x y c, cl.lookup x = some c → cl.lookup y = some c → x = y := fun x y c e1 e2 => by
    rcases CI.what x c e1 with ⟨a1, _⟩ | ⟨a1, _, a3⟩ <;> rcases CI.what y c e2 with ⟨b1, _⟩ | ⟨b1, _, b3⟩
    · exact I.ok.inj x y c a1 b1
    · exact absurd (Nat.lt_of_lt_of_le (oldLt x c a1) hCle) (Nat.lt_asymm b1)
    · exact absurd (Nat.lt_of_lt_of_le (oldLt y c b1) hCle) (Nat.lt_asymm a1)
    · exact CI.inj x y c a3 b3 e1 e2
  have cne : ∀ x c b, cl.lookup x = some c → b < s.heap.objs.size → (∀ x c, X.env.cells.lookup x = some c → c ≠ b) → c ≠ b := fun x c b e lt h => by
    rcases CI.what x c e with ⟨a1, _⟩ | ⟨a1, _⟩
    · exact h x c a1
    · exact Nat.ne_of_gt (Nat.lt_trans (Nat.lt_of_lt_of_le lt hCle) a1)
  refine ⟨⟨I.ok.mod, S.kind, I.ok.glob, I.ok.blt, hCle, inj, fun x hx => CI.has x (kinds x hx), fun x c hfn e => ?_, I.ok.hd, I.ok.frames, .inl rfl, fun b hb => ?_, I.bs, Nat.le_trans I.ok.bsz I.sz, fun b o e hb => ?_, fun b hb => ?_, I.stack, I.stkFree⟩,
    rfl, I.bare, ?_, ⟨m, hns, fun i x v e1 e2 e3 => ?_⟩, fun x c e => ?_, ?_, fun x c e => ?_, fun p hp => absurd (show p ∈ ([] : List (Addr × Obj)) from hp) (by simp), ?_, ?_⟩
  · have hfn : (scope.names.lookup x == some .cell) = true := hfn
    have hm := PySem.mem_of_lookup (eq_of_beq hfn)
    rcases CI.what x c e with ⟨_, a1⟩ | ⟨a1, _⟩
    · exact absurd hm a1
    · exact Nat.le_of_lt (Nat.lt_of_le_of_lt hCle a1)
  · obtain ⟨⟨f0, f1, f2, f3, f4, f5⟩, lt⟩ := hf b hb
    exact ⟨(below b lt).1, fun x c e => cne x c b e lt f4⟩
  · obtain ⟨⟨f0, f1, f2, f3, f4, f5⟩, lt⟩ := hf b hb
    rcases f3 with z | z
    · exact I.ok.noex b o e z
    · exact Nat.lt_irrefl _ (Nat.lt_of_lt_of_le (Heap.lt_size e) (Nat.le_trans I.ok.bsz z))
  · obtain ⟨⟨f0, f1, f2, f3, f4, f5⟩, lt⟩ := hf b hb
    exact fun z => (List.mem_cons.mp (I.stkSub b z)).elim f1 f2
  · exact Un.laid hk (Nat.le_refl _) accn
  · have hi : ¬ i < own.length := fun hi => by
      unfold pick at e2
      rw [List.getElem?_append_left (by simpa using hi), List.getElem?_replicate] at e2
      split at e2 <;> cases e2
    unfold pick at e2
    rw [List.getElem?_append_right (by simpa using hi), List.length_replicate] at e2
    have e1 : (own ++ js.map (fun j => X.N.getD j ""))[i]? = some x := e1
    rw [List.getElem?_append_right (by omega)] at e1
    rw [List.getElem?_map] at e1 e2
    cases ej : js[i - own.length]? with
    | none => rw [ej] at e1; cases e1
    | some j =>
      rw [ej] at e1 e2
      have e1 : X.N.getD j "" = x := Option.some.inj e1
      have e2 : (σ[j]?).join = some v := Option.some.inj e2
      have e2' : σ[j]? = some (some v) := by
        cases q : σ[j]? with
        | none => rw [q] at e2; cases e2
        | some o => rw [q] at e2; have : o = some v := e2; rw [this]
      have hj : j < X.N.length := by
        have := (List.getElem?_eq_some_iff.mp e2').1
        rw [I.len] at this; exact this
      have e1' : X.N[j]? = some x := by
        rw [← e1, List.getD_eq_getElem?_getD, List.getElem?_eq_getElem hj]; rfl
      have e3 : Vis (relabel scope X.env) x := e3
      have notl : ¬ (x, NameKind.cell) ∈ scope.names := fun hm => (S.js j (List.mem_of_getElem? ej)).2 (by rw [e1]; exact S.cell _ hm rfl)
      have hfr : (x, NameKind.free) ∈ scope.names := by
        rcases e3 with e3 | e3 | e3
        · obtain ⟨k, q1, q2⟩ := relabel_lookup e3
          rcases q2 with q2 | ⟨_, q2⟩
          · subst q2
            exact absurd (e1 ▸ q1) (S.js j (List.mem_of_getElem? ej)).1
          · cases q2
        · exact (kinds x (.inl e3)).elim id fun z => absurd z notl
        · exact (kinds x (.inr e3)).elim id fun z => absurd z notl
      have hkind := S.free _ hfr rfl
      obtain ⟨m0, hn0, hl0⟩ := I.loc
      have hv : Vis X.env.scope x := by
        rcases hkind with z | z
        · exact .inr (.inl z)
        · exact .inr (.inr z)
      obtain ⟨u, r, lk⟩ := hl0 j x v e1' e2' hv
      refine ⟨u, r, ?_⟩
      rcases lk with ⟨z, _⟩ | ⟨_, c, ec, hc⟩
      · rcases hkind with q | q <;> (rw [z] at q; cases q)
      · obtain ⟨c', ec'⟩ := CI.has x (.inl hfr)
        have : c' = c := by
          rcases CI.what x c' ec' with ⟨a1, _⟩ | ⟨_, _, a3⟩
          · rw [ec] at a1; cases a1; rfl
          · exact absurd a3 notl
        subst this
        refine .inr ⟨?_, c', ec', ?_⟩
        · rcases e3 with e3 | e3 | e3
          · obtain ⟨k, q1, q2⟩ := relabel_lookup e3
            rcases q2 with q2 | ⟨_, q2⟩
            · subst q2
              exact absurd (e1 ▸ q1) (S.js j (List.mem_of_getElem? ej)).1
            · cases q2
          · exact .inl e3
          · exact .inr e3
        · obtain ⟨oc, hoc, hd⟩ := hc
          exact ⟨oc, hk _ _ hoc, hd⟩
  · rcases CI.what x c e with ⟨a1, _⟩ | ⟨_, a2, _⟩
    · obtain ⟨v, oc, hoc, hd⟩ := I.cell x c a1
      exact ⟨v, oc, hk _ _ hoc, hd⟩
    · exact ⟨none, a2⟩
  · show upd H s.heap.objs.size (.lst []) C = none
    rw [upd_ne hCne]
    exact I.hok.fresh hCle
  · rcases CI.what x c e with ⟨a1, _⟩ | ⟨a1, a2, _⟩
    · rw [upd_ne (below c (oldLt x c a1)).2]
      exact I.freeC x c a1
    · rw [upd_ne (Nat.ne_of_gt (Nat.lt_of_le_of_lt hCle a1))]
      exact I.hok.fresh (Nat.le_of_lt (Nat.lt_of_le_of_lt hCle a1))
  · refine I.hok.laid hk (Nat.le_refl _) ⟨by show 0 ≤ sizeLine; exact Nat.zero_le _, [], 0, .nil, ?_⟩
    exact hn
  · unfold pick
    show _ = (own ++ js.map (fun j => X.N.getD j "")).length
    rw [List.length_append, List.length_append, List.length_replicate, List.length_map, List.length_map]
end

section
variable {X : Cx} {scope : Scope} {own : List Str} {js : List Nat} {tg iter elt : Expr} {ifs : List Expr} {pos : Pos} {wi : TI} {g : TG} {c : TT} {te : TE}
theorem comp_leaveC {pins : List (Addr × Obj)} {σ σ' : St} {H H' : Hp} {s s' : Shared} {cl : List (Str × Addr)} {fp : List Addr} {C : Addr} (I : Inv X pins σ H s) (hf : ∀ b ∈ fp, FpOk X pins H b)
    (J : Inv (X.compC scope own js cl s H C fp) [] σ' H' s') : Inv X pins σ H' s' :=
  I.call' (ch := fp) J.os J.base J.hok J.bare fun b hb => by
    obtain ⟨f0, f1, f2, f3, f4, f5⟩ := hf b hb
    exact ⟨f3, f1, f4, f5⟩

theorem comp_coreC {pins : List (Addr × Obj)} {σ : St} {H : Hp} {s : Shared} {cl0 : List (Str × Addr)} {fp : List Addr} {it : Addr} {tn : Nat → Heap → Prop} {J : It} {Q : VK} {E : Value → Shared → Prop} {RR : Value → Addr → Result → Shared → Prop}
    (hc : X.calm = true) (S : CompScopeC X scope own js) (I : Inv X pins σ H s) (T : Turn X.prog X.w X.K tg J fp it tn) (t0 : tn 0 s.heap) (hf : ∀ b ∈ fp, FpOk X pins H b)
    (hcl : ∀ x c, cl0.lookup x = some c → X.env.cells.lookup x = some c) (hcl2 : ∀ n, (n, NameKind.free) ∈ scope.names → ∃ c, cl0.lookup n = some c)
    (hg : ∀ cl s H C fp, PG (X.compC scope own js cl s H C fp) tg g) (hi : ∀ cl s H C fp, PIfs (X.compC scope own js cl s H C fp) ifs c) (he : ∀ cl s H C fp, PE (X.compC scope own js cl s H C fp) elt te)
    (q : tCompR own.length js g c te J σ H Q)
    (hRR : ∀ acc C cl H' s', s.heap.objs.size ≤ C → Inv (X.compC scope own js cl s H C fp) [] (pick own.length js σ) H' s' → Q (.ref acc) H' → RR (.ref acc) C (.ok .next) s') :
    wpAny (model X.prog X.w) X.A (newList []) (fun acc s3 => wpAny (model X.prog X.w) X.A (newFunctionEnv scope X.env.globals cl0 [] X.env.qual none .none (some X.env)) (fun cenv s4 =>
      codeAny (model X.prog X.w) X.A (.compStart (.ListComp elt [⟨tg, iter, ifs, 0⟩] scope pos) 0 (.ref it) acc { cenv with scope := relabel scope X.env }) (RR acc cenv.locals) s4) E s3) E s := by
  refine wpAny_newObj_type (wpAny_newFunctionEnv_comp ?_)
  dsimp only
  generalize hH2 : s.heap.push { cls := .type "list", dict := none, data := .seq ([] : List Value).toArray } = H2
  have hC : @Eq Nat H2.objs.size (s.heap.objs.size + 1) := by rw [← hH2, Heap.size_push]
  have hDC : s.heap.objs.size ≠ H2.objs.size := by rw [hC]; exact Nat.ne_of_lt (Nat.lt_succ_self _)
  have hCle : s.heap.objs.size ≤ H2.objs.size := by rw [hC]; exact Nat.le_succ _
  have CI := cells_in (h := H2.push { cls := .type "dict", data := .dict #[] }) (C := H2.objs.size) S hcl hcl2 (by rw [Heap.size_push])
  have hns1 : (pushCells (H2.push { cls := .type "dict", data := .dict #[] }) scope.names).Ns H2.objs.size fun _ => none := (Heap.Ns.new H2 (.type "dict")).keeps (pushCells_keeps _ _)
  have old2 : ∀ b o, H2.get? b = some o → (pushCells (H2.push { cls := .type "dict", data := .dict #[] }) scope.names).get? b = some o := fun b o e => pushCells_keeps _ _ b o (Heap.get?_push_of_some _ e)
  generalize hh1 : pushCells (H2.push { cls := .type "dict", data := .dict #[] }) scope.names = h1 at CI hns1 old2 ⊢
  generalize hcl' : cellsFrom (H2.objs.size + 1) scope.names cl0 = cl at CI ⊢
  have old : ∀ b o, s.heap.get? b = some o → h1.get? b = some o := fun b o e => old2 b o (hH2 ▸ Heap.get?_push_of_some _ e)
  have hacc : h1.get? s.heap.objs.size = some { cls := .type "list", dict := none, data := .seq ([] : List Value).toArray } := old2 _ _ (hH2 ▸ Heap.get?_push_size _ rfl)
  have hfl : ∀ b ∈ fp, FpOk X pins H b ∧ b < s.heap.objs.size := fun b hb => ⟨hf b hb, by
    obtain ⟨o, e, _⟩ := T.obj 0 s.heap t0 b hb
    exact Heap.lt_size e⟩
  obtain ⟨W, ⟨m0, w0⟩, turn⟩ := q s.heap.objs.size (I.hok.fresh (Nat.le_refl _))
  have I1 := comp_startC (t1 := s.toks) S I hfl CI hC hns1 old hacc
  have t1 : tn 0 h1 := T.keep 0 s.heap h1 t0 fun b _ o e => old b o e
  have stat : ∀ {pins' : List (Addr × Obj)} {H' : Hp}, (∀ b ∈ fp, H' b = none) → (∀ p ∈ pins', p.1 ∉ fp) → ∀ b ∈ fp, FpOk (X.compC scope own js cl s H H2.objs.size fp) pins' H' b := fun hn hp b hb => by
    obtain ⟨⟨f0, f1, f2, f3, f4, f5⟩, lt⟩ := hfl b hb
    refine ⟨hn b hb, Nat.ne_of_lt (Nat.lt_of_lt_of_le lt hCle), fun z => (List.mem_cons.mp (I.stkSub b z)).elim f1 f2, .inl hb, fun x c e => ?_, fun p hp' z => hp p hp' (z ▸ hb)⟩
    rcases CI.what x c e with ⟨a1, _⟩ | ⟨a1, _⟩
    · exact f4 x c a1
    · exact Nat.ne_of_gt (Nat.lt_trans (Nat.lt_of_lt_of_le lt hCle) a1)
  have fr0 : ∀ b ∈ fp, (upd H s.heap.objs.size (.lst [])) b = none := fun b hb => by
    obtain ⟨⟨f0, _⟩, lt⟩ := hfl b hb
    rw [upd_ne (Nat.ne_of_lt lt)]; exact f0
  have loop : ∀ s3 : Shared, s3 = { s with heap := h1 } →
      codeAny (model X.prog X.w) X.A (.compLoop (.ListComp elt [⟨tg, iter, ifs, 0⟩] scope pos) 0 (.ref it) (.ref s.heap.objs.size) (compEnvC scope cl H2.objs.size X.env)) (RR (.ref s.heap.objs.size) H2.objs.size) s3 := by
    rintro s3 rfl
    refine compLoop_any (fun n s' => ∃ i H', Inv (X.compC scope own js cl s H H2.objs.size fp) [] (pick own.length js σ) H' s' ∧ tn i s'.heap ∧ (∀ b ∈ fp, H' b = none) ∧ W i n H') ?_ m0 ⟨0, _, I1, t1, fr0, w0⟩
    rintro n s4 ⟨i, H4, I4, st4, fr4, w4⟩
    have noP : ∀ p ∈ ([] : List (Addr × Obj)), p.1 ∉ fp := fun p hp => nomatch hp
    rcases turn i n H4 w4 with ⟨stop, qn⟩ | ⟨go, step⟩
    · refine thn (T.done (X.compC scope own js cl s H H2.objs.size fp) rfl rfl rfl hc i [] s4 _ H4 (fun _ _ => False) I4 (stat fr4 noP) st4 stop) fun r s5 ⟨hr, I5⟩ => ?_
      subst hr
      exact hRR _ _ _ H4 s5 hCle I5 qn
    · refine thn (T.item (X.compC scope own js cl s H H2.objs.size fp) rfl rfl rfl hc i [] s4 _ H4 (fun _ _ => False) I4 (stat fr4 noP) st4 go) fun r s5 ⟨u, hr, h5⟩ => ?_
      subst hr
      refine thn h5 fun _ s6 ⟨x, H6, I6, r6, y6, st6, fr6⟩ => ?_
      have I6' := I6.pinned (stat fr6 noP) (T.obj _ _ st6)
      have again : ∀ {σ7 : St} {H7 : Hp} {s7 : Shared} {m' : Nat}, Wk (pick own.length js σ) σ7 → Inv (X.compC scope own js cl s H H2.objs.size fp) ([] ++ pinsAt fp s6.heap) σ7 H7 s7 → m' < n → W (i + 1) m' H7 →
          ∃ m, m < n ∧ ∃ i H', Inv (X.compC scope own js cl s H H2.objs.size fp) [] (pick own.length js σ) H' s7 ∧ tn i s7.heap ∧ (∀ b ∈ fp, H' b = none) ∧ W i m H' := fun {σ7 H7 s7 m'} wk I7 hm w7 => by
        refine ⟨m', hm, i + 1, H7, (I7.unpinned).weak wk.1 wk.2, T.keep _ _ _ st6 fun b hb o e => (I7.pin (b, o) (List.mem_append_right _ (List.mem_append_right _ (mem_pinsAt hb e)))).1, fun b hb => ?_, w7⟩
        obtain ⟨o, e, d⟩ := T.obj _ _ st6 b hb
        exact (I7.pin (b, o) (List.mem_append_right _ (List.mem_append_right _ (mem_pinsAt hb e)))).2.1
      refine thn (hg cl s H H2.objs.size fp _ s6 _ H6 x u _ I6' r6 (step x H6 y6)) fun _ s7 ⟨σ7, H7, I7, wk7, q7⟩ => ?_
      refine thn (hi cl s H H2.objs.size fp _ s7 σ7 H7 _ I7 q7) fun ok s8 ⟨H8, I8, q8⟩ => ?_
      cases ok with
      | false =>
        obtain ⟨m', hm, w8⟩ := (show ∃ m', m' < n ∧ W (i + 1) m' H8 from by simpa using q8)
        exact again wk7 I8 hm w8
      | true =>
        have q8 : te σ7 H8 fun y H4 => ∃ ys, H4 s.heap.objs.size = some (.lst ys) ∧ ys.length < sizeLine ∧ ∃ m', m' < n ∧ W (i + 1) m' (upd H4 s.heap.objs.size (.lst (ys ++ [y]))) := by simpa using q8
        refine thn (he cl s H H2.objs.size fp _ s8 σ7 H8 _ I8 q8) fun yv s9 ⟨y, H9, I9, r9, ys, hy, hz, m', hm, w9⟩ => ?_
        refine thn (mt_append (X := X.compC scope own js cl s H H2.objs.size fp) _ s9 σ7 H9 (.ref s.heap.objs.size) [y] (.ref s.heap.objs.size) [yv] (fun _ H' => W (i + 1) m' H') I9 rfl (.cons r9 .nil) ⟨_, ys, y, rfl, rfl, hy, hz, w9⟩) fun _ s10 ⟨_, H10, I10, _, w10⟩ => ?_
        exact again wk7 I10 hm w10
  exact codeAny_compStart_list (loop _ rfl) (T.self X.A 0 _ _ _ t1 (loop _ rfl))

theorem pe_compC {sc : Scope} {N : List Str} (own : List Str) (js : List Nat) (hsc : RelSc X.env.scope sc) (hNN : X.N = N) (S0 : CompScopeCN sc N scope js) (hc : X.calm = true) (hit : PI X tg iter wi)
    (hg : ∀ cl s H C fp, PG (X.compC scope own js cl s H C fp) tg g) (hi : ∀ cl s H C fp, PIfs (X.compC scope own js cl s H C fp) ifs c) (he : ∀ cl s H C fp, PE (X.compC scope own js cl s H C fp) elt te)
    (hs : ∀ x, foldedSetIterable iter X.env x = pure x := by intro _; rfl) : PE X (.ListComp elt [⟨tg, iter, ifs, 0⟩] scope pos) (tComp own.length js wi g c te) := by
  intro pins s σ H Q I h
  have S : CompScopeC X scope own js := S0.cs hsc hNN
  obtain ⟨cl, hcl0, hcl, hcl2⟩ := closure_ok (env := X.env) (scope := scope) fun n hn => I.ok.has n (S.free _ hn rfl)
  rw [eval_ListComp]
  refine wpAny_comprehension_free (use := none) rfl hs hcl0 S.kind S.names (thn (hit pins s σ H _ I h) fun xv s1 h1 => thn h1 fun itv s2 h2 => ?_)
  obtain ⟨it, fp, tn, J, H2, e, I2, T, st2, f2, q2⟩ := h2
  subst e
  refine comp_coreC (RR := fun acc C => compPost (model X.prog X.w) X.A X.xe none (EP X pins σ Q) acc C) hc S I2 T st2 f2 hcl hcl2 hg hi he q2 fun acc C cl' H' s' hC J' q' => ?_
  obtain ⟨m, hn, _⟩ := J'.loc
  exact ⟨m, hn, fun h' hs' => ⟨.ref acc, H', comp_gone I2 hC (comp_leaveC I2 f2 J') J'.free hs', rfl, q'⟩⟩

theorem ps_setCompC {i : Nat} {x : Str} {pos' spos : Pos} (hN : X.N.Nodup) (hi0 : X.N[i]? = some x) (hx : X.env.scope.names.lookup x = some .local) {sc : Scope} {N : List Str} (own : List Str) (js : List Nat) (hsc : RelSc X.env.scope sc) (hNN : X.N = N) (S0 : CompScopeCN sc N scope js) (hc : X.calm = true) (hit : PI X tg iter wi)
    (hg : ∀ cl s H C fp, PG (X.compC scope own js cl s H C fp) tg g) (hi : ∀ cl s H C fp, PIfs (X.compC scope own js cl s H C fp) ifs c) (he : ∀ cl s H C fp, PE (X.compC scope own js cl s H C fp) elt te)
    (hsw : swapsWith (.ListComp elt [⟨tg, iter, ifs, 0⟩] scope pos) (some (.Name x pos')) spos.line X.env = pure true)
    (hs : ∀ x, foldedSetIterable iter X.env x = pure x := by intro _; rfl) : PS X (.Assign [.Name x pos'] (.ListComp elt [⟨tg, iter, ifs, 0⟩] scope pos) spos) (tAsg (tComp own.length js wi g c te) (gName i)) := by
  intro pins s σ H D I h
  have S : CompScopeC X scope own js := S0.cs hsc hNN
  obtain ⟨cl, hcl0, hcl, hcl2⟩ := closure_ok (env := X.env) (scope := scope) fun n hn => I.ok.has n (S.free _ hn rfl)
  rw [exec_Assign_Name_used _ _ _ _ hsw]
  refine wpAny_bind (wpAny_standAt (wpAny_bind ?_))
  show wpAny _ X.A (do let _ ← comprehension (.ListComp elt [⟨tg, iter, ifs, 0⟩] scope pos) scope X.env _ (newList []) false (eval iter X.env) (some (assign (.Name x pos') X.env))) _ _ s
  refine wpAny_bind (wpAny_mono (wpAny_comprehension_free (use := some (assign (.Name x pos') X.env)) (Q := fun _ s' => SP X pins D .next s') rfl hs hcl0 S.kind S.names
    (thn (hit pins s σ H _ I h) fun xv s1 h1 => thn h1 fun itv s2 h2 => ?_)) (fun _ s' hq => wpAny_pure (wpAny_pure hq)) fun _ _ e => e)
  obtain ⟨it, fp, tn, J, H2, e, I2, T, st2, f2, q2⟩ := h2
  subst e
  refine comp_coreC (RR := fun acc C => compPost (model X.prog X.w) X.A X.xe (some (assign (.Name x pos') X.env)) (fun _ s' => SP X pins D .next s') acc C) hc S I2 T st2 f2 hcl hcl2 hg hi he q2 fun acc C cl' H' s' hC J' q' => ?_
  obtain ⟨m, hn, _⟩ := J'.loc
  have I3 := comp_leaveC I2 f2 J'
  show wpAny _ X.A (assign (.Name x pos') X.env (.ref acc)) _ _ _
  refine wpAny_assign_Name (store_ok2 I3 hN hi0 (.inl hx) (v := .ref acc) rfl (fun s4 I4 hsb => ?_) (.inr hx))
  obtain ⟨a, sb, ha⟩ := hsb
  have hCa : C ≠ a := by
    rcases ha with ha | ha
    · rw [ha]; exact Nat.ne_of_gt (Nat.lt_of_lt_of_le I2.lt hC)
    · obtain ⟨v, z⟩ := I2.cell x a ha
      exact Nat.ne_of_gt (Nat.lt_of_lt_of_le z.lt hC)
  refine ⟨m, hn.sameBut sb hCa, fun h' hs' => ⟨_, H', comp_gone I2 hC I4 J'.free hs', q'⟩⟩
end
end L2

namespace OL
open PySem L2
/-! ### draws of the fourth stage -/
def D31 (ds : List Int) : Prop := ∀ d ∈ ds, 0 ≤ d ∧ d < 2147483648
theorem D31.nil : D31 [] := fun d h => nomatch h
theorem D31.snoc {ds : List Int} {d : Int} (h : D31 ds) (h0 : 0 ≤ d) (h1 : d < 2147483648) : D31 (ds ++ [d]) := fun x hx => by
  rcases List.mem_append.mp hx with z | z
  · exact h x z
  · have : x = d := by simpa using z
    subst this; exact ⟨h0, h1⟩
theorem D31.tail {d : Int} {ds : List Int} (h : D31 (d :: ds)) : D31 ds := fun x hx => h x (List.mem_cons_of_mem _ hx)
def spMix : Sp := fun vs H Q _ => ∃ (c k : Int), vs = [.int c, .int k] ∧ 0 ≤ k ∧ k ≤ 2000 ∧ ∀ y : Int, 0 ≤ y → y < 2147483648 → Q (.int y) H
def spDr (K : PySem.W.Frag) : Sp := fun vs H Q _ => ∃ (a : Addr) (ns : List Int) (tn mn : Int), vs = [.ref a, .int tn, .int mn] ∧ SqL K H a (ns.map V.int) ∧ ns.length ≤ 63 ∧ 0 ≤ tn ∧ tn ≤ 100 ∧ 0 ≤ mn ∧ mn ≤ 900 ∧ ∀ (r : Addr) (ds : List Int) (H' : Hp), Same H H' → H r = none → H' r = some (.lst (ds.map V.int)) → D31 ds → Q (.ref r) H'
def spPop : Sp := fun vs H Q _ => ∃ (l : Addr) (ds : List Int), vs = [.ref l] ∧ H l = some (.lst (ds.map V.int)) ∧ D31 ds ∧ ∀ (d : Int) (ds' : List Int) (H' : Hp), 0 ≤ d → d < 2147483648 → SameB l H H' → H' l = some (.lst (ds'.map V.int)) → D31 ds' → Q (.int d) H'
def spBk8 : Sp := fun vs H Q _ => ∃ (l : Addr) (ds : List Int) (most am : Int), vs = [.ref l, .int most, .int am] ∧ H l = some (.lst (ds.map V.int)) ∧ D31 ds ∧ 1 ≤ most ∧ most ≤ 12 ∧ 0 ≤ am ∧ am ≤ 200 ∧
  ∀ (b bl : Addr) (many : Int) (bs ds' : List Int) (H' : Hp), SameB l H H' → H b = none → H bl = none → H' b = some (.tup [.int many, .ref bl]) → H' bl = some (.lst (bs.map V.int)) → H' l = some (.lst (ds'.map V.int)) → D31 ds' → BookOk many bs most am → Q (.ref b) H'

/-! ### least ones -/
structure LeastOf (ns T : List Int) : Prop where
  rise : T.Pairwise (· < ·)
  mem : ∀ x, x ∈ T ↔ x ∈ ns ∧ ∀ y ∈ ns, hasF x y = true → y = x
  len : T.length ≤ ns.length
  below : ∀ y ∈ ns, ∃ t ∈ T, hasF y t = true
def stepLe (T : List Int) (x : Int) : List Int := if (T.any fun t => hasF x t) = true then T else T ++ [x]
def leastF (ns : List Int) : List Int := ns.foldl stepLe []
theorem LeastOf.nil : LeastOf [] [] := ⟨.nil, fun x => ⟨fun h => absurd h List.not_mem_nil, fun h => absurd h.1 List.not_mem_nil⟩, Nat.le_refl _, fun y h => absurd h List.not_mem_nil⟩
theorem LeastOf.perm {ns ms T : List Int} (h1 : LeastOf ns T) (p : ns.Perm ms) : LeastOf ms T :=
  ⟨h1.rise, fun x => by rw [h1.mem, p.mem_iff]; exact ⟨fun ⟨a, b⟩ => ⟨a, fun y hy => b y (p.mem_iff.mpr hy)⟩, fun ⟨a, b⟩ => ⟨a, fun y hy => b y (p.mem_iff.mp hy)⟩⟩, by rw [← p.length_eq]; exact h1.len, fun y hy => h1.below y (p.mem_iff.mpr hy)⟩
/-! ### crossings -/
def crossB (ls : List Int) (x : Int) : Bool := ls.all fun o => decide (0 < Builtin.bitAnd x o)
def crossL (many : Int) (ls : List Int) : List Int := (rangeI (2 ^ many.toNat)).filter (crossB ls)
theorem powC (many : Int) : ((2 ^ many.toNat : Nat) : Int) = 2 ^ many.toNat := by push_cast; rfl
/-- the things outside -/
def outF (many x : Int) : Int := (((2 ^ many.toNat - 1) ^^^ (x.toNat % 2 ^ many.toNat) : Nat) : Int)
/-! ### promises -/
def spLeastA (K : PySem.W.Frag) : Sp := fun vs H Q _ => ∃ (l : Addr) (ns : List Int), vs = [.ref l] ∧ SqL K H l (ns.map V.int) ∧ ns.length ≤ 5000 ∧ ns.Pairwise (· ≤ ·) ∧ (∀ x ∈ ns, 0 ≤ x) ∧
  ∀ (r : Addr) (T : List Int) (H' : Hp), Same H H' → H r = none → H' r = some (.lst (T.map V.int)) → LeastOf ns T → Q (.ref r) H'
def spLeastL (K : PySem.W.Frag) : Sp := fun vs H Q _ => ∃ (l : Addr) (ns : List Int), vs = [.ref l] ∧ SqL K H l (ns.map V.int) ∧ ns.length ≤ 5000 ∧ (∀ x ∈ ns, 0 ≤ x) ∧
  ∀ (r : Addr) (T : List Int) (H' : Hp), Same H H' → H r = none → H' r = some (.lst (T.map V.int)) → LeastOf ns T → Q (.ref r) H'
def spCrossAll (K : PySem.W.Frag) : Sp := fun vs H Q _ => ∃ (l : Addr) (x : Int) (ls : List Int), vs = [.int x, .ref l] ∧ SqL K H l (ls.map V.int) ∧ ls.length ≤ 1000 ∧ ∀ H', Same H H' → Q (.bl (crossB ls x)) H'
def spCross (K : PySem.W.Frag) : Sp := fun vs H Q _ => ∃ (l : Addr) (many : Int) (ls : List Int), vs = [.int many, .ref l] ∧ 0 ≤ many ∧ many ≤ 12 ∧ SqL K H l (ls.map V.int) ∧ ls.length ≤ 1000 ∧
  ∀ (r : Addr) (T : List Int) (H' : Hp), Same H H' → H r = none → H' r = some (.lst (T.map V.int)) → LeastOf (crossL many ls) T → Q (.ref r) H'
end OL

/-! comprehensions by a list of what is walked, a choice and what comes of each -/
namespace OL
open PySem L2
def LookE (t : TE) (σ : St) (H : Hp) (v : V) : Prop := ∀ Q : VK, (∀ H', Same H H' → Q v H') → t σ H Q
theorem LookE.pure {t : TE} {σ : St} {H : Hp} {v : V} (h : ∀ Q : VK, Q v H → t σ H Q) : LookE t σ H v := fun Q q => h Q (q H (Same.refl H))
/-- what a turn must do -/
def CTurn (m : Nat) (js : List Nat) (g : TG) (c : TT) (te : TE) (σ : St) (v : V) (H2 : Hp) (b : Bool) (R : Hp → V → Prop) : Prop :=
  ∀ (PUT : V → Hp → Prop) (SKIP : Hp → Prop), (b = true → ∀ y H', Same H2 H' → R H' y → PUT y H') → (b = false → ∀ H', Same H2 H' → SKIP H') →
    g v (pick m js σ) H2 fun σ2 H3 => Wk (pick m js σ) σ2 ∧ c σ2 H3 fun k H4 => if k = true then te σ2 H4 fun y H5 => PUT y H5 else SKIP H4
section
variable {K : PySem.W.Frag} {m : Nat} {js : List Nat} {g : TG} {c : TT} {te : TE} {σ : St} {H1 : Hp} {Q : VK} {α : Type}
theorem paired_take {F : V → α → Prop} {xs : List V} {as : List α} (h : Paired F xs as) {i : Nat} {v : V} (hv : xs[i]? = some v) : ∃ x, as[i]? = some x ∧ F v x := by
  induction h generalizing i with
  | nil => simp at hv
  | cons z r ih =>
    cases i with
    | zero => simp at hv; subst hv; exact ⟨_, rfl, z⟩
    | succ i => simpa using ih (by simpa using hv)
theorem take_at {as : List α} {i : Nat} {x : α} (h : as[i]? = some x) : as.take (i + 1) = as.take i ++ [x] := by
  obtain ⟨hi, e⟩ := List.getElem?_eq_some_iff.mp h
  rw [← e]; exact List.take_succ_eq_append_getElem hi
theorem filt_len {p : α → Bool} {as : List α} {i : Nat} : ((as.take i).filter p).length ≤ as.length := Nat.le_trans (List.length_filter_le _ _) (by rw [List.length_take]; exact Nat.min_le_right _ _)
theorem filt_yes {p : α → Bool} {as : List α} {i : Nat} {x : α} (h : as[i]? = some x) (c : p x = true) : (as.take (i + 1)).filter p = (as.take i).filter p ++ [x] := by
  rw [take_at h, List.filter_append, List.filter_cons, if_pos c]; rfl
theorem filt_no {p : α → Bool} {as : List α} {i : Nat} {x : α} (h : as[i]? = some x) (c : p x = false) : (as.take (i + 1)).filter p = (as.take i).filter p := by
  rw [take_at h, List.filter_append, List.filter_cons, if_neg (by rw [c]; decide)]; simp
/-- over a list -/
theorem compA_list {a : Addr} {xs : List V} {as : List α} {Re : V → α → Prop} (hx : SqL K H1 a xs) (hp : Paired Re xs as) (p : α → Bool) (Rl : Hp → V → α → Prop) (hst : ∀ H H' y x, TSame H H' → Rl H y x → Rl H' y x) (hz : as.length ≤ 65000)
    (turn : ∀ x v H2, x ∈ as → Re v x → Same H1 H2 → CTurn m js g c te σ v H2 (p x) fun H' y => Rl H' y x)
    (hQ : ∀ acc ys H', H1 acc = none → Same H1 H' → H' acc = some (.lst ys) → Paired (Rl H') ys (as.filter p) → Q (.ref acc) H') : tCompR m js g c te (Itl K a) σ H1 Q := by
  intro acc hacc
  have hl := Paired.length hp
  refine ⟨CW xs.length acc (fun i ys H => Same H1 H ∧ Paired (Rl H) ys ((as.take i).filter p)), ⟨_, rfl, Nat.zero_le _, [], upd_same, same_new hacc _, .nil⟩, ?_⟩
  rintro i m' H ⟨rfl, hi, ys, h0, S, hR⟩
  have q := S.seq hx
  by_cases hlt : i < xs.length
  · refine .inr ⟨⟨xs, xs[i], q, by simp [hlt]⟩, fun v H' y => ?_⟩
    obtain ⟨e, y⟩ := y
    subst e
    obtain ⟨x, hxa, hre⟩ := paired_take hp (y xs q)
    have hyl := Paired.length hR
    have hfl : ((as.take i).filter p).length ≤ as.length := filt_len
    refine turn x v _ (List.mem_of_getElem? hxa) hre S _ _ (fun cc y' H5 s r => ?_) (fun cc H4 s => ?_)
    · refine ⟨ys, s acc _ h0, big5 (by omega), xs.length - (i + 1), by omega, rfl, hlt, ys ++ [y'], upd_same, fun b o z => ?_, ?_⟩
      · rw [upd_ne (ne_of_none z hacc)]; exact s b o (S b o z)
      · have ts : TSame H5 (upd H5 acc (.lst (ys ++ [y']))) := tsame_upd (s acc _ h0)
        rw [filt_yes hxa cc]
        exact Paired.snoc (Paired.imp' (fun _ _ z => hst _ _ _ _ ts (hst _ _ _ _ s.t z)) hR) (hst _ _ _ _ ts r)
    · refine ⟨xs.length - (i + 1), by omega, rfl, hlt, ys, s acc _ h0, S.trans s, ?_⟩
      rw [filt_no hxa cc]
      exact Paired.imp' (fun _ _ z => hst _ _ _ _ s.t z) hR
  · have e : i = xs.length := by omega
    subst e
    rw [hl, List.take_length] at hR
    exact .inl ⟨⟨xs, q, Nat.le_refl _⟩, hQ acc ys H hacc S h0 hR⟩
/-- over a range -/
theorem compA_range {lo : Int} {n : Nat} (p : Nat → Bool) (Rl : Hp → V → Nat → Prop) (hst : ∀ H H' y x, TSame H H' → Rl H y x → Rl H' y x) (hz : n ≤ 65000)
    (turn : ∀ x H2, x < n → Same H1 H2 → CTurn m js g c te σ (.int (lo + (x : Nat))) H2 (p x) fun H' y => Rl H' y x)
    (hQ : ∀ acc ys H', H1 acc = none → Same H1 H' → H' acc = some (.lst ys) → Paired (Rl H') ys ((List.range n).filter p) → Q (.ref acc) H') : tCompR m js g c te (Itr lo n) σ H1 Q := by
  intro acc hacc
  refine ⟨CW n acc (fun i ys H => Same H1 H ∧ Paired (Rl H) ys ((List.range i).filter p)), ⟨_, rfl, Nat.zero_le _, [], upd_same, same_new hacc _, .nil⟩, ?_⟩
  rintro i m' H ⟨rfl, hi, ys, h0, S, hR⟩
  by_cases hlt : i < n
  · refine .inr ⟨hlt, fun v H' y => ?_⟩
    obtain ⟨e, y⟩ := y
    subst e y
    have hyl := Paired.length hR
    have hfl : ((List.range i).filter p).length ≤ i := Nat.le_trans (List.length_filter_le _ _) (by simp)
    refine turn i _ hlt S _ _ (fun cc y' H5 s r => ?_) (fun cc H4 s => ?_)
    · refine ⟨ys, s acc _ h0, big5 (by omega), n - (i + 1), by omega, rfl, hlt, ys ++ [y'], upd_same, fun b o z => ?_, ?_⟩
      · rw [upd_ne (ne_of_none z hacc)]; exact s b o (S b o z)
      · have ts : TSame H5 (upd H5 acc (.lst (ys ++ [y']))) := tsame_upd (s acc _ h0)
        rw [List.range_succ, List.filter_append, List.filter_cons, if_pos cc]
        exact Paired.snoc (Paired.imp' (fun _ _ z => hst _ _ _ _ ts (hst _ _ _ _ s.t z)) hR) (hst _ _ _ _ ts r)
    · refine ⟨n - (i + 1), by omega, rfl, hlt, ys, s acc _ h0, S.trans s, ?_⟩
      rw [List.range_succ, List.filter_append, List.filter_cons, if_neg (by rw [cc]; decide), List.filter_nil, List.append_nil]
      exact Paired.imp' (fun _ _ z => hst _ _ _ _ s.t z) hR
  · have e : i = n := by omega
    subst e
    exact .inl ⟨Nat.le_refl _, hQ acc ys H hacc S h0 hR⟩
theorem paired_map {β : Type} {f : β → V} : ∀ {ys : List V} {as : List β}, Paired (fun y x => y = f x) ys as → ys = as.map f
  | _, _, .nil => rfl
  | _, _, .cons h r => by rw [h, paired_map r]; rfl
theorem paired_ints : ∀ ns : List Int, Paired (fun v (n : Int) => v = V.int n) (ns.map V.int) ns
  | [] => .nil
  | n :: r => .cons rfl (paired_ints r)
/-- ints in, values out -/
theorem compV_list {a : Addr} {ns : List Int} (hx : SqL K H1 a (ns.map V.int)) (p : Int → Bool) (f : Int → V) (hz : ns.length ≤ 65000)
    (turn : ∀ x H2, x ∈ ns → Same H1 H2 → CTurn m js g c te σ (.int x) H2 (p x) fun _ y => y = f x)
    (hQ : ∀ acc H', H1 acc = none → Same H1 H' → H' acc = some (.lst ((ns.filter p).map f)) → Q (.ref acc) H') : tCompR m js g c te (Itl K a) σ H1 Q :=
  compA_list hx (paired_ints ns) p (fun _ y x => y = f x) (fun _ _ _ _ _ z => z) hz (fun x v H2 hm e S => e ▸ turn x H2 hm S) fun acc ys H' h0 S h1 hp => hQ acc H' h0 S (by rw [h1, paired_map hp])
theorem compV_range {n : Nat} (p : Nat → Bool) (f : Nat → V) (hz : n ≤ 65000)
    (turn : ∀ x H2, x < n → Same H1 H2 → CTurn m js g c te σ (.int (x : Nat)) H2 (p x) fun _ y => y = f x)
    (hQ : ∀ acc H', H1 acc = none → Same H1 H' → H' acc = some (.lst (((List.range n).filter p).map f)) → Q (.ref acc) H') : tCompR m js g c te (Itr 0 n) σ H1 Q :=
  compA_range p (fun _ y x => y = f x) (fun _ _ _ _ _ z => z) hz (fun x H2 hm S => by rw [Int.zero_add]; exact turn x H2 hm S) fun acc ys H' h0 S h1 hp => hQ acc H' h0 S (by rw [h1, paired_map hp])
end
/-- a turn with one plain name and a test that looks, giving the name's own int -/
theorem turn_pick {js : List Nat} {c : TT} {te : TE} {σ : St} {v y : V} {H2 : Hp} {b : Bool} {R : Hp → V → Prop} (hc : LookT c ((pick 1 js σ).set 0 (some v)) H2 b) (he : b = true → ∀ H3, Same H2 H3 → LookE te ((pick 1 js σ).set 0 (some v)) H3 y) (hR : b = true → ∀ H3, Same H2 H3 → R H3 y) : CTurn 1 js (gName 0) c te σ v H2 b R := by
  intro PUT SKIP h1 h2
  refine ⟨(Wk.refl _).set (by decide), hc _ fun H3 S3 => ?_⟩
  cases b with
  | true => exact iteT (he rfl H3 S3 _ fun H4 S4 => h1 rfl _ _ (S3.trans S4) (hR rfl _ (S3.trans S4)))
  | false => exact iteF (h2 rfl _ S3)
theorem look_yes {σ : St} {H : Hp} : LookT tYes σ H true := .pure fun Q h => h
theorem filter_true {α : Type} (l : List α) : l.filter (fun _ => true) = l := by simp
end OL

namespace OL.W41
open PySem L2 OL
/-! ### all the lots within a lot, by doubling -/
theorem nnP (t : Nat) : (0 : Int) ≤ 1 * 2 ^ t := by
  have : (0 : Int) < 2 ^ t := Int.pow_pos (by decide)
  omega
theorem th_w {x : Int} (h : 0 ≤ x) (t i : Nat) : Th (Builtin.bitOr x (1 * 2 ^ t)) i ↔ Th x i ∨ i = t := by rw [th_or h (nnP t), th_pow]
theorem w_nn {x : Int} (h : 0 ≤ x) (t : Nat) : 0 ≤ Builtin.bitOr x (1 * 2 ^ t) := by rw [or_pp h (nnP t)]; exact Int.natCast_nonneg _
theorem lt_pow {x : Int} {t : Nat} (h0 : 0 ≤ x) (h : ∀ i, Th x i → i < t) : x < 2 ^ t := by
  have := (InB.of_th (many := (t : Int)) h0 (by rw [Int.toNat_natCast]; exact h)).2
  rwa [Int.toNat_natCast] at this
theorem has_th' {lot : Int} (h : 0 ≤ lot) (t : Nat) : hasF lot (1 * 2 ^ t) = true ↔ Th lot t := by
  rw [has_iff h (nnP t)]
  constructor
  · exact fun z => z t ((th_pow t t).mpr rfl)
  · intro z i hi
    rw [(th_pow t i).mp hi]; exact z
theorem mem_things {lot : Int} (h : 0 ≤ lot) {x : Int} : x ∈ thingsF lot ↔ ∃ t : Nat, Th lot t ∧ x = (t : Int) := by
  unfold thingsF upto
  rw [List.mem_map]
  constructor
  · rintro ⟨t, ht, rfl⟩
    have this : hasF lot (1 * 2 ^ t) = true := (List.mem_filter.mp ht).2
    exact ⟨t, (has_th' h t).mp this, rfl⟩
  · rintro ⟨t, ht, rfl⟩
    exact ⟨t, List.mem_filter.mpr ⟨List.mem_range.mpr (bits_lt h ht), (has_th' h t).mpr ht⟩, rfl⟩
theorem things_up (lot : Int) : (thingsF lot).Pairwise (· < ·) := by
  unfold thingsF upto
  rw [List.pairwise_map]
  exact (List.pairwise_lt_range.filter _).imp fun {a b} h => Int.ofNat_lt.mpr h
/-- a lot that holds the first things of another -/
def Fst (lot : Int) (i : Nat) (x : Int) : Prop := 0 ≤ x ∧ ∀ j : Nat, Th x j ↔ (j : Int) ∈ (thingsF lot).take i
theorem Fst.zero (lot : Int) : Fst lot 0 0 := ⟨Int.le_refl 0, fun j => by
  unfold Th
  rw [show ((0 : Int).toNat) = 0 from rfl, Nat.zero_testBit, List.take_zero]
  simp⟩
theorem Fst.below {lot : Int} {i : Nat} {x : Int} (hl : 0 ≤ lot) (hi : i < (thingsF lot).length) (h : Fst lot i x) : ∀ j, Th x j → j < ((thingsF lot).getD i 0).toNat := by
  intro j hj
  have hm := (h.2 j).mp hj
  obtain ⟨k, hk, e⟩ := List.getElem_of_mem hm
  rw [List.length_take] at hk
  rw [List.getElem_take] at e
  have := List.pairwise_iff_getElem.mp (things_up lot) k i (by omega) hi (by omega)
  rw [List.getD_eq_getElem?_getD, List.getElem?_eq_getElem hi]
  show j < ((thingsF lot)[i]).toNat
  rw [e] at this
  omega
theorem Fst.step {lot : Int} {i : Nat} {x : Int} (hl : 0 ≤ lot) (hi : i < (thingsF lot).length) (h : Fst lot i x) : Fst lot (i + 1) (Builtin.bitOr x (1 * 2 ^ ((thingsF lot).getD i 0).toNat)) := by
  refine ⟨w_nn h.1 _, fun j => ?_⟩
  obtain ⟨t, _, et⟩ := (mem_things hl).mp (getD_mem hi)
  rw [th_w h.1, take_get hi, List.mem_append, h.2 j, List.mem_singleton]
  rw [et, Int.toNat_natCast]
  constructor
  · rintro (q | q)
    · exact .inl q
    · exact .inr (by rw [q])
  · rintro (q | q)
    · exact .inl q
    · exact .inr (by omega)
theorem Fst.small {lot : Int} {i : Nat} {x : Int} (hs : Sm lot) (h : Fst lot i x) : x < 4096 := by
  have := lt_pow (t := 12) h.1 fun j hj => by
    obtain ⟨t, a, e⟩ := (mem_things hs.1).mp (List.mem_of_mem_take ((h.2 j).mp hj))
    have := bits_lt hs.1 a
    have := hs.bits
    omega
  exact this
end OL.W41

namespace OL
open PySem L2
/-! ### what can be shown by str -/
structure Sho (d : PyData) (n k : Nat) : Prop where
  show' : d.showable = true
  nodict : d.hasDict = false
  short : d.leavesShort 13 = true
  bulk : d.bulk ≤ n
  depth : d.depth ≤ k
  lay : d.canLay0 = true
structure ShoAll (ds : List PyData) (n k : Nat) : Prop where
  show' : PyData.showableAll ds = true
  nodict : PyData.hasDictAll ds = false
  short : PyData.leavesShortAll 13 ds = true
  bulk : PyData.bulkAll ds ≤ n
  depth : PyData.depthAll ds ≤ k
  lay : PyData.canLayAll0 ds = true
theorem Sho.int {i : Int} (h : i.natAbs < 10 ^ 12) : Sho (.int i) 0 0 := by
  refine ⟨?_, rfl, ?_, Nat.le_refl _, Nat.le_refl _, rfl⟩
  · show decide (i.natAbs.log2 < 1920) = true
    refine decide_eq_true ?_
    by_cases e : i.natAbs = 0
    · rw [e]; decide
    · rw [Nat.log2_lt e]
      exact Nat.lt_trans h (Nat.lt_of_lt_of_le (by decide : 10 ^ 12 < 2 ^ 40) (Nat.pow_le_pow_right (by decide) (by decide)))
  · show decide ((PyData.int i).shown.length ≤ 13) = true
    exact decide_eq_true (PyData.shown_int_le h)
theorem Sho.non : Sho .none 0 0 := ⟨rfl, rfl, rfl, Nat.le_refl _, Nat.le_refl _, rfl⟩
theorem Sho.bool {b : Bool} : Sho (.bool b) 0 0 := ⟨rfl, rfl, rfl, Nat.le_refl _, Nat.le_refl _, rfl⟩
theorem ShoAll.nil : ShoAll [] 0 0 := ⟨rfl, rfl, rfl, Nat.le_refl _, Nat.le_refl _, rfl⟩
theorem ShoAll.cons {d : PyData} {ds : List PyData} {n m k j : Nat} (h : Sho d n k) (t : ShoAll ds m j) : ShoAll (d :: ds) (n + 1 + m) (max k j) := by
  refine ⟨?_, ?_, ?_, ?_, ?_, ?_⟩
  · show (d.showable && PyData.showableAll ds) = true
    rw [h.show', t.show']; rfl
  · show (d.hasDict || PyData.hasDictAll ds) = false
    rw [h.nodict, t.nodict]; rfl
  · show (d.leavesShort 13 && PyData.leavesShortAll 13 ds) = true
    rw [h.short, t.short]; rfl
  · show d.bulk + 1 + PyData.bulkAll ds ≤ _
    have := h.bulk; have := t.bulk; omega
  · show max d.depth (PyData.depthAll ds) ≤ _
    have := h.depth; have := t.depth; omega
  · show (d.canLay0 && PyData.canLayAll0 ds) = true
    rw [h.lay, t.lay]; rfl
theorem Sho.list {ds : List PyData} {n k : Nat} (h : ShoAll ds n k) : Sho (.list ds) n (k + 1) := by
  refine ⟨h.show', h.nodict, h.short, h.bulk, ?_, h.lay⟩
  show PyData.depthAll ds + 1 ≤ _
  have := h.depth; omega
theorem Sho.tuple {ds : List PyData} {n k : Nat} (h : ShoAll ds n k) : Sho (.tuple ds) n (k + 1) := by
  refine ⟨h.show', h.nodict, h.short, h.bulk, ?_, h.lay⟩
  show PyData.depthAll ds + 1 ≤ _
  have := h.depth; omega
theorem Sho.mono {d : PyData} {n k n' k' : Nat} (h : Sho d n k) (h1 : n ≤ n') (h2 : k ≤ k') : Sho d n' k' := ⟨h.show', h.nodict, h.short, Nat.le_trans h.bulk h1, Nat.le_trans h.depth h2, h.lay⟩
theorem ShoAll.mono {d : List PyData} {n k n' k' : Nat} (h : ShoAll d n k) (h1 : n ≤ n') (h2 : k ≤ k') : ShoAll d n' k' := ⟨h.show', h.nodict, h.short, Nat.le_trans h.bulk h1, Nat.le_trans h.depth h2, h.lay⟩
/-- many alike -/
theorem ShoAll.map {α : Type} {f : α → PyData} {n k : Nat} : ∀ {as : List α}, (∀ x ∈ as, Sho (f x) n k) → ShoAll (as.map f) ((n + 1) * as.length) k
  | [], _ => ⟨rfl, rfl, rfl, Nat.zero_le _, Nat.zero_le _, rfl⟩
  | a :: as, h => by
    have h1 := ShoAll.cons (h a List.mem_cons_self) (ShoAll.map (as := as) fun x hx => h x (List.mem_cons_of_mem _ hx))
    refine h1.mono ?_ (by omega)
    rw [List.length_cons, Nat.mul_add]; omega
theorem Sho.ints {ns : List Int} (h : ∀ x ∈ ns, 0 ≤ x ∧ x < 1000000000000) : Sho (.list (ns.map PyData.int)) ns.length 1 := by
  refine (Sho.list (ShoAll.map (n := 0) (k := 0) fun x hx => Sho.int ?_)).mono (by omega) (Nat.le_refl _)
  have := h x hx
  have e : (10 : Nat) ^ 12 = 1000000000000 := by decide
  omega
theorem Sho.bk {many : Int} {bs : List Int} (h0 : 0 ≤ many ∧ many < 1000000000000) (h : ∀ x ∈ bs, 0 ≤ x ∧ x < 1000000000000) : Sho (.tuple [.int many, .list (bs.map PyData.int)]) (bs.length + 2) 2 := by
  have e : (10 : Nat) ^ 12 = 1000000000000 := by decide
  exact (Sho.tuple (ShoAll.cons (Sho.int (by omega)) (ShoAll.cons (Sho.ints h) .nil))).mono (by omega) (by decide)
theorem Sho.shaped {d : PyData} {n k : Nat} (h : Sho d n k) (hk : k ≤ 60) : PySem.SeqAt.shaped d = true := by
  unfold PySem.SeqAt.shaped
  rw [h.lay, Bool.true_and]
  exact decide_eq_true (by have := h.depth; omega)
theorem Sho.str {x : Str} (h : x.cps.all (fun c => decide (c < 0x110000)) = true) (h' : (x.cps.toList.all fun c => decide (c < 16 ^ 8)) = true) : Sho (.str x) x.cps.size 0 := ⟨rfl, rfl, h', Nat.le_refl _, Nat.le_refl _, h⟩
/-- str(x) != str(y), of the same data -/
theorem ne_str {d : PyData} {H : Hp} {Q : Bool → Hp → Prop} (q : Q false H) : rNe (.str d.shown) (.str d.shown) H fun x H' => ∃ k, x = .bl k ∧ Q k H' := by
  refine ⟨rfl, _, rfl, ?_⟩
  rw [show decide (V.str d.shown = V.str d.shown) = true from decide_eq_true rfl]; exact q
theorem ne_str' {z : Str} {H : Hp} {Q : Bool → Hp → Prop} (q : Q false H) : rNe (.str z) (.str z) H fun x H' => ∃ k, x = .bl k ∧ Q k H' := by
  refine ⟨rfl, _, rfl, ?_⟩
  rw [show decide (V.str z = V.str z) = true from decide_eq_true rfl]; exact q
theorem ne_ints {K : PySem.W.Frag} {H : Hp} {a b : Addr} {ns ms : List Int} {Q : VK} (ha : SqL K H a (ns.map V.int)) (hb : SqL K H b (ms.map V.int)) (q : Q (.bl (!decide (ns = ms))) H) : rEqD K true (.ref a) (.ref b) H Q := by
  refine ⟨_, _, .lst ha (DRs.ints _), .lst hb (DRs.ints _), shaped_ints _, shaped_ints _, ?_⟩
  have e : PyData.eqv (.list (ns.map PyData.int)) (.list (ms.map PyData.int)) = decide (ns = ms) := eqv_ints ns ms
  rw [e]; exact q
theorem nil_len : ([] : List V).length ≤ sizeLine := by show 0 ≤ sizeLine; decide
def rStrD (K : PySem.W.Frag) : List V → Hp → VK → Prop := fun xs H Q => ∃ p d, xs = [.ref p] ∧ DR K H (.ref p) d ∧ d.showable = true ∧ d.hasDict = false ∧ d.depth ≤ 60 ∧ d.shown.length ≤ sizeLine ∧ Q (.str d.shown) H
/-- a value that is had without a change -/
def IsE (t : TE) (σ : St) (H : Hp) (v : V) : Prop := ∀ Q : VK, Q v H → t σ H Q
end OL

namespace L2
open PySem PySem.Spec PyProof.Rows
section
variable {X : Cx}
/-! ### any(xs), xs a list of truths; max of a list -/
def rAny (K : PySem.W.Frag) : List V → Hp → VK → Prop := fun xs H Q => ∃ (p : Addr) (bs : List Bool), xs = [.ref p] ∧ SqL K H p (bs.map V.bl) ∧ Q (.bl (bs.any id)) H
end
end L2

namespace OL
open PySem L2
/-! ### greatest often lots -/
def lackF (many lot : Int) : List Int := ((List.range many.toNat).filter fun t => !hasF lot (1 * 2 ^ t)).map fun (t : Nat) => (t : Int)
theorem has_th {lot : Int} (h : 0 ≤ lot) (t : Nat) : hasF lot (1 * 2 ^ t) = true ↔ Th lot t := by
  have p0 : (0 : Int) ≤ 1 * 2 ^ t := by
    have : (0 : Int) < 2 ^ t := Int.pow_pos (by decide)
    omega
  rw [has_iff h p0]
  constructor
  · exact fun z => z t ((th_pow t t).mpr rfl)
  · intro z i hi
    rw [(th_pow t i).mp hi]; exact z
def leadB (many : Int) (rs : List (Int × Int)) (lot : Int) : Bool := (lackF many lot).any fun t => inR rs (wt lot t.toNat)
def greatR (many : Int) (bs : List Int) (least : Int) : List (Int × Int) := (oftenR bs least (2 ^ many.toNat)).filter fun r => !leadB many (oftenR bs least (2 ^ many.toNat)) r.1
/-! ### outside -/
def spLack : Sp := fun vs H Q _ => ∃ many lot : Int, vs = [.int many, .int lot] ∧ 0 ≤ many ∧ many ≤ 12 ∧ ∀ (r : Addr) (H' : Hp), Same H H' → H r = none → H' r = some (.lst ((lackF many lot).map V.int)) → Q (.ref r) H'
def spLead : Sp := fun vs H Q _ => ∃ (d : Addr) (many lot : Int) (rs : List (Int × Int)), vs = [.int many, .int lot, .ref d] ∧ 0 ≤ many ∧ many ≤ 12 ∧ H d = some (.dK (tabR rs)) ∧ ∀ H', Same H H' → Q (.bl (leadB many rs lot)) H'
def spGreatest (K : PySem.W.Frag) : Sp := fun vs H Q _ => ∃ (b : Addr) (many : Int) (bs : List Int) (least : Int), vs = [.ref b, .int least] ∧ Bk K H b many bs ∧ bs.length ≤ 500 ∧ 0 ≤ many ∧ many ≤ 12 ∧ (∀ x ∈ bs, InB many x) ∧
  ∀ (r : Addr) (xs : List V) (H' : Hp), Same H H' → H r = none → H' r = some (.lst xs) → Rows H' xs (greatR many bs least) → Q (.ref r) H'
def spOut : Sp := fun vs H Q _ => ∃ many lot : Int, vs = [.int many, .int lot] ∧ 0 ≤ many ∧ many ≤ 12 ∧ 0 ≤ lot ∧ ∀ H', Same H H' → Q (.int (outF many lot)) H'
end OL

namespace OL
open PySem L2
theorem InB.small {many x : Int} (h : InB many x) (hm : many ≤ 12) : 0 ≤ x ∧ x < 1000000000000 := by
  have h1 := pow12 hm
  have h2 := powC many
  exact ⟨h.1, by have := h.2; omega⟩
end OL

namespace OL
open PySem L2
/-! ### the border and the greatest ones, led into one another -/
def smallL (many : Int) (bs : List Int) (least : Int) : List Int := (bordR bs least (2 ^ many.toNat)).map Prod.fst
def greatL (many : Int) (bs : List Int) (least : Int) : List Int := (greatR many bs least).map Prod.fst
section
variable {many : Int} {bs : List Int} {least : Int} (hb : ∀ x ∈ bs, InB many x)
include hb
omit hb in
omit hb in
def partB (many : Int) (gs ss : List Int) : Bool := (List.range (2 ^ many.toNat)).all fun (x : Nat) => !decide (V.bl (gs.any fun g => hasF g (x : Int)) = V.bl (ss.any fun t => hasF (x : Int) t))
end
def spPartAll (K : PySem.W.Frag) : Sp := fun vs H Q _ => ∃ (g s : Addr) (many : Int) (gs ss : List Int), vs = [.int many, .ref g, .ref s] ∧ 0 ≤ many ∧ many ≤ 12 ∧ SqL K H g (gs.map V.int) ∧ SqL K H s (ss.map V.int) ∧ ∀ H', Same H H' → Q (.bl (partB many gs ss)) H'
end OL

namespace L2
open PySem PySem.Spec PyProof.Rows
section
variable {K : PySem.W.Frag} {m : Nat} {js : List Nat} {g : TG} {c : TT} {te : TE} {σ : St} {H1 : Hp} {Q : VK}
/-- a comprehension over a list whose turns change what they say -/
theorem comp_listG {a : Addr} {xs : List V} (Pv : Addr → Nat → List V → Hp → Prop) (hS : ∀ acc i ys H, H1 acc = none → Pv acc i ys H → SqL K H a xs) (h0 : ∀ acc, H1 acc = none → Pv acc 0 [] (upd H1 acc (.lst [])))
    (turn : ∀ acc i x ys H, H1 acc = none → i < xs.length → xs[i]? = some x → H acc = some (.lst ys) → Pv acc i ys H → g x (pick m js σ) H fun σ2 H2 => Wk (pick m js σ) σ2 ∧ c σ2 H2 fun b H3 => if b = true then te σ2 H3 fun y H4 => CPut xs.length acc (Pv acc) i y H4 else CSkip xs.length acc (Pv acc) i H3)
    (hQ : ∀ acc ys H, H1 acc = none → H acc = some (.lst ys) → Pv acc xs.length ys H → Q (.ref acc) H) : tCompR m js g c te (Itl K a) σ H1 Q := by
  intro acc hacc
  refine ⟨CW xs.length acc (Pv acc), ⟨_, rfl, Nat.zero_le _, [], upd_same, h0 acc hacc⟩, ?_⟩
  rintro i m' H ⟨rfl, hi, ys, hy, p⟩
  have q := hS acc i ys H hacc p
  by_cases hlt : i < xs.length
  · refine .inr ⟨⟨xs, xs[i], q, by simp [hlt]⟩, fun x H' y => ?_⟩
    obtain ⟨e, y⟩ := y
    subst e
    exact turn acc i x ys _ hacc hlt (y xs q) hy p
  · have e : i = xs.length := by omega
    subst e
    exact .inl ⟨⟨xs, q, Nat.le_refl _⟩, hQ acc ys H hacc hy p⟩
end
end L2

namespace OL
open PySem L2
/-! ### two books apart -/
def partsB (as bs : List Int) (lot : Int) : Bool := decide (0 < countF as lot) && decide (countF bs lot = 0)
def partL (many : Int) (as bs : List Int) : List Int := (rangeI (2 ^ many.toNat)).filter (partsB as bs)
def lessL (b : Int) (bs : List Int) : List Int := bs.map fun o => b - Builtin.bitAnd b o
/-- a list made basket by basket -/
def Made (many : Int) (bs : List Int) (M cs : List Int) : Prop := (∀ m ∈ M, ∃ b ∈ cs, ∃ T, LeastOf (crossL many (lessL b bs)) T ∧ m ∈ T) ∧ ∀ b ∈ cs, ∃ T, LeastOf (crossL many (lessL b bs)) T ∧ ∀ t ∈ T, t ∈ M
theorem Made.snoc {many : Int} {bs M cs : List Int} (h : Made many bs M cs) {b : Int} {T : List Int} (hT : LeastOf (crossL many (lessL b bs)) T) : Made many bs (M ++ T) (cs ++ [b]) := by
  refine ⟨fun m hm => ?_, fun c hc => ?_⟩
  · rcases List.mem_append.mp hm with z | z
    · obtain ⟨c, hc, q⟩ := h.1 m z
      exact ⟨c, List.mem_append_left _ hc, q⟩
    · exact ⟨b, List.mem_append_right _ (by simp), T, hT, z⟩
  · rcases List.mem_append.mp hc with z | z
    · obtain ⟨U, hU, q⟩ := h.2 c z
      exact ⟨U, hU, fun t ht => List.mem_append_left _ (q t ht)⟩
    · rw [List.mem_singleton.mp z]
      exact ⟨T, hT, fun t ht => List.mem_append_right _ ht⟩
def spPartsP (K : PySem.W.Frag) : Sp := fun vs H Q _ => ∃ (a b : Addr) (many : Int) (as bs : List Int) (lot : Int), vs = [.ref a, .ref b, .int lot] ∧ Bk K H a many as ∧ Bk K H b many bs ∧ as.length ≤ 500 ∧ bs.length ≤ 500 ∧ 0 ≤ many ∧ many ≤ 12 ∧ ∀ H', Same H H' → Q (.bl (partsB as bs lot)) H'
def spLeastP (K : PySem.W.Frag) : Sp := fun vs H Q _ => ∃ (a b : Addr) (many : Int) (as bs : List Int), vs = [.ref a, .ref b] ∧ Bk K H a many as ∧ Bk K H b many bs ∧ as.length ≤ 500 ∧ bs.length ≤ 500 ∧ 0 ≤ many ∧ many ≤ 12 ∧
  ∀ (r : Addr) (xs : List V) (T : List Int) (H' : Hp), Same H H' → H r = none → H' r = some (.lst xs) → Rows H' xs (rowsC as T) → LeastOf (partL many as bs) T → Q (.ref r) H'
end OL

namespace OL
open PySem L2
/-! ### from a part -/
def partS (bs ps : List Int) : List Int := ps.map fun p => bs.getD p.toNat 0
def missR (many : Int) (bs : List Int) (least : Int) (ps : List Int) (lower : Int) : List (Int × Int) := (rowsC bs (smallL many (partS bs ps) lower)).filter (ofP least)
def tellR (many : Int) (bs : List Int) (least : Int) (ps : List Int) (lower : Int) : List (Int × Int) := (rowsC bs ((oftenR (partS bs ps) lower (2 ^ many.toNat)).map Prod.fst)).filter (ofP least)
def fromW (rs : List (Int × Int)) : Str := if rs.isEmpty = true then "whole" else "missed"
def fromR (many : Int) (bs : List Int) (least : Int) (ps : List Int) (lower : Int) : List (Int × Int) := if (missR many bs least ps lower).isEmpty = true then tellR many bs least ps lower else missR many bs least ps lower
def fromD (many : Int) (bs : List Int) (least : Int) (ps : List Int) (lower : Int) : PyData := .tuple [.str (fromW (missR many bs least ps lower)), .list ((fromR many bs least ps lower).map dRow)]
def PlOk (bs ps : List Int) : Prop := ∀ p ∈ ps, 0 ≤ p ∧ p < bs.length
/-- the least ones of the rare lots -/
def rareL (many : Int) (bs : List Int) (least : Int) : List Int := (rangeI (2 ^ many.toNat)).filter fun x => !decide (least ≤ countF bs x)
def spPartOf (K : PySem.W.Frag) : Sp := fun vs H Q _ => ∃ (b p : Addr) (many : Int) (bs ps : List Int), vs = [.ref b, .ref p] ∧ Bk K H b many bs ∧ SqL K H p (ps.map V.int) ∧ ps.length ≤ 500 ∧ PlOk bs ps ∧
  ∀ (t l : Addr) (H' : Hp), Same H H' → H t = none → H l = none → H' t = some (.tup [.int many, .ref l]) → H' l = some (.lst ((partS bs ps).map V.int)) → Q (.ref t) H'
def spFrom (K : PySem.W.Frag) : Sp := fun vs H Q _ => ∃ (b p : Addr) (many : Int) (bs ps : List Int) (least lower : Int), vs = [.ref b, .int least, .ref p, .int lower] ∧ Bk K H b many bs ∧ SqL K H p (ps.map V.int) ∧ bs.length ≤ 500 ∧ ps.length ≤ 500 ∧ PlOk bs ps ∧ 0 ≤ many ∧ many ≤ 12 ∧ (∀ x ∈ bs, InB many x) ∧
  ∀ (t l : Addr) (xs : List V) (H' : Hp), Same H H' → H t = none → H l = none → H' t = some (.tup [.str (fromW (missR many bs least ps lower)), .ref l]) → H' l = some (.lst xs) → Rows H' xs (fromR many bs least ps lower) → Q (.ref t) H'
def spPlaces84 : Sp := fun vs H Q _ => ∃ (r : Addr) (ds : List Int) (many : Int), vs = [.ref r, .int many] ∧ H r = some (.lst (ds.map V.int)) ∧ D31 ds ∧ 0 ≤ many ∧ many ≤ 200 ∧
  ∀ (p : Addr) (ps ds' : List Int) (H' : Hp), SameB r H H' → H p = none → H' p = some (.lst (ps.map V.int)) → H' r = some (.lst (ds'.map V.int)) → D31 ds' → (ps.length : Int) ≤ many → (∀ x ∈ ps, 0 ≤ x ∧ x < many) → Q (.ref p) H'
end OL

namespace L2
open PySem PySem.Spec PyProof.Rows
/-! ### zip over two lists, its pairs taken apart by the target -/
def Itz (K : PySem.W.Frag) (a b : Addr) : It :=
  ⟨fun i H => ∃ xs ys x y, SqL K H a xs ∧ SqL K H b ys ∧ xs[i]? = some x ∧ ys[i]? = some y, fun i H x H' => ∃ p u v, x = .ref p ∧ H p = none ∧ H' = upd H p (.tup [u, v]) ∧ (∀ xs, SqL K H a xs → xs[i]? = some u) ∧ ∀ ys, SqL K H b ys → ys[i]? = some v, fun i H => ∃ xs ys, SqL K H a xs ∧ SqL K H b ys ∧ (xs.length ≤ i ∨ ys.length ≤ i)⟩
section
variable {X : Cx}
def iZip (K : PySem.W.Frag) (ta : TA) : TI := fun σ H R => ta σ H fun vs H1 => ∃ a b, vs = [.ref a, .ref b] ∧ (∃ xs, SqL K H1 a xs) ∧ (∃ ys, SqL K H1 b ys) ∧ R (Itz K a b) H1
end
end L2

namespace L2
open PySem PySem.Spec PyProof.Rows
section
variable {X : Cx}
end
end L2

/-! min(xs, default=e), e a whole number -/
namespace L2
open PySem PySem.Spec PyProof.Rows
section
variable {dv : Value} {prog : Program} {w : World} {A : Around} {R : Result → Shared → Prop} {it : Addr} {fp wr : List Addr} {n : Nat} {PP : Nat → Value → Prop} {St : Nat → Heap → Prop}
end
section
variable {X : Cx}
def valminD (ns : List Int) (d : Int) : V := if ns.length = 0 then .int d else .int (bstmin ns (ns.length - 1))
def tDxmin (K : PySem.W.Frag) (ta : TA) (td : TE) : TE := fun σ H Q => ta σ H fun vs H1 => td σ H1 fun y H2 => ∃ a ns d, vs = [.ref a] ∧ y = .int d ∧ SqL K H2 a (ns.map V.int) ∧ Q (valminD ns d) H2
end
end L2

namespace L2
open PySem PySem.Spec PyProof.Rows
/-- rows with any second value, as a table -/
def RowV (H : Hp) (x : V) (r : Int × V) : Prop := ∃ p, x = .ref p ∧ H p = some (.tup [.int r.1, r.2])
def tabV (rs : List (Int × V)) : List (Key × V) := rs.map fun r => (.inl r.1, r.2)
section
variable {X : Cx}
end
end L2
namespace OL
open PySem L2
section
variable {K : PySem.W.Frag} {m : Nat} {js : List Nat} {g : TG} {c : TT} {te : TE} {σ : St} {H1 : Hp} {Q : VK} {α : Type}
/-- over a list; what comes of a turn may hold lists of its own -/
theorem compB_list {a : Addr} {xs : List V} {as : List α} {Re : V → α → Prop} (hx : SqL K H1 a xs) (hp : Paired Re xs as) (p : α → Bool) (Rl : Addr → Hp → V → α → Prop) (hst : ∀ acc zs H H' y x, H acc = some (.lst zs) → SameB acc H H' → Rl acc H y x → Rl acc H' y x) (hz : as.length ≤ 65000)
    (turn : ∀ acc zs x v H2, x ∈ as → Re v x → Same H1 H2 → H1 acc = none → H2 acc = some (.lst zs) → CTurn m js g c te σ v H2 (p x) fun H' y => Rl acc H' y x)
    (hQ : ∀ acc ys H', H1 acc = none → Same H1 H' → H' acc = some (.lst ys) → Paired (Rl acc H') ys (as.filter p) → Q (.ref acc) H') : tCompR m js g c te (Itl K a) σ H1 Q := by
  intro acc hacc
  have hl := Paired.length hp
  refine ⟨CW xs.length acc (fun i ys H => Same H1 H ∧ Paired (Rl acc H) ys ((as.take i).filter p)), ⟨_, rfl, Nat.zero_le _, [], upd_same, same_new hacc _, .nil⟩, ?_⟩
  rintro i m' H ⟨rfl, hi, ys, h0, S, hR⟩
  have q := S.seq hx
  by_cases hlt : i < xs.length
  · refine .inr ⟨⟨xs, xs[i], q, by simp [hlt]⟩, fun v H' y => ?_⟩
    obtain ⟨e, y⟩ := y
    subst e
    obtain ⟨x, hxa, hre⟩ := paired_take hp (y xs q)
    have hyl := Paired.length hR
    have hfl : ((as.take i).filter p).length ≤ as.length := filt_len
    refine turn acc ys x v _ (List.mem_of_getElem? hxa) hre S hacc h0 _ _ (fun cc y' H5 s r => ?_) (fun cc H4 s => ?_)
    · refine ⟨ys, s acc _ h0, big5 (by omega), xs.length - (i + 1), by omega, rfl, hlt, ys ++ [y'], upd_same, fun b o z => ?_, ?_⟩
      · rw [upd_ne (ne_of_none z hacc)]; exact s b o (S b o z)
      · have ts : SameB acc H5 (upd H5 acc (.lst (ys ++ [y']))) := sameB_upd
        rw [filt_yes hxa cc]
        exact Paired.snoc (Paired.imp' (fun _ _ z => hst _ _ _ _ _ _ (s acc _ h0) ts (hst _ _ _ _ _ _ h0 s.b z)) hR) (hst _ _ _ _ _ _ (s acc _ h0) ts r)
    · refine ⟨xs.length - (i + 1), by omega, rfl, hlt, ys, s acc _ h0, S.trans s, ?_⟩
      rw [filt_no hxa cc]
      exact Paired.imp' (fun _ _ z => hst _ _ _ _ _ _ h0 s.b z) hR
  · have e : i = xs.length := by omega
    subst e
    rw [hl, List.take_length] at hR
    exact .inl ⟨⟨xs, q, Nat.le_refl _⟩, hQ acc ys H hacc S h0 hR⟩
end
end OL

namespace L2
open PySem PySem.Spec PyProof.Rows
section
variable {X : Cx} (K : PySem.W.Frag) (hK : X.K = K)
variable {o e : Expr} {es : List Expr} {to : TE} {t : TA} {name : Str} {apos cpos : Pos} {T id : String} {r : V → List V → Hp → VK → Prop}
include hK
end
end L2

namespace L2
open PySem PySem.Spec PyProof.Rows
/-! ### rows of tuples of whole numbers -/
def RowT (H : Hp) (x : V) (r : List Int) : Prop := ∃ p, x = .ref p ∧ H p = some (.tup (r.map V.int))
abbrev RowsT (H : Hp) (xs : List V) (rs : List (List Int)) : Prop := Paired (RowT H) xs rs
theorem RowT.same {H H' : Hp} {x : V} {r : List Int} (h : RowT H x r) (S : TSame H H') : RowT H' x r := by
  obtain ⟨p, e, hp⟩ := h; exact ⟨p, e, S _ _ hp⟩
theorem RowsT.same {H H' : Hp} {xs : List V} {rs : List (List Int)} (h : RowsT H xs rs) (S : TSame H H') : RowsT H' xs rs := Paired.imp' (fun _ _ z => z.same S) h
theorem RowsT.length {H : Hp} {xs : List V} {rs : List (List Int)} (h : RowsT H xs rs) : xs.length = rs.length := Paired.length h
theorem RowsT.snoc {H : Hp} {xs : List V} {rs : List (List Int)} {x : V} {r : List Int} (h : RowsT H xs rs) (z : RowT H x r) : RowsT H (xs ++ [x]) (rs ++ [r]) := Paired.snoc h z
def dRowT (r : List Int) : PyData := .tuple (r.map PyData.int)
end L2
namespace OL
open PySem L2
def aheadF (n : Nat) : Nat := n - 2 ^ n.log2
def goneRow (bs : List Int) (n : Nat) : List Int := [(n : Int), ((aheadF n : Nat) : Int), colF bs ((aheadF n : Nat) : Int) - colF bs (n : Int)]
def goneR (bs : List Int) (least : Int) (n : Nat) : List (List Int) := (((List.range n).filter (ofB bs least)).filter fun i => decide (i ≠ 0)).map (goneRow bs)
section
variable {many : Int} {bs : List Int} (hb : ∀ x ∈ bs, InB many x)
include hb
end
def bitB (lot : Int) (t : Int) : Bool := Builtin.bitAnd (lot / 2 ^ t.toNat) 1 == 1
def spWithout : Sp := fun vs H Q _ => ∃ x y : Int, vs = [.int x, .int y] ∧ 0 ≤ x ∧ 0 ≤ y ∧ Q (.int (x - Builtin.bitAnd x y)) H
def spGreat : Sp := fun vs H Q _ => ∃ n : Nat, vs = [.int (n : Int)] ∧ 0 < n ∧ n < 4096 ∧ Q (.int ((aheadF n : Nat) : Int)) H
def spGoneRow : Sp := fun vs H Q _ => ∃ (d : Addr) (many : Int) (bs : List Int) (least : Int) (n N : Nat), vs = [.ref d, .int (n : Int)] ∧ Rd H d (.dK (oftenKV bs least N)) ∧ (∀ x ∈ bs, InB many x) ∧ 0 < n ∧ n < 4096 ∧ n ∈ (List.range N).filter (ofB bs least) ∧ ∀ (p : Addr) (H' : Hp), Same H H' → H p = none → H' p = some (.tup ((goneRow bs n).map V.int)) → Q (.ref p) H'
def spGone (K : PySem.W.Frag) : Sp := fun vs H Q _ => ∃ (b : Addr) (many : Int) (bs : List Int) (least : Int), vs = [.ref b, .int least] ∧ Bk K H b many bs ∧ bs.length ≤ 500 ∧ 0 ≤ many ∧ many ≤ 10 ∧ (∀ x ∈ bs, InB many x) ∧ ∀ (r : Addr) (xs : List V) (H' : Hp), Same H H' → H r = none → H' r = some (.lst xs) → RowsT H' xs (goneR bs least (2 ^ many.toNat)) → Q (.ref r) H'
def spThingsL : Sp := fun vs H Q _ => ∃ n : Nat, vs = [.int (n : Int)] ∧ 0 < n ∧ n < 4096 ∧ ∀ (r : Addr) (ys : List V) (H' : Hp), Same H H' → H r = none → H' r = some (.lst (ys ++ [.int ((n.log2 : Nat) : Int)])) → Q (.ref r) H'
end OL

namespace OL
open PySem L2
/-! ### papers of marks -/
def MRow (H : Hp) (x : V) (m : Int × List Int) : Prop := ∃ p l, x = .ref p ∧ H p = some (.tup [.int m.1, .ref l]) ∧ H l = some (.lst (m.2.map V.int))
def MRows (H : Hp) : List V → List (Int × List Int) → Prop := Paired (MRow H)
theorem MRows.same {H H' : Hp} {xs : List V} {ms : List (Int × List Int)} (S : Same H H') (h : MRows H xs ms) : MRows H' xs ms := Paired.imp' (fun _ _ ⟨p, l, e, h1, h2⟩ => ⟨p, l, e, S _ _ h1, S _ _ h2⟩) h
/-- marks rows whose lists are newer than a heap -/
def MRowN (H0 H : Hp) (x : V) (m : Int × List Int) : Prop := ∃ p l, x = .ref p ∧ H0 l = none ∧ H p = some (.tup [.int m.1, .ref l]) ∧ H l = some (.lst (m.2.map V.int))
def MRowsN (H0 H : Hp) : List V → List (Int × List Int) → Prop := Paired (MRowN H0 H)
theorem MRowsN.m {H0 H : Hp} {xs : List V} {ms : List (Int × List Int)} (h : MRowsN H0 H xs ms) : MRows H xs ms := Paired.imp' (fun _ _ ⟨p, l, e, _, h1, h2⟩ => ⟨p, l, e, h1, h2⟩) h
theorem MRowsN.same {H0 H H' : Hp} {xs : List V} {ms : List (Int × List Int)} (S : Same H H') (h : MRowsN H0 H xs ms) : MRowsN H0 H' xs ms := Paired.imp' (fun _ _ ⟨p, l, e, n, h1, h2⟩ => ⟨p, l, e, n, S _ _ h1, S _ _ h2⟩) h
theorem MRowsN.past {H0 H H' : Hp} {xs : List V} {ms : List (Int × List Int)} {r : Addr} {ds : List V} (h0 : H0 r ≠ none) (hr : H r = some (.lst ds)) (SB : SameB r H H') (h : MRowsN H0 H xs ms) : MRows H' xs ms := Paired.imp' (fun _ _ ⟨p, l, e, n, h1, h2⟩ => ⟨p, l, e, SB _ _ (fun z => by rw [z, hr] at h1; cases h1) h1, SB _ _ (fun z => h0 (by rw [← z]; exact n)) h2⟩) h
/-- rows of which the first is known -/
def FRow (H : Hp) (x : V) (k : Int) : Prop := ∃ p ys, x = .ref p ∧ H p = some (.tup (.int k :: ys))
theorem MRows.f {H : Hp} : ∀ {xs : List V} {ms : List (Int × List Int)}, MRows H xs ms → Paired (FRow H) xs (ms.map Prod.fst)
  | _, _, .nil => .nil
  | _, _, .cons ⟨p, l, e, h1, h2⟩ t => .cons ⟨p, _, e, h1⟩ (MRows.f t)
def riseFrom (top : Int) : Int → List Int → Bool
  | last, [] => decide (last ≤ top)
  | last, k :: ks => if k ≤ last then false else riseFrom top k ks
def riseB (many : Int) (ks : List Int) : Bool := riseFrom (topF many) (-1) ks
def lackM (lot b : Int) : List Int := thingsF (lot - Builtin.bitAnd lot b)
def markB (b lot mk : Int) : Bool := if mk = -1 then hasF b lot else (lackM lot b).any fun t => t == mk
def marksFrom (lot : Int) : List Int → List Int → Bool
  | b :: bs, m :: ms => markB b lot m && marksFrom lot bs ms
  | _, _ => true
def marksB (bs : List Int) (lot : Int) (ms : List Int) : Bool := decide (ms.length = bs.length) && marksFrom lot bs ms
def cntM (ms : List Int) : Int := ((ms.countP fun y => y == -1 : Nat) : Int)
def leadsB (many : Int) (lots rares : List Int) : Bool := (lots.any (fun x => x == 0) || rares.any fun x => x == 0) && lots.all fun l => (lackF many l).all fun t => lots.any (fun x => x == wt l t.toNat) || rares.any fun r => hasF (wt l t.toNat) r
def wholeB (many : Int) (bs : List Int) (least : Int) (P R : List (Int × List Int)) : Bool :=
  riseB many (P.map Prod.fst) && riseB many (R.map Prod.fst) && (P.all fun m => marksB bs m.1 m.2 && !decide (cntM m.2 < least)) && (R.all fun m => marksB bs m.1 m.2 && !decide (least ≤ cntM m.2)) && leadsB many (P.map Prod.fst) (R.map Prod.fst)
def spRise : Sp := fun vs H Q _ => ∃ (p : Addr) (many : Int) (xs : List V) (ks : List Int), vs = [.int many, .ref p] ∧ 0 ≤ many ∧ many ≤ 12 ∧ H p = some (.lst xs) ∧ Paired (FRow H) xs ks ∧ Q (.bl (riseB many ks)) H
def spMarkR : Sp := fun vs H Q _ => ∃ b lot mk : Int, vs = [.int b, .int lot, .int mk] ∧ 0 ≤ b ∧ Sm lot ∧ ∀ H', Same H H' → Q (.bl (markB b lot mk)) H'
def spMarksR (K : PySem.W.Frag) : Sp := fun vs H Q _ => ∃ (b r l : Addr) (many : Int) (bs : List Int) (lot : Int) (ms : List Int), vs = [.ref b, .ref r] ∧ Bk K H b many bs ∧ bs.length ≤ 500 ∧ (∀ x ∈ bs, 0 ≤ x) ∧ H r = some (.tup [.int lot, .ref l]) ∧ H l = some (.lst (ms.map V.int)) ∧ Sm lot ∧ ∀ H', Same H H' → Q (.bl (marksB bs lot ms)) H'
def spLeadsOn (K : PySem.W.Frag) : Sp := fun vs H Q _ => ∃ (d r : Addr) (many : Int) (kvs : List (Int × V)) (rares : List Int), vs = [.int many, .ref d, .ref r] ∧ 0 ≤ many ∧ many ≤ 12 ∧ H d = some (.dK (tabV kvs)) ∧ H r = some (.lst (rares.map V.int)) ∧ (∀ k ∈ kvs, InB many k.1) ∧
  ∀ H', SameB d H H' → Q (.bl (leadsB many (kvs.map Prod.fst) rares)) H'
def spWholeH (K : PySem.W.Frag) : Sp := fun vs H Q _ => ∃ (b pp p1 p2 : Addr) (many : Int) (bs : List Int) (least : Int) (xs ys : List V) (P R : List (Int × List Int)), vs = [.ref b, .int least, .ref pp] ∧ Bk K H b many bs ∧ bs.length ≤ 500 ∧ (∀ x ∈ bs, InB many x) ∧ 0 ≤ many ∧ many ≤ 12 ∧ H pp = some (.tup [.ref p1, .ref p2]) ∧ H p1 = some (.lst xs) ∧ H p2 = some (.lst ys) ∧ MRows H xs P ∧ MRows H ys R ∧ P.length ≤ 5000 ∧ R.length ≤ 5000 ∧
  ∀ H', Same H H' → Q (.bl (wholeB many bs least P R)) H'
theorem Sm.of {many x : Int} (h : InB many x) (hm : many ≤ 12) : Sm x := by
  have h1 := pow12 hm
  have h2 := powC many
  exact ⟨h.1, by have := h.2; omega⟩
def markF (b lot : Int) : Int := if (lackM lot b).length = 0 then -1 else bstmin (lackM lot b) ((lackM lot b).length - 1)
def markedF (bs : List Int) (rs : List (Int × Int)) : List (Int × List Int) := rs.map fun r => (r.1, bs.map fun b => markF b r.1)
def spMarkFor : Sp := fun vs H Q _ => ∃ b lot : Int, vs = [.int b, .int lot] ∧ 0 ≤ b ∧ Sm lot ∧ ∀ H', Same H H' → Q (.int (markF b lot)) H'
def spMarked (K : PySem.W.Frag) : Sp := fun vs H Q _ => ∃ (b r : Addr) (many : Int) (bs : List Int) (xs : List V) (rs : List (Int × Int)), vs = [.ref b, .ref r] ∧ Bk K H b many bs ∧ bs.length ≤ 500 ∧ (∀ x ∈ bs, 0 ≤ x) ∧ H r = some (.lst xs) ∧ Rows H xs rs ∧ rs.length ≤ 5000 ∧ (∀ r ∈ rs, Sm r.1) ∧
  ∀ (t : Addr) (ys : List V) (H' : Hp), Same H H' → H t = none → H' t = some (.lst ys) → MRowsN H H' ys (markedF bs rs) → Q (.ref t) H'
def spWholeP (K : PySem.W.Frag) : Sp := fun vs H Q _ => ∃ (b : Addr) (many : Int) (bs : List Int) (least : Int), vs = [.ref b, .int least] ∧ Bk K H b many bs ∧ bs.length ≤ 500 ∧ 0 ≤ many ∧ many ≤ 12 ∧ (∀ x ∈ bs, InB many x) ∧
  ∀ (pp p1 p2 : Addr) (xs ys : List V) (H' : Hp), Same H H' → H pp = none → H p1 = none → H p2 = none → H' pp = some (.tup [.ref p1, .ref p2]) → H' p1 = some (.lst xs) → H' p2 = some (.lst ys) → MRowsN H H' xs (markedF bs (oftenR bs least (2 ^ many.toNat))) → MRowsN H H' ys (markedF bs (bordR bs least (2 ^ many.toNat))) → Q (.ref pp) H'
end OL

namespace OL
open PySem L2
theorem mem_thingsF {lot : Int} (h : 0 ≤ lot) {x : Int} : x ∈ thingsF lot ↔ ∃ t : Nat, Th lot t ∧ x = (t : Int) := by
  unfold thingsF upto
  rw [List.mem_map]
  constructor
  · rintro ⟨t, ht, rfl⟩
    have this : hasF lot (1 * 2 ^ t) = true := (List.mem_filter.mp ht).2
    exact ⟨t, (has_th h t).mp this, rfl⟩
  · rintro ⟨t, ht, rfl⟩
    refine ⟨t, List.mem_filter.mpr ⟨List.mem_range.mpr ?_, ?_⟩, rfl⟩
    · obtain ⟨n, rfl⟩ : ∃ n : Nat, lot = (n : Int) := ⟨lot.toNat, by omega⟩
      have hlt := lt_bits n
      unfold Th at ht
      rw [Int.toNat_natCast] at ht
      apply Classical.byContradiction
      intro z
      have := Nat.testBit_lt_two_pow (Nat.lt_of_lt_of_le hlt (Nat.pow_le_pow_right (n := 2) (by decide) (Nat.le_of_not_lt z)))
      rw [this] at ht; cases ht
    · exact (has_th h t).mpr ht
section
variable {many : Int} {bs : List Int} {least : Int} (hb : ∀ x ∈ bs, InB many x)
include hb
end
end OL

namespace L2
open PySem PySem.Spec PyProof.Rows
section
variable {X : Cx}
end
end L2

namespace OL
open PySem L2 OL.W41
/-! ### a dict of whole numbers, as what it tells -/
def DF (H : Hp) (d : Addr) (L : List Int) (f : Int → Int) (n : Nat) : Prop := ∃ kvs : List (Key × V), H d = some (.dK kvs) ∧ kvs.length ≤ n ∧ ∀ q ∈ L, valV kvs (Sum.inl q) = some (.int (f q))
theorem DF.b {H H' : Hp} {d : Addr} {L : List Int} {f : Int → Int} {n : Nat} (h : DF H d L f n) (S : Same H H') : DF H' d L f n := by
  obtain ⟨kvs, h1, h2, h3⟩ := h
  exact ⟨kvs, S _ _ h1, h2, h3⟩
theorem putK_len {kvs : List (Key × V)} {k : Key} {v : V} : (putK kvs k v).length ≤ kvs.length + 1 := by
  unfold putK
  split
  · rw [List.length_map]; omega
  · rw [List.length_append]; show _ + 1 ≤ _; omega
theorem putK_old {kvs : List (Key × V)} {k : Key} {v w : V} (h : valV kvs k = some w) : (putK kvs k v).length = kvs.length := by
  unfold putK
  rw [valV_any, h, if_pos (show (some w).isSome = true from rfl), List.length_map]
theorem DF.put {H : Hp} {d : Addr} {L : List Int} {f : Int → Int} {n : Nat} (h : DF H d L f n) (hn : n < sizeLine) (q v : Int) :
    ∃ H', DPut H d (.int q) (.int v) H' ∧ SameB d H H' ∧ DF H' d (L ++ [q]) (fun x => if x = q then v else f x) (n + 1) ∧ (q ∈ L → DF H' d L (fun x => if x = q then v else f x) n) := by
  obtain ⟨kvs, h1, h2, h3⟩ := h
  have key : ∀ x, x ∈ L ∨ x = q → valV (putK kvs (Sum.inl q) (.int v)) (Sum.inl x) = some (.int (if x = q then v else f x)) := fun x hx => by
    rw [valV_put]
    by_cases c : x = q
    · subst c; simp
    · rw [if_neg (fun e => c (by injection e)), if_neg c]
      rcases hx with hx | hx
      · exact h3 x hx
      · exact absurd hx c
  refine ⟨_, DPut.k (k := Sum.inl q) h1 (Nat.lt_of_le_of_lt h2 hn), sameB_upd, ⟨_, upd_same, Nat.le_trans putK_len (by omega), fun x hx => key x ?_⟩, fun hq => ⟨_, upd_same, ?_, fun x hx => key x (.inl hx)⟩⟩
  · rcases List.mem_append.mp hx with z | z
    · exact .inl z
    · exact .inr (List.mem_singleton.mp z)
  · rw [putK_old (h3 q hq)]; exact h2
theorem DF.get {H : Hp} {d : Addr} {L : List Int} {f : Int → Int} {n : Nat} (h : DF H d L f n) {q : Int} (hq : q ∈ L) : DGet H d (.int q) (some (.int (f q))) := by
  obtain ⟨kvs, h1, h2, h3⟩ := h
  have := DGet.k (k := Sum.inl q) h1
  rw [h3 q hq] at this
  exact this
/-! ### lots within a lot -/
def lesserF (lot : Int) : List Int := (withinF lot).dropLast
def oddB (lot : Int) : Bool := decide ((((thingsF lot).length : Nat) : Int) % 2 = 1)
def belowF (lot : Int) : List Int := (lesserF lot).filter fun p => !oddB (lot - p)
def aboveF (lot : Int) : List Int := (withinF lot).filter fun p => oddB (lot - p)
/-! ### the sums, thing by thing -/
def cntOf (cs : List (Int × Int)) (q : Int) : Int := ((cs.find? fun r => decide (r.1 = q)).map Prod.snd).getD 0
def sgnF (lot q c : Int) : Int := if oddB (lot - q) = true then c else -c
def baseF (lot : Int) (cs : List (Int × Int)) (q : Int) : Int := if q = lot then 0 else sgnF lot q (cntOf cs q)
def stepZ (t : Int) (f : Int → Int) (q : Int) : Int := if hasF q (1 * 2 ^ t.toNat) = true then f q else f q + f (wt q t.toNat)
def zetaF (lot : Int) (cs : List (Int × Int)) : Int → Int := (thingsF lot).foldl (fun f t => stepZ t f) (baseF lot cs)
/-- sums over the lots between -/
def sumL (L : List Int) (f : Int → Int) (p : Int → Bool) : Int := ((L.filter p).map f).sum
def btw (ts : List Int) (lot q r : Int) : Bool := hasF r q && (thingsF lot).all fun t => hasF q (1 * 2 ^ t.toNat) || !hasF r (1 * 2 ^ t.toNat) || ts.any fun u => u == t
end OL

namespace L2
open PySem PySem.Spec PyProof.Rows
/-! for .. in d.keys() -/
section
variable {X : Cx}
end
/-! max(list of lists, key=len, default=[]): the first of the longest -/
section
variable {prog : Program} {w : World} {A : Around} {R : Result → Shared → Prop} {it : Addr} {fp wr : List Addr} {n : Nat} {PP : Nat → Value → Prop} {St : Nat → Heap → Prop} {h0 : Heap} {kf : Nat → Int} {d : Value}
end
section
variable {X : Cx}
def tMaxLenF (K : PySem.W.Frag) (ta : TA) : TE := fun σ H Q => ta σ H fun vs H1 => ∃ (a : Addr) (xs : List Addr) (ys : Nat → List V), vs = [.ref a] ∧ SqL K H1 a (xs.map V.ref) ∧ (∀ i x, xs[i]? = some x → SqL K H1 x (ys i)) ∧
  ∀ d, H1 d = none → (xs = [] → Q (.ref d) (upd H1 d (.lst []))) ∧ (∀ i x, xs[i]? = some x → (∀ j, j < xs.length → (ys j).length ≤ (ys i).length) → (∀ j, j < i → (ys j).length < (ys i).length) → Q (.ref x) (upd H1 d (.lst [])))
end
end L2

namespace L2
open PySem PySem.Spec PyProof.Rows
section
variable {X : Cx}
def tThaw (te : TE) : TE := fun σ H Q => ∃ d, Mut (H d) ∧ te σ H fun v H' => ∃ o u, H' d = some (.frz o u) ∧ Q v (upd H' d u)
end
end L2

namespace OL
open PySem L2
/-! ### longest rows, as the program has them -/
def longStep (b x : List Int) : List Int := if b.length < x.length then x else b
def firstMax (rows : List (List Int)) : List Int := rows.foldl longStep []
def endsIn (lot : Int) (r : List Int) : Bool := hasF lot (r.getLastD 0)
def rowStep (rows : List (List Int)) (lot : Int) : List (List Int) := rows ++ [firstMax (rows.filter (endsIn lot)) ++ [lot]]
def rowsUp (ls : List Int) : List (List Int) := ls.foldl rowStep []
def longestL (ls : List Int) : List Int := firstMax (rowsUp ls)
/-- next to one another in a row -/
def Links (ls : List Int) (r : List Int) : Prop := ∀ i a b, r[i]? = some a → r[i + 1]? = some b → nextL ls b a = true
structure RowOk (ls : List Int) (i : Nat) (r : List Int) : Prop where
  last : ∃ t l, r = t ++ [l] ∧ ls[i]? = some l
  mem : ∀ x ∈ r, x ∈ ls
  link : Links ls r
  len : ∀ j q, j < i → (rowsUp ls)[j]? = some q → overF (ls.getD i 0) (ls.getD j 0) = true → q.length < r.length
theorem paired_self {α : Type} {f : α → V} : ∀ as : List α, Paired (fun v x => v = f x) (as.map f) as
  | [] => .nil
  | _ :: r => .cons rfl (paired_self r)
def spLongOfF (K : PySem.W.Frag) : Sp := fun vs H Q _ => ∃ (a : Addr) (ps : List (Addr × List Int)), vs = [.ref a] ∧ SqL K H a (ps.map fun p => V.ref p.1) ∧ (∀ p ∈ ps, H p.1 = some (.lst (p.2.map V.int))) ∧ (∀ p ∈ ps, p.2 ≠ []) ∧
  ∀ (r : Addr) (H' : Hp), Same H H' → H' r = some (.lst ((firstMax (ps.map Prod.snd)).map V.int)) → (H r = none ∨ ∃ p ∈ ps, p.1 = r) → Q (.ref r) H'
def spLongF : Sp := fun vs H Q _ => ∃ (a : Addr) (rs : List (Int × Int)), vs = [.ref a] ∧ RL H a rs ∧ rs.length ≤ 1000 ∧
  ∀ (r : Addr) (H' : Hp), Same H H' → H r = none → H' r = some (.lst ((longestL (rs.map Prod.fst)).map V.int)) → Q (.ref r) H'
def spRight17 : Sp := fun vs H Q _ => ∃ (lo fo : Addr) (ls : List Int), vs = [.ref lo, .ref fo] ∧ H lo = some (.lst (ls.map V.int)) ∧ H fo = some (.lst ((longestL ls).map V.int)) ∧ (∀ y ∈ ls, 0 ≤ y) ∧ ls.Pairwise (· < ·) ∧ ls.length ≤ 1000 ∧
  ∀ H', Same H H' → Q (.bl true) H'
/-- the table of the lengths so far -/
def lensT (ls : List Int) (i : Nat) : List (Int × Int) := (ls.take i).zip ((rowsUp (ls.take i)).map fun q => (q.length : Int))
end OL

namespace L2
open PySem PySem.Spec PyProof.Rows
section
variable {X : Cx}
/-! ### texts: +, cuts, join, split -/
theorem str_app_nil (x y : Str) (h : (x.length == 0) = true) : x ++ y = y := by
  have e : x.cps = #[] := by
    have h' : x.length = 0 := by simpa using h
    have : x.cps.size = 0 := h'
    exact Array.eq_empty_of_size_eq_zero this
  cases x; cases y
  dsimp only at e
  subst e
  show (Str.mk (#[] ++ _)) = _
  simp
theorem str_nil_app (x y : Str) (h : (y.length == 0) = true) : x ++ y = x := by
  have e : y.cps = #[] := by
    have h' : y.length = 0 := by simpa using h
    have : y.cps.size = 0 := h'
    exact Array.eq_empty_of_size_eq_zero this
  cases x; cases y
  dsimp only at e
  subst e
  show (Str.mk (_ ++ #[])) = _
  simp
def rCatS : R2 := fun x y H Q => ∃ a b : Str, x = .str a ∧ y = .str b ∧ (a ++ b).length ≤ sizeLine ∧ Q (.str (a ++ b)) H
theorem op_catS : OpR X (binaryOp .Add) rCatS := by
  intro pins s σ H x y v u Q I rx ry h
  obtain ⟨a, b, rfl, rfl, hz, q⟩ := h
  obtain ⟨t, rfl⟩ := rx
  obtain ⟨t', rfl⟩ := ry
  refine PySem.P.add_str ?_
  cases c1 : (a.length == 0) with
  | true =>
    rw [if_pos rfl]
    exact ⟨.str (a ++ b), H, I, ⟨t', by rw [str_app_nil _ _ c1]⟩, q⟩
  | false =>
    rw [if_neg (by decide)]
    cases c2 : (b.length == 0) with
    | true =>
      rw [if_pos rfl]
      exact ⟨.str (a ++ b), H, I, ⟨t, by rw [str_nil_app _ _ c2]⟩, q⟩
    | false =>
      rw [if_neg (by decide)]
      exact ⟨hz, ⟨.str (a ++ b), H, I.tok _, ⟨_, rfl⟩, q⟩⟩
def rSlS : V → Option Int → Option Int → Hp → VK → Prop := fun x lo hi H Q => ∃ z : Str, x = .str z ∧ z.length ≤ sizeLine ∧ Q (.str (Txt.slice z lo hi)) H
theorem sl_S : SlR X rSlS := by
  intro pins s σ H x v vl vu lo hi sl Q I rx hs pl pu h
  obtain ⟨z, rfl, hz, q⟩ := h
  obtain ⟨t, rfl⟩ := rx
  have key : ∀ l u : Option (Int × Tok), s.heap.IsSlice sl l u none → Q (.str (Txt.slice z (l.map (·.1)) (u.map (·.1)))) H → wpAny (model X.prog X.w) X.A (getItem (.str z t) (.ref sl)) (EP X pins σ Q) X.xe s := fun l u hsl q => by
    refine wpAny_getItem_str_slice hsl rfl ?_
    show (if ((1 : Int) == 1 && (Builtin.Str.strSliceIndices (l.map (·.1)) (u.map (·.1)) 1 z.length).length == z.length) = true then Made.val (.str z t) else Made.str ⟨((Builtin.Str.strSliceIndices (l.map (·.1)) (u.map (·.1)) 1 z.length).filterMap (z.cps[·]?)).toArray⟩).post _ s
    exact post_val_or_str ⟨Nat.le_trans (Txt.slice_le z _ _) hz, fun t' k => ⟨.str (Txt.slice z (l.map (·.1)) (u.map (·.1))), H, I.tok _, ⟨t', rfl⟩, q⟩⟩
  refine ⟨"str", _, PySem.F.slot_str_getitem.lookup, typeIs_str _ _ _, ?_⟩
  cases pl with
  | none =>
    cases pu with
    | none => exact key none none hs q
    | int j u => exact key none (some (j, u)) hs q
  | int i ti =>
    cases pu with
    | none => exact key (some (i, ti)) none hs q
    | int j u => exact key (some (i, ti)) (some (j, u)) hs q
theorem sl_SK (K : PySem.W.Frag) (hK : X.K = K) : SlR X rSlS := sl_S
theorem vals_strs : ∀ {ss : List Str} {us : List Value}, Vals (ss.map V.str) us → StrsAre us ss
  | [], _, .nil => .nil
  | _ :: _, _, .cons r t => by
    obtain ⟨k, rfl⟩ := r
    exact .cons _ k (vals_strs t)
theorem strs_vals : ∀ {ss : List Str} {us : List Value}, StrsAre us ss → Vals (ss.map V.str) us
  | [], _, .nil => .nil
  | _ :: _, _, .cons x t r => .cons ⟨t, rfl⟩ (strs_vals r)
theorem strsFrom_vals : ∀ (k : Nat) (ss : List Str), Vals (ss.map V.str) (strsFrom k ss)
  | _, [] => .nil
  | k, _ :: r => .cons ⟨k, rfl⟩ (strsFrom_vals (k + 1) r)
/-- sep.join(list of texts) -/
def rJoin (K : PySem.W.Frag) : V → List V → Hp → VK → Prop := fun x xs H Q => ∃ (sep : Str) (p : Addr) (ss : List Str), x = .str sep ∧ xs = [.ref p] ∧ SqL K H p (ss.map V.str) ∧ (ss.map (·.length)).sum + ss.length * sep.length ≤ 16777216 ∧ Q (.str (Txt.join sep ss)) H
theorem mt_join : MtR X "str.join" (rJoin X.K) := by
  intro pins s σ H x xs v us Q I rx rs h
  obtain ⟨sep, p, ss, rfl, rfl, hq, hz, q⟩ := h
  obtain ⟨t, rfl⟩ := rx
  obtain ⟨u, rfl, ru⟩ := vals1 rs
  cases (show u = Value.ref p from ru)
  obtain ⟨its, rv, pl, hl⟩ := I.list hq
  exact PyProof.Rows.join_list pl.isList (by simpa using vals_strs rv) hz fun t' k => ⟨.str (Txt.join sep ss), H, I.tok _, ⟨t', rfl⟩, q⟩
/-- text.split(sep) -/
def rSplit : V → List V → Hp → VK → Prop := fun x xs H Q => ∃ (z sep : Str), x = .str z ∧ xs = [.str sep] ∧ (sep.length == 0) = false ∧ z.length + 2 ≤ sizeLine ∧ ∀ l, H l = none → Q (.ref l) (upd H l (.lst ((Txt.split z sep).map V.str)))
theorem mt_split : MtR X "str.split" rSplit := by
  intro pins s σ H x xs v us Q I rx rs h
  obtain ⟨z, sep, rfl, rfl, hy, hz, q⟩ := h
  obtain ⟨t, rfl⟩ := rx
  obtain ⟨w', rfl, ru⟩ := vals1 rs
  obtain ⟨u, rfl⟩ := ru
  have hle := PyProof.Rows.split_le z sep
  have q := q s.heap.objs.size (I.hok.fresh (Nat.le_refl _))
  have one : Txt.split z sep = [z] → EP X pins σ Q (.ref s.heap.objs.size) { s with heap := s.heap.push { cls := .type "list", data := .seq [Value.str z t].toArray } } := fun e => by
    rw [e] at q
    exact ⟨.ref s.heap.objs.size, _, I.laid (t' := s.toks) (fun b ob e => Heap.get?_push_of_some _ e) (Nat.le_refl _) (show ObjOk X.prog X.w _ _ _ (.lst ([z].map V.str)) from ⟨by show 1 ≤ sizeLine; decide, [.str z t], 0, .cons ⟨t, rfl⟩ .nil, Heap.get?_push_size _ rfl⟩), rfl, q⟩
  cases h1 : (decide (z.length < sep.length) || decide (Builtin.Str.strKind z < Builtin.Str.strKind sep))
  · cases hf : (Builtin.Str.occurrences z sep 0 z.length (z.length + 1)).isEmpty
    · have e : Txt.split z sep = Builtin.Str.partsBetween z (Builtin.Str.occurrences z sep 0 z.length (z.length + 1)) sep.length := (if_neg (ne_true_of_eq_false h1)).trans (if_neg (ne_true_of_eq_false hf))
      rw [e] at q hle
      refine call_meets F.slot_str_split (typeIs_str _ _ _) F.entry_str_split (F.args_str_split_2 _ _) (meets_str_split_sep z sep t u h1 hy hf (by omega) (by omega)) ?_
      exact ⟨.ref s.heap.objs.size, _, I.laid (t' := _) (fun b ob e => Heap.get?_push_of_some _ e) (Nat.le_refl _) (show ObjOk X.prog X.w _ _ _ (.lst ((Builtin.Str.partsBetween z (Builtin.Str.occurrences z sep 0 z.length (z.length + 1)) sep.length).map V.str)) from ⟨by rw [List.length_map]; omega, _, 0, strsFrom_vals _ _, Heap.get?_push_size _ rfl⟩), rfl, q⟩
    · exact call_meets F.slot_str_split (typeIs_str _ _ _) F.entry_str_split (F.args_str_split_2 _ _) (meets_str_split_not_found z sep t u h1 hy hf) (one ((if_neg (ne_true_of_eq_false h1)).trans (if_pos hf)))
  · exact call_meets F.slot_str_split (typeIs_str _ _ _) F.entry_str_split (F.args_str_split_2 _ _) (meets_str_split_cannot_occur z sep t u h1) (one (if_pos h1))
/-- a statement that is not come to -/
def tDead : TS := fun _ _ _ => False
theorem ps_dead {st : Stmt} : PS X st tDead := fun _ _ _ _ _ _ h => h.elim
end
end L2

namespace OL
open PySem L2
/-! ### texts by their signs -/
def cps (x : Str) : List Nat := x.cps.toList
theorem cps_inj {x y : Str} (h : cps x = cps y) : x = y := by
  cases x; cases y
  unfold cps at h
  dsimp only at h
  congr 1
  exact Array.toList_inj.mp h
theorem cps_app (x y : Str) : cps (x ++ y) = cps x ++ cps y := by
  show (x.cps ++ y.cps).toList = _
  rw [Array.toList_append]; rfl
theorem cps_len (x : Str) : (cps x).length = x.length := by unfold cps; rw [Array.length_toList]; rfl
def jn (c : Nat) : List (List Nat) → List Nat
  | [] => []
  | [w] => w
  | w :: v :: r => w ++ c :: jn c (v :: r)
theorem cps_join (c : Nat) : ∀ ys : List Str, cps (Txt.join ⟨#[c]⟩ ys) = jn c (ys.map cps)
  | [] => rfl
  | [y] => rfl
  | x :: y :: r => by
    have ih := cps_join c (y :: r)
    unfold Txt.join at ih ⊢
    rw [StrLaws.glued_eq_join] at ih ⊢
    show cps (x ++ ⟨#[c]⟩ ++ Str.join ⟨#[c]⟩ (y :: r)) = cps x ++ c :: jn c ((y :: r).map cps)
    rw [cps_app, cps_app, ih, List.append_assoc]
    rfl
theorem free_cut {c : Nat} : ∀ {w v r s : List Nat}, c ∉ w → c ∉ v → w ++ c :: r = v ++ c :: s → w = v ∧ r = s
  | [], [], r, s, _, _, h => by
    rw [List.nil_append, List.nil_append] at h
    exact ⟨rfl, (List.cons.inj h).2⟩
  | [], b :: v, r, s, _, hv, h => by
    rw [List.nil_append, List.cons_append] at h
    exact absurd (List.cons.inj h).1 (fun e => hv (by rw [e]; exact .head _))
  | a :: w, [], r, s, hw, _, h => by
    rw [List.nil_append, List.cons_append] at h
    exact absurd (List.cons.inj h).1.symm (fun e => hw (by rw [e]; exact .head _))
  | a :: w, b :: v, r, s, hw, hv, h => by
    rw [List.cons_append, List.cons_append] at h
    obtain ⟨e1, e2⟩ := List.cons.inj h
    obtain ⟨e3, e4⟩ := free_cut (fun z => hw (.tail _ z)) (fun z => hv (.tail _ z)) e2
    exact ⟨by rw [e1, e3], e4⟩
theorem jn_inj {c : Nat} : ∀ {ws vs : List (List Nat)}, ws ≠ [] → vs ≠ [] → (∀ w ∈ ws, c ∉ w) → (∀ w ∈ vs, c ∉ w) → jn c ws = jn c vs → ws = vs
  | [], _, h, _, _, _, _ => absurd rfl h
  | _ :: _, [], _, h, _, _, _ => absurd rfl h
  | [w], [v], _, _, _, _, h => by rw [show w = v from h]
  | [w], v :: v' :: r, _, _, hw, _, h => by
    have h : w = v ++ c :: jn c (v' :: r) := h
    exact absurd (show c ∈ w by rw [h]; exact List.mem_append_right _ (.head _)) (hw w (.head _))
  | w :: w' :: r, [v], _, _, _, hv, h => by
    have h : w ++ c :: jn c (w' :: r) = v := h
    exact absurd (show c ∈ v by rw [← h]; exact List.mem_append_right _ (.head _)) (hv v (.head _))
  | w :: w' :: r, v :: v' :: s, _, _, hw, hv, h => by
    have h : w ++ c :: jn c (w' :: r) = v ++ c :: jn c (v' :: s) := h
    obtain ⟨e1, e2⟩ := free_cut (hw w (.head _)) (hv v (.head _)) h
    rw [e1, jn_inj (by simp) (by simp) (fun z hz => hw z (.tail _ hz)) (fun z hz => hv z (.tail _ hz)) e2]
theorem map_cps_inj : ∀ {xs ys : List Str}, xs.map cps = ys.map cps → xs = ys
  | [], [], _ => rfl
  | [], _ :: _, h => by cases h
  | _ :: _, [], h => by cases h
  | x :: xs, y :: ys, h => by
    rw [List.map_cons, List.map_cons] at h
    obtain ⟨e1, e2⟩ := List.cons.inj h
    rw [cps_inj e1, map_cps_inj e2]
/-- a text made of words is taken apart to them -/
theorem split_join1 (c : Nat) {ys : List Str} (hne : ys ≠ []) (hf : ∀ y ∈ ys, c ∉ cps y) : Txt.split (Txt.join ⟨#[c]⟩ ys) ⟨#[c]⟩ = ys := by
  have e := StrLaws.join_split (Txt.join ⟨#[c]⟩ ys) ⟨#[c]⟩
  have hfr := StrLaws.split_free (Txt.join ⟨#[c]⟩ ys) c
  have hp := PyProof.Rows.split_pos (Txt.join ⟨#[c]⟩ ys) ⟨#[c]⟩
  generalize Txt.split (Txt.join ⟨#[c]⟩ ys) ⟨#[c]⟩ = ps at e hfr hp
  refine map_cps_inj (jn_inj (c := c) ?_ ?_ ?_ ?_ ?_)
  · intro z
    rw [List.map_eq_nil_iff.mp z] at hp
    exact absurd hp (by decide)
  · intro z; exact hne (List.map_eq_nil_iff.mp z)
  · intro w hw
    obtain ⟨p, hp', rfl⟩ := List.mem_map.mp hw
    exact hfr p hp'
  · intro w hw
    obtain ⟨p, hp', rfl⟩ := List.mem_map.mp hw
    exact hf p hp'
  · rw [← cps_join, ← cps_join]
    congr 1
    unfold Txt.join at e ⊢
    rw [StrLaws.glued_eq_join] at e ⊢
    rw [StrLaws.glued_eq_join]
    exact e
/-! ### lots as texts -/
def letter (c : Nat) : Prop := 97 ≤ c ∧ c ≤ 122
structure NameOk (x : Str) : Prop where
  ne : cps x ≠ []
  le : (cps x).length ≤ 9
  all : ∀ c ∈ cps x, letter c
structure NamesOk (nm : List Str) : Prop where
  lo : 1 ≤ nm.length
  hi : nm.length ≤ 12
  nd : nm.Nodup
  ok : ∀ x ∈ nm, NameOk x
  nn : ∀ x ∈ nm, x ≠ ("none" : Str)
abbrev noneT : Str := "none"
abbrev spc : Str := " "
abbrev dash : Str := "-"
theorem spc_is : spc = ⟨#[32]⟩ := by decide +kernel
theorem cps_dash : cps dash = [45] := by decide +kernel
def wordsF (nm : List Str) (lot : Int) : List Str := if lot = 0 then [dash] else (thingsF lot).map fun t => nm.getD t.toNat ""
def showF (nm : List Str) (lot : Int) : Str := Txt.join spc (wordsF nm lot)
theorem show_zero (nm : List Str) : showF nm 0 = dash := by
  unfold showF wordsF
  rw [if_pos rfl]
  exact cps_inj (by rw [spc_is, cps_join]; rfl)
theorem getD_nm {nm : List Str} {i : Nat} (h : i < nm.length) : nm.getD i "" ∈ nm := by
  rw [List.getD_eq_getElem?_getD, List.getElem?_eq_getElem h]; exact List.getElem_mem h
section
variable {nm : List Str} (ok : NamesOk nm)
include ok
theorem NamesOk.th {lot : Int} (hl : 0 ≤ lot) (hb : lot < 2 ^ nm.length) {t : Int} (ht : t ∈ thingsF lot) : ∃ n : Nat, t = (n : Int) ∧ n < nm.length ∧ Th lot n := by
  obtain ⟨n, h1, h2⟩ := (mem_thingsF hl).mp ht
  refine ⟨n, h2, ?_, h1⟩
  have hI : InB (nm.length : Int) lot := ⟨hl, by rw [Int.toNat_natCast]; exact hb⟩
  have := hI.th h1
  rwa [Int.toNat_natCast] at this
theorem words_free {lot : Int} (hl : 0 ≤ lot) (hb : lot < 2 ^ nm.length) : ∀ y ∈ wordsF nm lot, 32 ∉ cps y := by
  intro y hy
  unfold wordsF at hy
  by_cases c : lot = 0
  · rw [if_pos c] at hy
    rw [List.mem_singleton.mp hy, cps_dash]; decide
  · rw [if_neg c] at hy
    obtain ⟨t, ht, rfl⟩ := List.mem_map.mp hy
    obtain ⟨n, rfl, hn, _⟩ := ok.th hl hb ht
    rw [Int.toNat_natCast]
    intro z
    have := (ok.ok _ (getD_nm hn)).all 32 z
    unfold letter at this
    omega
theorem words_ne {lot : Int} (hl : 0 ≤ lot) : wordsF nm lot ≠ [] := by
  unfold wordsF
  by_cases c : lot = 0
  · rw [if_pos c]; simp
  · rw [if_neg c]
    intro z
    have z := List.map_eq_nil_iff.mp z
    refine c (th_ext hl (Int.le_refl 0) fun i => ⟨fun h => ?_, fun h => by unfold Th at h; simp at h⟩)
    have := (mem_thingsF hl).mpr ⟨i, h, rfl⟩
    rw [z] at this; cases this
theorem split_show {lot : Int} (hl : 0 ≤ lot) (hb : lot < 2 ^ nm.length) : Txt.split (showF nm lot) spc = wordsF nm lot := by
  unfold showF
  rw [spc_is]
  exact split_join1 32 (words_ne ok hl) (words_free ok hl hb)
theorem in_words {lot : Int} (hl : 0 ≤ lot) (hb : lot < 2 ^ nm.length) {i : Nat} (hi : i < nm.length) : ((wordsF nm lot).any fun w => decide (w = nm.getD i "")) = hasF lot (1 * 2 ^ i) := by
  rw [Bool.eq_iff_iff, List.any_eq_true, has_th hl]
  unfold wordsF
  by_cases c : lot = 0
  · rw [if_pos c]
    constructor
    · rintro ⟨w, hw, e⟩
      rw [List.mem_singleton.mp hw] at e
      have e := of_decide_eq_true e
      have h := (ok.ok _ (getD_nm hi)).all 45 (by rw [← e, cps_dash]; exact .head _)
      unfold letter at h
      omega
    · intro h
      rw [c] at h
      unfold Th at h
      simp at h
  · rw [if_neg c]
    constructor
    · rintro ⟨w, hw, e⟩
      obtain ⟨t, ht, rfl⟩ := List.mem_map.mp hw
      obtain ⟨n, rfl, hn, hth⟩ := ok.th hl hb ht
      have e := of_decide_eq_true e
      rw [Int.toNat_natCast, List.getD_eq_getElem?_getD, List.getD_eq_getElem?_getD, List.getElem?_eq_getElem hn, List.getElem?_eq_getElem hi] at e
      have : n = i := (List.getElem_inj ok.nd).mp e
      rw [← this]; exact hth
    · intro h
      exact ⟨_, List.mem_map.mpr ⟨(i : Int), (mem_thingsF hl).mpr ⟨i, h, rfl⟩, rfl⟩, decide_eq_true (by rw [Int.toNat_natCast])⟩
theorem show_len {lot : Int} (hl : 0 ≤ lot) (hb : lot < 2 ^ nm.length) : ((wordsF nm lot).map (·.length)).sum + (wordsF nm lot).length * spc.length ≤ 200 := by
  have h1 : ∀ y ∈ wordsF nm lot, y.length ≤ 9 := fun y hy => by
    unfold wordsF at hy
    by_cases c : lot = 0
    · rw [if_pos c] at hy
      rw [List.mem_singleton.mp hy, ← cps_len, cps_dash]; decide
    · rw [if_neg c] at hy
      obtain ⟨t, ht, rfl⟩ := List.mem_map.mp hy
      obtain ⟨n, rfl, hn, _⟩ := ok.th hl hb ht
      rw [Int.toNat_natCast, ← cps_len]
      exact (ok.ok _ (getD_nm hn)).le
  have h2 : (wordsF nm lot).length ≤ 12 := by
    unfold wordsF
    by_cases c : lot = 0
    · rw [if_pos c]; decide
    · rw [if_neg c, List.length_map]
      have hs : Sm lot := ⟨hl, Int.lt_of_lt_of_le hb (by
        have : (2 : Int) ^ nm.length ≤ 2 ^ 12 := by exact_mod_cast Nat.pow_le_pow_right (n := 2) (by decide) ok.hi
        exact this)⟩
      exact few_len hs
  have h3 : ((wordsF nm lot).map (·.length)).sum ≤ 9 * (wordsF nm lot).length := by
    generalize wordsF nm lot = ws at h1
    clear h2
    induction ws with
    | nil => exact Nat.le_refl _
    | cons w ws ih =>
      have a := h1 w (.head _)
      have b := ih fun y hy => h1 y (.tail _ hy)
      rw [List.map_cons, List.sum_cons, List.length_cons]
      omega
  have h4 : spc.length = 1 := by decide +kernel
  rw [h4]; omega
theorem show_size {lot : Int} (hl : 0 ≤ lot) (hb : lot < 2 ^ nm.length) : (showF nm lot).length ≤ 200 := by
  have h := StrLaws.join_length_le spc (wordsF nm lot)
  unfold showF Txt.join
  rw [StrLaws.glued_eq_join]
  exact Nat.le_trans h (show_len ok hl hb)
end
theorem lot_things (n : Nat) {lot : Int} (hl : 0 ≤ lot) (hb : lot < 2 ^ n) : lotOf (((List.range n).filter fun i => hasF lot (1 * 2 ^ i)).map fun (i : Nat) => (i : Int)) = lot := by
  have key : ∀ m, m ≤ n → (0 ≤ lotOf (((List.range m).filter fun i => hasF lot (1 * 2 ^ i)).map fun (i : Nat) => (i : Int))) ∧ ∀ i, Th (lotOf (((List.range m).filter fun i => hasF lot (1 * 2 ^ i)).map fun (i : Nat) => (i : Int))) i ↔ (i < m ∧ Th lot i) := by
    intro m
    induction m with
    | zero =>
      intro _
      refine ⟨Int.le_refl 0, fun i => ⟨fun h => ?_, fun h => absurd h.1 (Nat.not_lt_zero _)⟩⟩
      have h : Th 0 i := h
      unfold Th at h
      simp at h
    | succ m ih =>
      intro hm
      obtain ⟨h0, ih⟩ := ih (by omega)
      rw [List.range_succ, List.filter_append, List.map_append]
      unfold lotOf at h0 ih ⊢
      rw [List.foldl_append]
      generalize List.foldl (fun acc (p : Int) => Builtin.bitOr acc (1 * 2 ^ p.toNat)) 0 (((List.range m).filter fun i => hasF lot (1 * 2 ^ i)).map fun (i : Nat) => (i : Int)) = x at h0 ih ⊢
      rw [List.filter_cons]
      by_cases c : hasF lot (1 * 2 ^ m) = true
      · rw [if_pos c]
        show 0 ≤ Builtin.bitOr x (1 * 2 ^ ((m : Int)).toNat) ∧ ∀ i, Th (Builtin.bitOr x (1 * 2 ^ ((m : Int)).toNat)) i ↔ _
        rw [Int.toNat_natCast]
        refine ⟨or_nn h0 (pow_nn m), fun i => ?_⟩
        rw [th_or h0 (pow_nn m), ih, th_pow]
        have hm' := (has_th hl m).mp c
        constructor
        · rintro (⟨h1, h2⟩ | rfl)
          · exact ⟨by omega, h2⟩
          · exact ⟨by omega, hm'⟩
        · rintro ⟨h1, h2⟩
          by_cases e : i = m
          · exact .inr e
          · exact .inl ⟨by omega, h2⟩
      · rw [if_neg c]
        show 0 ≤ x ∧ ∀ i, Th x i ↔ _
        refine ⟨h0, fun i => ?_⟩
        rw [ih]
        have hm' : ¬ Th lot m := fun z => c ((has_th hl m).mpr z)
        constructor
        · rintro ⟨h1, h2⟩; exact ⟨by omega, h2⟩
        · rintro ⟨h1, h2⟩
          have : i ≠ m := fun e => hm' (e ▸ h2)
          exact ⟨by omega, h2⟩
  obtain ⟨h0, h⟩ := key n (Nat.le_refl _)
  refine th_ext h0 hl fun i => ?_
  rw [h]
  have hI : InB (n : Int) lot := ⟨hl, by rw [Int.toNat_natCast]; exact hb⟩
  exact ⟨fun z => z.2, fun z => ⟨by have := hI.th z; rwa [Int.toNat_natCast] at this, z⟩⟩
theorem cps_upto {x : Str} {j : Int} (h0 : 0 ≤ j) (h1 : j ≤ (cps x).length) : cps (Txt.slice x none (some j)) = (cps x).take j.toNat := by
  have h := PyProof.Rows.slice_closes_to (x := x) (j := j) ⟨h0, h1⟩
  have h := beq_iff_eq.mp h
  rw [h]
  show ((cps x).drop (0 : Int).toNat).take (j - 0).toNat = _
  rw [Int.sub_zero]; rfl
theorem cps_from {x : Str} {j : Int} (h0 : 0 ≤ j) (h1 : j ≤ (cps x).length) : cps (Txt.slice x (some j) none) = (cps x).drop j.toNat := by
  have h := PyProof.Rows.slice_from_eq (x := x) (i := j) (b := x.length) h0 (by rw [cps_len] at h1; exact h1) rfl
  rw [h]
  show ((cps x).drop j.toNat).take (((x.length : Nat) : Int) - j).toNat = _
  rw [List.take_of_length_le]
  rw [List.length_drop, cps_len]
  rw [cps_len] at h1
  omega
theorem atS_map {nm : List Str} {k : Int} (h0 : 0 ≤ k) (h : k < (nm.length : Int)) : atI (nm.map V.str) k = some (.str (nm.getD k.toNat "")) := by
  obtain ⟨n, rfl⟩ : ∃ n : Nat, k = (n : Int) := ⟨k.toNat, by omega⟩
  have hn : n < nm.length := by omega
  rw [Int.toNat_natCast]
  refine atI_nat ?_
  rw [List.getElem?_map, List.getElem?_eq_getElem hn, List.getD_eq_getElem?_getD, List.getElem?_eq_getElem hn]
  rfl
theorem in_strs (x : Str) : ∀ ss : List Str, inV (.str x) (ss.map V.str) = ss.any fun w => decide (w = x)
  | [] => rfl
  | s :: ss => by
    show (eqV (.str s) (.str x) || inV (.str x) (ss.map V.str)) = _
    rw [in_strs x ss, List.any_cons]
    congr 1
theorem flat_strs : ∀ ss : List Str, (ss.map V.str).all flatV = true
  | [] => rfl
  | _ :: r => by rw [List.map_cons, List.all_cons, flat_strs r]; rfl
def spShow (K : PySem.W.Frag) : Sp := fun vs H Q _ => ∃ (n : Addr) (nm : List Str) (lot : Int), vs = [.ref n, .int lot] ∧ SqL K H n (nm.map V.str) ∧ NamesOk nm ∧ 0 ≤ lot ∧ lot < 2 ^ nm.length ∧ ∀ H', Same H H' → Q (.str (showF nm lot)) H'
def spRead (K : PySem.W.Frag) : Sp := fun vs H Q _ => ∃ (n : Addr) (nm : List Str) (lot : Int) (z : Str), vs = [.ref n, .str z] ∧ z = showF nm lot ∧ SqL K H n (nm.map V.str) ∧ NamesOk nm ∧ 0 ≤ lot ∧ lot < 2 ^ nm.length ∧ ∀ H', Same H H' → Q (.int lot) H'
theorem NamesOk.sm {nm : List Str} (ok : NamesOk nm) {lot : Int} (hl : 0 ≤ lot) (hb : lot < 2 ^ nm.length) : Sm lot := ⟨hl, Int.lt_of_lt_of_le hb (by
  have : (2 : Int) ^ nm.length ≤ 2 ^ 12 := by exact_mod_cast Nat.pow_le_pow_right (n := 2) (by decide) ok.hi
  exact this)⟩
end OL

namespace OL
open PySem L2
def CpOk (x : Str) : Prop := ∀ c ∈ cps x, c < 0x110000
theorem NameOk.cp {x : Str} (h : NameOk x) : CpOk x := fun c hc => by have := h.all c hc; unfold letter at this; omega
theorem drs_strs {K : PySem.W.Frag} {H : Hp} : ∀ ss : List Str, DRs K H (ss.map V.str) (ss.map PyData.str)
  | [] => .nil
  | _ :: r => .cons (.str _) (drs_strs r)
theorem lay_str {x : Str} (h : CpOk x) : (PyData.str x).canLay0 = true := by
  show x.cps.all (fun c => decide (c < 0x110000)) = true
  rw [← Array.all_toList, List.all_eq_true]
  exact fun c hc => decide_eq_true (h c hc)
theorem lay_strs : ∀ {ss : List Str}, (∀ s ∈ ss, CpOk s) → PyData.canLayAll0 (ss.map PyData.str) = true
  | [], _ => rfl
  | s :: ss, h => by
    show ((PyData.str s).canLay0 && PyData.canLayAll0 (ss.map PyData.str)) = true
    rw [lay_str (h s (.head _)), lay_strs fun y hy => h y (.tail _ hy)]; rfl
theorem depth_strs : ∀ ss : List Str, PyData.depthAll (ss.map PyData.str) = 0
  | [] => rfl
  | _ :: r => by
    show max 0 (PyData.depthAll (r.map PyData.str)) = 0
    rw [depth_strs r]; rfl
theorem shaped_strs {ss : List Str} (h : ∀ s ∈ ss, CpOk s) : PySem.SeqAt.shaped (.list (ss.map PyData.str)) = true := by
  unfold PySem.SeqAt.shaped
  have h1 : PyData.canLay0 (.list (ss.map PyData.str)) = true := lay_strs h
  have h2 : PyData.depth (.list (ss.map PyData.str)) ≤ 64 := by
    show PyData.depthAll (ss.map PyData.str) + 1 ≤ 64
    rw [depth_strs]; decide
  rw [h1, Bool.true_and]
  exact decide_eq_true h2
theorem eqv_strs : ∀ ss rr : List Str, PyData.eqvAll (ss.map PyData.str) (rr.map PyData.str) = decide (ss = rr)
  | [], [] => rfl
  | [], _ :: _ => rfl
  | _ :: _, [] => rfl
  | x :: l, y :: m => by
    show ((x == y) && PyData.eqvAll (l.map PyData.str) (m.map PyData.str)) = _
    rw [eqv_strs l m]
    by_cases c1 : x = y <;> by_cases c2 : l = m <;> simp [c1, c2]
theorem ne_strs {K : PySem.W.Frag} {H : Hp} {a b : Addr} {ss rr : List Str} {Q : VK} (ha : SqL K H a (ss.map V.str)) (hb : SqL K H b (rr.map V.str)) (h1 : ∀ s ∈ ss, CpOk s) (h2 : ∀ s ∈ rr, CpOk s) (q : Q (.bl (!decide (ss = rr))) H) : rEqD K true (.ref a) (.ref b) H Q := by
  refine ⟨_, _, .lst ha (drs_strs _), .lst hb (drs_strs _), shaped_strs h1, shaped_strs h2, ?_⟩
  have e : PyData.eqv (.list (ss.map PyData.str)) (.list (rr.map PyData.str)) = decide (ss = rr) := eqv_strs ss rr
  rw [e]; exact q
theorem eq_strs {K : PySem.W.Frag} {H : Hp} {a b : Addr} {ss rr : List Str} {Q : VK} (ha : SqL K H a (ss.map V.str)) (hb : SqL K H b (rr.map V.str)) (h1 : ∀ s ∈ ss, CpOk s) (h2 : ∀ s ∈ rr, CpOk s) (q : Q (.bl (decide (ss = rr))) H) : rEqD K false (.ref a) (.ref b) H Q := by
  refine ⟨_, _, .lst ha (drs_strs _), .lst hb (drs_strs _), shaped_strs h1, shaped_strs h2, ?_⟩
  have e : PyData.eqv (.list (ss.map PyData.str)) (.list (rr.map PyData.str)) = decide (ss = rr) := eqv_strs ss rr
  rw [e]; exact q
theorem ne_nilS {K : PySem.W.Frag} {H : Hp} {a : Addr} {ss : List Str} {Q : VK} (ha : H a = some (.lst (ss.map V.str))) (h1 : ∀ s ∈ ss, CpOk s) (q : ∀ H', Same H H' → Q (.bl (!ss.isEmpty)) H') : ([] : List V).length ≤ sizeLine ∧ ∀ p, H p = none → rEqD K true (.ref a) (.ref p) (upd H p (.lst [])) Q := by
  refine ⟨(by show 0 ≤ sizeLine; decide), fun p hp => ?_⟩
  refine ne_strs (ss := ss) (rr := []) (SqL.of (same_new hp _ _ _ ha)) (SqL.of upd_same) h1 (fun s hs => nomatch hs) ?_
  rw [show decide (ss = []) = ss.isEmpty by cases ss <;> rfl]
  exact q _ (same_new hp _)
theorem eq_nilS {K : PySem.W.Frag} {H : Hp} {a : Addr} {ss : List Str} {Q : VK} (ha : H a = some (.lst (ss.map V.str))) (h1 : ∀ s ∈ ss, CpOk s) (q : ∀ H', Same H H' → Q (.bl ss.isEmpty) H') : ([] : List V).length ≤ sizeLine ∧ ∀ p, H p = none → rEqD K false (.ref a) (.ref p) (upd H p (.lst [])) Q := by
  refine ⟨(by show 0 ≤ sizeLine; decide), fun p hp => ?_⟩
  refine eq_strs (ss := ss) (rr := []) (SqL.of (same_new hp _ _ _ ha)) (SqL.of upd_same) h1 (fun s hs => nomatch hs) ?_
  rw [show decide (ss = []) = ss.isEmpty by cases ss <;> rfl]
  exact q _ (same_new hp _)
theorem pick_permS {ls : List Str} {k : Nat} (h : k < ls.length) : (ls.getD k "" :: ls.eraseIdx k).Perm ls := by
  have e : ls.getD k "" = ls[k] := by rw [List.getD_eq_getElem?_getD, List.getElem?_eq_getElem h]; rfl
  rw [e, List.eraseIdx_eq_take_drop_succ]
  have z : ls.take k ++ ls[k] :: ls.drop (k + 1) = ls := by rw [← List.drop_eq_getElem_cons h, List.take_append_drop]
  refine List.perm_middle.symm.trans ?_
  rw [z]
theorem seqIdx_natS {d : Int} {n : Nat} (h0 : 0 ≤ d) (h1 : d < (n : Int)) : seqIndex? d n = some d.toNat := by
  simp [seqIndex?, show ¬ d < 0 by omega, h0, h1]
theorem erase_strs (ls : List Str) (k : Nat) : (ls.map V.str).eraseIdx k = (ls.eraseIdx k).map V.str := by
  rw [List.eraseIdx_eq_take_drop_succ, List.eraseIdx_eq_take_drop_succ, List.map_append, List.map_take, List.map_drop]
def listHS (H : Hp) (x : Addr) : List V := match H x with | some (.lst vs) => vs | _ => []
def spOrderS : Sp := fun vs H Q _ => ∃ (p l : Addr) (x y z : Int) (bs : List Str), vs = [.ref p, .ref l] ∧ H p = some (.lst [.int x, .int y, .int z]) ∧ H l = some (.lst (bs.map V.str)) ∧ p ≠ l ∧ bs.length ≤ 500 ∧ (∀ s ∈ bs, CpOk s) ∧
  ∀ (r : Addr) (bs' : List Str) (x' y' z' : Int) (H' : Hp), SameB p H H' → H r = none → H' r = some (.lst (bs'.map V.str)) → bs'.Perm bs → H' p = some (.lst [.int x', .int y', .int z']) → Q (.ref r) H'
def spNames (K : PySem.W.Frag) : Sp := fun vs H Q _ => ∃ (a : Addr) (ns : List Int) (k : Int), vs = [.ref a, .int k] ∧ SqL K H a (ns.map V.int) ∧ 0 ≤ k ∧
  ∀ (r : Addr) (nm : List Str) (H' : Hp), Same H H' → H r = none → H' r = some (.lst (nm.map V.str)) → NamesOk nm → Q (.ref r) H'
def spLotN (K : PySem.W.Frag) : Sp := fun vs H Q _ => ∃ (p n : Addr) (nm : List Str), vs = [.ref p, .ref n] ∧ p ≠ n ∧ (∃ x y z : Int, H p = some (.lst [.int x, .int y, .int z])) ∧ H n = some (.lst (nm.map V.str)) ∧ 1 ≤ nm.length ∧ nm.length ≤ 12 ∧
  ∀ (lot : Int) (H' : Hp), SameB p H H' → 0 ≤ lot → lot < 2 ^ nm.length → (∃ x y z : Int, H' p = some (.lst [.int x, .int y, .int z])) → Q (.int lot) H'
/-! ### the names that are drawn -/
def letL : List Nat := (List.range 26).map (· + 97)
abbrev letters : Str := "abcdefghijklmnopqrstuvwxyz"
theorem cps_letters : cps letters = letL := by decide +kernel
theorem let_at {i : Int} (h0 : 0 ≤ i) (h1 : i < 26) : atI letters.cps.toList i = some (97 + i.toNat) := by
  show atI (cps letters) i = _
  rw [cps_letters]
  obtain ⟨n, rfl⟩ : ∃ n : Nat, i = (n : Int) := ⟨i.toNat, by omega⟩
  refine atI_nat ?_
  unfold letL
  rw [List.getElem?_map, List.getElem?_eq_getElem (by rw [List.length_range]; omega)]
  simp; omega
def nameA (base : List Nat) (at_ : Nat) (c : Nat) : List Nat := base.take at_ ++ c :: base.drop at_
def numL (first k : Nat) : Nat := 97 + (first + 7 * k) % 26
theorem num_letter (first k : Nat) : letter (numL first k) := by unfold letter numL; omega
theorem num_inj {first j k : Nat} (hj : j < 12) (hk : k < 12) (h : numL first j = numL first k) : j = k := by unfold numL at h; omega
theorem nameA_inj {base : List Nat} {at_ c d : Nat} (h : nameA base at_ c = nameA base at_ d) : c = d := by
  unfold nameA at h
  have := List.append_cancel_left h
  exact (List.cons.inj this).1
theorem nodup_of {f : Nat → Str} : ∀ {n : Nat}, (∀ i j, i < n → j < n → f i = f j → i = j) → ((List.range n).map f).Nodup := fun {n} h => by
  unfold List.Nodup
  rw [List.pairwise_map]
  refine List.Pairwise.imp_of_mem (fun {a b} ha hb hab e => ?_) (List.nodup_range (n := n))
  exact hab (h a b (List.mem_range.mp ha) (List.mem_range.mp hb) e)
structure NamesPre (nm : List Str) : Prop where
  hi : nm.length ≤ 12
  nd : nm.Nodup
  ok : ∀ x ∈ nm, NameOk x
theorem NamesPre.filter {nm : List Str} (h : NamesPre nm) (p : Str → Bool) : NamesPre (nm.filter p) :=
  ⟨Nat.le_trans (List.length_filter_le _ _) h.hi, h.nd.sublist List.filter_sublist, fun x hx => h.ok x (List.mem_filter.mp hx).1⟩
theorem NamesPre.perm {nm nm' : List Str} (h : NamesPre nm) (hne : nm ≠ []) (hn : ∀ x ∈ nm, x ≠ noneT) (p : nm'.Perm nm) : NamesOk nm' :=
  ⟨by rw [p.length_eq]; exact List.length_pos_iff.mpr hne, by rw [p.length_eq]; exact h.hi, p.nodup_iff.mpr h.nd, fun x hx => h.ok x (p.mem_iff.mp hx), fun x hx => hn x (p.mem_iff.mp hx)⟩
theorem nine_nn : ∀ x ∈ (["nine"] : List Str), x ≠ noneT := fun x hx => by rw [List.mem_singleton.mp hx]; decide +kernel
theorem nine_pre : NamesPre ["nine"] := by
  refine ⟨by decide, by simp, fun x hx => ?_⟩
  rw [List.mem_singleton.mp hx]
  have e : cps ("nine" : Str) = [110, 105, 110, 101] := by decide +kernel
  refine ⟨by rw [e]; simp, by rw [e]; decide, fun c hc => ?_⟩
  rw [e] at hc
  unfold letter
  simp only [List.mem_cons, List.not_mem_nil, or_false] at hc
  omega
theorem pre_of {f : Nat → Str} {n : Nat} (hn : n ≤ 12) (h1 : ∀ i, i < n → NameOk (f i)) (h2 : ∀ i j, i < n → j < n → f i = f j → i = j) : NamesPre ((List.range n).map f) :=
  ⟨by rw [List.length_map, List.length_range]; exact hn, nodup_of h2, fun x hx => by
    obtain ⟨i, hi, rfl⟩ := List.mem_map.mp hx
    exact h1 i (List.mem_range.mp hi)⟩
theorem ix_strK {X : Cx} (K : PySem.W.Frag) (hK : X.K = K) : IxR X rIxS := ix_str
def nameS (bse : Str) (at_ : Int) (first k : Nat) : Str := Txt.slice bse none (some at_) ++ ⟨#[numL first k]⟩ ++ Txt.slice bse (some at_) none
theorem cps_nameS {bse : Str} {at_ : Int} (h0 : 0 ≤ at_) (h1 : at_ ≤ (cps bse).length) (first k : Nat) : cps (nameS bse at_ first k) = nameA (cps bse) at_.toNat (numL first k) := by
  unfold nameS nameA
  rw [cps_app, cps_app, cps_upto h0 h1, cps_from h0 h1, List.append_assoc]; rfl
theorem nameS_ok {bse : Str} {at_ : Int} (h0 : 0 ≤ at_) (h1 : at_ ≤ (cps bse).length) (hl : ∀ c ∈ cps bse, letter c) (hb : (cps bse).length ≤ 7) (first k : Nat) : NameOk (nameS bse at_ first k) := by
  have e := cps_nameS h0 h1 first k
  refine ⟨?_, ?_, fun c hc => ?_⟩
  · rw [e]; unfold nameA; simp
  · rw [e]
    unfold nameA
    rw [List.length_append, List.length_cons, List.length_take, List.length_drop]
    omega
  · rw [e] at hc
    unfold nameA at hc
    rcases List.mem_append.mp hc with w | w
    · exact hl c (List.mem_of_mem_take w)
    · rcases List.mem_cons.mp w with v | v
      · rw [v]; exact num_letter first k
      · exact hl c (List.mem_of_mem_drop v)
theorem nameS_inj {bse : Str} {at_ : Int} (h0 : 0 ≤ at_) (h1 : at_ ≤ (cps bse).length) {first j k : Nat} (hj : j < 12) (hk : k < 12) (h : nameS bse at_ first j = nameS bse at_ first k) : j = k := by
  have e := congrArg cps h
  rw [cps_nameS h0 h1, cps_nameS h0 h1] at e
  exact num_inj hj hk (nameA_inj e)
abbrev aToH : Str := "abcdefgh"
theorem cps_aToH : cps aToH = [97, 98, 99, 100, 101, 102, 103, 104] := by decide +kernel
def wordS (bse : Str) : Str := Txt.slice (bse ++ aToH) none (some 8)
theorem wordS_cps {bse : Str} (hl : ∀ c ∈ cps bse, letter c) : (cps (wordS bse)).length = 8 ∧ ∀ c ∈ cps (wordS bse), letter c := by
  have hlen : (8 : Int) ≤ (cps (bse ++ aToH)).length := by rw [cps_app, List.length_append, cps_aToH]; show (8 : Int) ≤ ((_ + 8 : Nat) : Int); omega
  have e : cps (wordS bse) = (cps (bse ++ aToH)).take 8 := cps_upto (by decide) hlen
  refine ⟨by rw [e, List.length_take]; omega, fun c hc => ?_⟩
  rw [e] at hc
  have hc := List.mem_of_mem_take hc
  rw [cps_app] at hc
  rcases List.mem_append.mp hc with w | w
  · exact hl c w
  · rw [cps_aToH] at w
    unfold letter
    simp only [List.mem_cons, List.not_mem_nil, or_false] at w
    omega
theorem pre_word {bse : Str} (hl : ∀ c ∈ cps bse, letter c) {n : Nat} (hn : n ≤ 8) : NamesPre ((List.range n).map fun (k : Nat) => Txt.slice (wordS bse) none (some ((k : Int) + 1))) := by
  obtain ⟨h8, hlet⟩ := wordS_cps hl
  have e : ∀ k : Nat, k < n → cps (Txt.slice (wordS bse) none (some ((k : Int) + 1))) = (cps (wordS bse)).take (k + 1) := fun k hk => by
    rw [cps_upto (by omega) (by omega)]
    congr 1
  refine pre_of (by omega) (fun i hi => ⟨?_, ?_, fun c hc => ?_⟩) (fun i j hi hj h => ?_)
  · rw [e i hi]
    intro z
    have := congrArg List.length z
    rw [List.length_take, h8] at this
    have : min (i + 1) 8 = 0 := this
    omega
  · rw [e i hi, List.length_take]; omega
  · rw [e i hi] at hc
    exact hlet c (List.mem_of_mem_take hc)
  · have h : (cps (Txt.slice (wordS bse) none (some ((i : Int) + 1)))).length = (cps (Txt.slice (wordS bse) none (some ((j : Int) + 1)))).length := congrArg (fun s => (cps s).length) h
    rw [e i hi, e j hj, List.length_take, List.length_take] at h
    omega
end OL

namespace OL
open PySem L2
/-! ### texts taken apart by a sign of more than one code: the sign has a mark that no piece has -/
def jl (s : List Nat) : List (List Nat) → List Nat
  | [] => []
  | [w] => w
  | w :: v :: r => w ++ s ++ jl s (v :: r)
theorem cps_joinL (s : Str) : ∀ ys : List Str, cps (Txt.join s ys) = jl (cps s) (ys.map cps)
  | [] => rfl
  | [y] => rfl
  | x :: y :: r => by
    have ih := cps_joinL s (y :: r)
    unfold Txt.join at ih ⊢
    rw [StrLaws.glued_eq_join] at ih ⊢
    show cps (x ++ s ++ Str.join s (y :: r)) = cps x ++ cps s ++ jl (cps s) ((y :: r).map cps)
    rw [cps_app, cps_app, ih]
/-- the sign: some signs ahead without the mark, the mark, some signs behind -/
structure Sign (y : Str) (m d : Nat) : Prop where
  at_ : (cps y)[d]? = some m
  fr : ∀ i, i < d → (cps y)[i]? ≠ some m
theorem at_list {x y : Str} {k : Nat} (h : StrLaws.At x y x.length k) : ((cps x).drop k).take (cps y).length = cps y := by
  have h2 := h.2
  rw [StrLaws.subAt_eq] at h2
  have := eq_of_beq h2
  rw [cps_len]; exact this
theorem at_of {x y : Str} {k : Nat} {r : List Nat} (h0 : 1 ≤ y.length) (h : (cps x).drop k = cps y ++ r) : StrLaws.At x y x.length k := by
  have hl := congrArg List.length h
  rw [List.length_drop, List.length_append, cps_len, cps_len] at hl
  refine ⟨?_, ?_⟩
  · omega
  · rw [StrLaws.subAt_eq]
    show (((cps x).drop k).take y.length == cps y) = true
    rw [h, ← cps_len, List.take_left]
    exact beq_self_eq_true _
theorem at_mark {x y : Str} {m d k : Nat} (S : Sign y m d) (h : StrLaws.At x y x.length k) : (cps x)[k + d]? = some m := by
  have e := at_list h
  have := S.at_
  rw [← e] at this
  have hd : d < (cps y).length := (List.getElem?_eq_some_iff.mp S.at_).1
  rw [List.getElem?_take_of_lt hd, List.getElem?_drop] at this
  exact this
theorem parts_join {x y : Str} {m d : Nat} (S : Sign y m d) : ∀ (zs : List (List Nat)) (a f : Nat) (cuts : List Nat), zs ≠ [] → (∀ z ∈ zs, m ∉ z) → (cps x).drop a = jl (cps y) zs → StrLaws.ChainG x y x.length a cuts f → (∀ k, f ≤ k → ¬ StrLaws.At x y x.length k) →
    (StrLaws.partsFrom x y.length a cuts).map cps = zs
  | [z], a, f, cuts, _, hm, e, G, N => by
    have e : (cps x).drop a = z := e
    have no : ∀ k, a ≤ k → ¬ StrLaws.At x y x.length k := fun k hk h => by
      have := at_mark S h
      have : m ∈ (cps x).drop a := List.mem_of_getElem? (i := k - a + d) (by rw [List.getElem?_drop, ← this]; congr 1; omega)
      rw [e] at this
      exact hm z (.head _) this
    cases cuts with
    | nil =>
      show [cps (Builtin.Str.strSub x a x.length)] = [z]
      have : cps (Builtin.Str.strSub x a x.length) = ((cps x).drop a).take (x.length - a) := StrLaws.strSub_toList _ _ _
      rw [this, List.take_of_length_le (by rw [List.length_drop, cps_len]; omega), e]
    | cons c r => exact absurd G.2.1 (no c G.1)
  | z :: z' :: r, a, f, cuts, _, hm, e, G, N => by
    have e : (cps x).drop a = z ++ cps y ++ jl (cps y) (z' :: r) := e
    have e2 : (cps x).drop (a + z.length) = cps y ++ jl (cps y) (z' :: r) := by rw [← List.drop_drop, e, List.append_assoc, List.drop_left]
    have e3 : (cps x).drop (a + z.length + y.length) = jl (cps y) (z' :: r) := by rw [← List.drop_drop, e2, ← cps_len, List.drop_left]
    have yes : StrLaws.At x y x.length (a + z.length) := at_of (by have := (List.getElem?_eq_some_iff.mp S.at_).1; rw [cps_len] at this; omega) e2
    have no : ∀ k, a ≤ k → k < a + z.length → ¬ StrLaws.At x y x.length k := fun k h1 h2 h => by
      have h3 := at_mark S h
      have h4 : (z ++ cps y ++ jl (cps y) (z' :: r))[k - a + d]? = some m := by rw [← e, List.getElem?_drop, ← h3]; congr 1; omega
      by_cases c : k - a + d < z.length
      · rw [List.append_assoc, List.getElem?_append_left c] at h4
        exact hm z (.head _) (List.mem_of_getElem? h4)
      · have hd : d < (cps y).length := (List.getElem?_eq_some_iff.mp S.at_).1
        rw [List.append_assoc, List.getElem?_append_right (by omega), List.getElem?_append_left (by omega)] at h4
        exact S.fr _ (by omega) h4
    cases cuts with
    | nil =>
      have : f = a := G
      exact absurd yes (N _ (by omega))
    | cons c cs =>
      obtain ⟨g1, g2, g3, g4⟩ := G
      have ec : c = a + z.length := by
        rcases Nat.lt_trichotomy c (a + z.length) with w | w | w
        · exact absurd g2 (no c g1 w)
        · exact w
        · exact absurd yes (g3 _ (by omega) w)
      subst ec
      show cps (Builtin.Str.strSub x a (a + z.length)) :: (StrLaws.partsFrom x y.length (a + z.length + y.length) cs).map cps = _
      have : cps (Builtin.Str.strSub x a (a + z.length)) = ((cps x).drop a).take (a + z.length - a) := StrLaws.strSub_toList _ _ _
      rw [this, e, List.append_assoc, Nat.add_sub_cancel_left, List.take_left, parts_join S (z' :: r) _ f cs (by simp) (fun w hw => hm w (.tail _ hw)) e3 g4 N]
theorem split_joinL {y : Str} {m d : Nat} (S : Sign y m d) (hk : ∀ x : Str, ¬ (Builtin.Str.strKind x < Builtin.Str.strKind y)) {ys : List Str} (hne : ys ≠ []) (hf : ∀ z ∈ ys, m ∉ cps z) : Txt.split (Txt.join y ys) y = ys := by
  have e0 := cps_joinL y ys
  generalize Txt.join y ys = x at e0
  have hd : d < (cps y).length := (List.getElem?_eq_some_iff.mp S.at_).1
  rw [cps_len] at hd
  obtain ⟨f, G, N⟩ := StrLaws.occ_tight x y (by omega)
  have P := parts_join S (ys.map cps) 0 f _ (fun z => hne (List.map_eq_nil_iff.mp z)) (fun z hz => by obtain ⟨p, hp, rfl⟩ := List.mem_map.mp hz; exact hf p hp) e0 G N
  refine map_cps_inj ?_
  unfold Txt.split
  split
  · rename_i hc
    rw [Bool.or_eq_true, decide_eq_true_eq, decide_eq_true_eq] at hc
    rcases hc with h | h
    · rcases ys with _ | ⟨z, _ | ⟨z', r⟩⟩
      · exact absurd rfl hne
      · show [cps x] = [cps z]; rw [e0]; rfl
      · exfalso
        have : (cps x).length = _ := congrArg List.length e0
        rw [cps_len] at this
        have e : jl (cps y) ((z :: z' :: r).map cps) = cps z ++ cps y ++ jl (cps y) ((z' :: r).map cps) := rfl
        rw [e, List.length_append, List.length_append, cps_len y] at this
        omega
    · exact absurd h (hk x)
  · split
    · rename_i he
      rw [List.isEmpty_iff.mp he] at P
      rw [← P]
      show [cps x] = [cps (Builtin.Str.strSub x 0 x.length)]
      have : cps (Builtin.Str.strSub x 0 x.length) = ((cps x).drop 0).take (x.length - 0) := StrLaws.strSub_toList _ _ _
      rw [this, List.drop_zero, List.take_of_length_le (by rw [cps_len]; omega)]
    · rw [StrLaws.partsBetween_eq]; exact P
theorem kind_low {y : Str} (h : Builtin.Str.strKind y = 1) (x : Str) : ¬ (Builtin.Str.strKind x < Builtin.Str.strKind y) := by
  rw [h]
  unfold Builtin.Str.strKind
  split <;> (try split) <;> omega
abbrev arrow : Str := " => "
abbrev semi : Str := "; "
theorem cps_arrow : cps arrow = [32, 61, 62, 32] := by decide +kernel
theorem cps_semi : cps semi = [59, 32] := by decide +kernel
theorem sign_arrow : Sign arrow 61 1 := ⟨by rw [cps_arrow]; rfl, fun i hi => by rw [cps_arrow, show i = 0 by omega]; decide⟩
theorem sign_semi : Sign semi 59 0 := ⟨by rw [cps_semi]; rfl, fun i hi => by omega⟩
theorem kind_arrow : Builtin.Str.strKind arrow = 1 := by decide +kernel
theorem kind_semi : Builtin.Str.strKind semi = 1 := by decide +kernel
theorem split_arrow {ys : List Str} (hne : ys ≠ []) (hf : ∀ z ∈ ys, 61 ∉ cps z) : Txt.split (Txt.join arrow ys) arrow = ys := split_joinL sign_arrow (kind_low kind_arrow) hne hf
theorem split_semi {ys : List Str} (hne : ys ≠ []) (hf : ∀ z ∈ ys, 59 ∉ cps z) : Txt.split (Txt.join semi ys) semi = ys := split_joinL sign_semi (kind_low kind_semi) hne hf
/-- a lot's text has small letters, spaces and dashes, nothing else -/
theorem show_signs {nm : List Str} (ok : NamesOk nm) {lot : Int} (hl : 0 ≤ lot) (hb : lot < 2 ^ nm.length) : ∀ c ∈ cps (showF nm lot), letter c ∨ c = 32 ∨ c = 45 := by
  unfold showF
  rw [spc_is, cps_join]
  have hw : ∀ w ∈ (wordsF nm lot).map cps, ∀ c ∈ w, letter c ∨ c = 32 ∨ c = 45 := by
    intro w hw c hc
    obtain ⟨y, hy, rfl⟩ := List.mem_map.mp hw
    unfold wordsF at hy
    split at hy
    · rw [List.mem_singleton.mp hy, cps_dash] at hc
      exact .inr (.inr (List.mem_singleton.mp hc))
    · obtain ⟨t, ht, rfl⟩ := List.mem_map.mp hy
      obtain ⟨k, rfl, hk, _⟩ := ok.th hl hb ht
      rw [Int.toNat_natCast] at hc
      exact .inl ((ok.ok _ (getD_nm hk)).all c hc)
  generalize (wordsF nm lot).map cps = ws at hw
  clear hl hb
  induction ws with
  | nil => intro c hc; cases hc
  | cons w r ih =>
    rcases r with _ | ⟨v, r⟩
    · exact hw w (.head _)
    · intro c hc
      have hc : c ∈ w ++ 32 :: jn 32 (v :: r) := hc
      rcases List.mem_append.mp hc with h | h
      · exact hw w (.head _) c h
      · rcases List.mem_cons.mp h with h | h
        · exact .inr (.inl h)
        · exact ih (fun z hz => hw z (.tail _ hz)) c h
theorem show_not61 {nm : List Str} (ok : NamesOk nm) {lot : Int} (hl : 0 ≤ lot) (hb : lot < 2 ^ nm.length) : 61 ∉ cps (showF nm lot) := fun h => by
  have := show_signs ok hl hb 61 h; unfold letter at this; omega
theorem show_not59 {nm : List Str} (ok : NamesOk nm) {lot : Int} (hl : 0 ≤ lot) (hb : lot < 2 ^ nm.length) : 59 ∉ cps (showF nm lot) := fun h => by
  have := show_signs ok hl hb 59 h; unfold letter at this; omega
end OL
namespace OL
open PySem L2
/-! ### rules as texts -/
def ruleF (nm : List Str) (x y : Int) : Str := showF nm x ++ arrow ++ showF nm y
theorem rule_join (nm : List Str) (x y : Int) : ruleF nm x y = Txt.join arrow [showF nm x, showF nm y] := cps_inj (by
  rw [cps_joinL]; unfold ruleF; rw [cps_app, cps_app]; rfl)
theorem rule_split {nm : List Str} (ok : NamesOk nm) {x y : Int} (x0 : 0 ≤ x) (x1 : x < 2 ^ nm.length) (y0 : 0 ≤ y) (y1 : y < 2 ^ nm.length) : Txt.split (ruleF nm x y) arrow = [showF nm x, showF nm y] := by
  rw [rule_join]
  refine split_arrow (by simp) fun z hz => ?_
  rcases List.mem_cons.mp hz with rfl | hz
  · exact show_not61 ok x0 x1
  · rw [List.mem_singleton.mp hz]; exact show_not61 ok y0 y1
theorem rule_len {nm : List Str} (ok : NamesOk nm) {x y : Int} (x0 : 0 ≤ x) (x1 : x < 2 ^ nm.length) (y0 : 0 ≤ y) (y1 : y < 2 ^ nm.length) : (showF nm x ++ arrow).length ≤ 204 ∧ (ruleF nm x y).length ≤ 404 := by
  have h1 := show_size ok x0 x1
  have h2 := show_size ok y0 y1
  have e : (cps arrow).length = 4 := by rw [cps_arrow]; rfl
  unfold ruleF
  rw [← cps_len] at h1 h2
  rw [← cps_len, ← cps_len, cps_app, cps_app, cps_app, List.length_append, List.length_append, List.length_append, e]
  constructor <;> omega
def spShowR (K : PySem.W.Frag) : Sp := fun vs H Q _ => ∃ (n : Addr) (nm : List Str) (r : Addr) (x y : Int), vs = [.ref n, .ref r] ∧ SqL K H n (nm.map V.str) ∧ H r = some (.tup [.int x, .int y]) ∧ NamesOk nm ∧ 0 ≤ x ∧ x < 2 ^ nm.length ∧ 0 ≤ y ∧ y < 2 ^ nm.length ∧ ∀ H', Same H H' → Q (.str (ruleF nm x y)) H'
def spSplitIn : Sp := fun vs H Q _ => ∃ (z sg : Str), vs = [.str z, .str sg, .int ((Txt.split z sg).length : Int)] ∧ (sg.length == 0) = false ∧ z.length + 2 ≤ sizeLine ∧ ∀ l H', Same H H' → H l = none → H' l = some (.lst ((Txt.split z sg).map V.str)) → Q (.ref l) H'
def spReadR (K : PySem.W.Frag) : Sp := fun vs H Q _ => ∃ (n : Addr) (nm : List Str) (x y : Int) (z : Str), vs = [.ref n, .str z] ∧ z = ruleF nm x y ∧ SqL K H n (nm.map V.str) ∧ NamesOk nm ∧ 0 ≤ x ∧ x < 2 ^ nm.length ∧ 0 ≤ y ∧ y < 2 ^ nm.length ∧ ∀ p H', Same H H' → H p = none → H' p = some (.tup [.int x, .int y]) → Q (.ref p) H'
theorem ne_intS {z : Int} {H : Hp} {Q : Bool → Hp → Prop} (q : Q false H) : rNe (.int z) (.int z) H fun x H' => ∃ k, x = .bl k ∧ Q k H' := by
  refine ⟨rfl, _, rfl, ?_⟩
  rw [show decide (V.int z = V.int z) = true from decide_eq_true rfl]; exact q
end OL

namespace L2
open PySem PySem.Spec PyProof.Rows
/-- a text as often as a yes or no says -/
def rMulS : R2 := fun x y H Q => ∃ (z : Str) (b : Bool), x = .str z ∧ y = .int (if b = true then 1 else 0) ∧ Q (.str (if b = true then z else Str.empty)) H
end L2
namespace OL
open PySem L2
/-! ### days as texts -/
def dayF (nm : List Str) (ls : List Int) : Str := if ls = [] then noneT else Txt.join semi (ls.map (showF nm))
theorem cps_none : cps noneT = [110, 111, 110, 101] := by decide +kernel
theorem jn_one {c : Nat} : ∀ {ws : List (List Nat)}, ws ≠ [] → c ∉ jn c ws → ∃ w, ws = [w]
  | [], h, _ => absurd rfl h
  | [w], _, _ => ⟨w, rfl⟩
  | w :: v :: r, _, h => absurd (show c ∈ w ++ c :: jn c (v :: r) from List.mem_append_right _ (.head _)) h
theorem show_none {nm : List Str} (ok : NamesOk nm) {lot : Int} (l0 : 0 ≤ lot) (l1 : lot < 2 ^ nm.length) : showF nm lot ≠ noneT := fun e => by
  have e2 : cps (showF nm lot) = jn 32 ((wordsF nm lot).map cps) := by unfold showF; rw [spc_is, cps_join]
  rw [e] at e2
  have hne := words_ne ok l0
  obtain ⟨w, hw⟩ := jn_one (c := 32) (ws := (wordsF nm lot).map cps) (fun z => hne (List.map_eq_nil_iff.mp z)) (by rw [← e2, cps_none]; decide)
  rw [hw] at e2
  have e3 : w = [110, 111, 110, 101] := by rw [← cps_none, e2]; rfl
  unfold wordsF at hw
  split at hw
  · injection hw with h1 h2
    rw [cps_dash] at h1
    rw [← h1] at e3
    exact absurd e3 (by decide)
  · rw [List.map_map] at hw
    obtain ⟨t, ht, hc⟩ : ∃ t ∈ thingsF lot, cps (nm.getD t.toNat "") = w := by
      have : w ∈ (thingsF lot).map (cps ∘ fun t => nm.getD t.toNat "") := by rw [hw]; exact .head _
      obtain ⟨t, ht, hc⟩ := List.mem_map.mp this
      exact ⟨t, ht, hc⟩
    obtain ⟨k, rfl, hk, _⟩ := ok.th l0 l1 ht
    rw [Int.toNat_natCast] at hc
    exact ok.nn _ (getD_nm hk) (cps_inj (by rw [hc, e3, ← cps_none]))
def DayOk (nm : List Str) (ls : List Int) : Prop := ls.length ≤ 100 ∧ ∀ l ∈ ls, 0 ≤ l ∧ l < 2 ^ nm.length
theorem day_not_none {nm : List Str} (ok : NamesOk nm) {ls : List Int} (d : DayOk nm ls) (hne : ls ≠ []) : dayF nm ls ≠ noneT := fun e => by
  unfold dayF at e
  rw [if_neg hne] at e
  have e2 := cps_joinL semi (ls.map (showF nm))
  rw [e] at e2
  rcases ls with _ | ⟨x, _ | ⟨y, r⟩⟩
  · exact hne rfl
  · have hx := d.2 x (.head _)
    exact show_none ok hx.1 hx.2 (cps_inj (by rw [e2]; rfl))
  · have : (59 : Nat) ∈ cps (showF nm x) ++ cps semi ++ jl (cps semi) (((y :: r).map (showF nm)).map cps) := List.mem_append_left _ (List.mem_append_right _ (by rw [cps_semi]; exact .head _))
    have e3 : cps noneT = cps (showF nm x) ++ cps semi ++ jl (cps semi) (((y :: r).map (showF nm)).map cps) := e2
    rw [← e3, cps_none] at this
    exact absurd this (by decide)
theorem day_split {nm : List Str} (ok : NamesOk nm) {ls : List Int} (d : DayOk nm ls) (hne : ls ≠ []) : Txt.split (dayF nm ls) semi = ls.map (showF nm) := by
  unfold dayF
  rw [if_neg hne]
  refine split_semi (fun z => hne (List.map_eq_nil_iff.mp z)) fun z hz => ?_
  obtain ⟨x, hx, rfl⟩ := List.mem_map.mp hz
  exact show_not59 ok (d.2 x hx).1 (d.2 x hx).2
theorem semi_len : semi.length = 2 := by rw [← cps_len, cps_semi]; rfl
theorem day_sum {nm : List Str} (ok : NamesOk nm) {ls : List Int} (d : DayOk nm ls) : ((ls.map (showF nm)).map (·.length)).sum + (ls.map (showF nm)).length * semi.length ≤ 20200 := by
  have h := StrLaws.sumLen_le (B := 200) (ls.map (showF nm)) fun y hy => by
    obtain ⟨x, hx, rfl⟩ := List.mem_map.mp hy
    exact show_size ok (d.2 x hx).1 (d.2 x hx).2
  rw [semi_len]
  rw [List.length_map] at h ⊢
  have := d.1
  omega
theorem day_len {nm : List Str} (ok : NamesOk nm) {ls : List Int} (d : DayOk nm ls) : (dayF nm ls).length ≤ 20200 := by
  unfold dayF
  split
  · rw [← cps_len, cps_none]; decide
  · have := StrLaws.join_length_le semi (ls.map (showF nm))
    have h2 := day_sum ok d
    unfold Txt.join
    rw [StrLaws.glued_eq_join]
    omega
def spJoined (K : PySem.W.Frag) : Sp := fun vs H Q _ => ∃ (t : Addr) (sg : Str) (ss : List Str), vs = [.str sg, .ref t] ∧ SqL K H t (ss.map V.str) ∧ (ss.map (·.length)).sum + ss.length * sg.length ≤ 16777216 ∧ ∀ H', Same H H' → Q (.str (if ss = [] then noneT else Txt.join sg ss)) H'
def spApart : Sp := fun vs H Q _ => ∃ (sg z : Str), vs = [.str sg, .str z] ∧ (sg.length == 0) = false ∧ z.length + 2 ≤ sizeLine ∧ ∀ l H', Same H H' → H l = none → H' l = some (.lst ((if z = noneT then [] else Txt.split z sg).map V.str)) → Q (.ref l) H'
def spShowD (K : PySem.W.Frag) : Sp := fun vs H Q _ => ∃ (n d : Addr) (nm : List Str) (ls : List Int), vs = [.ref n, .ref d] ∧ SqL K H n (nm.map V.str) ∧ SqL K H d (ls.map V.int) ∧ NamesOk nm ∧ DayOk nm ls ∧ ∀ H', Same H H' → Q (.str (dayF nm ls)) H'
def spReadD (K : PySem.W.Frag) : Sp := fun vs H Q _ => ∃ (n : Addr) (nm : List Str) (ls : List Int) (z : Str), vs = [.ref n, .str z] ∧ z = dayF nm ls ∧ SqL K H n (nm.map V.str) ∧ NamesOk nm ∧ DayOk nm ls ∧ ∀ r H', Same H H' → H r = none → H' r = some (.lst (ls.map V.int)) → Q (.ref r) H'
def spDayN (K : PySem.W.Frag) : Sp := fun vs H Q _ => ∃ (a n : Addr) (ns : List Int) (k : Int) (nm : List Str), vs = [.ref a, .int k, .ref n] ∧ SqL K H a (ns.map V.int) ∧ 0 ≤ k ∧ H n = some (.lst (nm.map V.str)) ∧ 1 ≤ nm.length ∧ nm.length ≤ 12 ∧ ∀ r ls H', Same H H' → H r = none → H' r = some (.lst (ls.map V.int)) → DayOk nm ls → Q (.ref r) H'
end OL
namespace OL
open PySem L2
theorem paired_mapped {α : Type} {f : α → V} : ∀ as : List α, Paired (fun v t => v = f t) (as.map f) as
  | [] => .nil
  | _ :: as => .cons rfl (paired_mapped as)
end OL

namespace OL
open PySem L2
/-! ### for k40: two days glued, names wider by one, names turned about -/
theorem jl_app {s : List Nat} : ∀ {xs ys : List (List Nat)}, xs ≠ [] → ys ≠ [] → jl s (xs ++ ys) = jl s xs ++ s ++ jl s ys
  | [], _, h, _ => absurd rfl h
  | [x], [], _, h => absurd rfl h
  | [x], y :: r, _, _ => rfl
  | x :: x' :: r, ys, _, h => by
    have ih := jl_app (s := s) (xs := x' :: r) (ys := ys) (by simp) h
    show x ++ s ++ jl s (x' :: r ++ ys) = x ++ s ++ jl s (x' :: r) ++ s ++ jl s ys
    rw [ih]; simp only [List.append_assoc]
theorem day_glue (nm : List Str) {xs ys : List Int} (hx : xs ≠ []) (hy : ys ≠ []) : dayF nm (xs ++ ys) = dayF nm xs ++ semi ++ dayF nm ys := cps_inj (by
  unfold dayF
  rw [if_neg hx, if_neg hy, if_neg (by simp [hx]), cps_app, cps_app, cps_joinL, cps_joinL, cps_joinL, List.map_append, List.map_append]
  exact jl_app (fun z => hx (List.map_eq_nil_iff.mp (List.map_eq_nil_iff.mp z))) (fun z => hy (List.map_eq_nil_iff.mp (List.map_eq_nil_iff.mp z))))
theorem show_wider {nm : List Str} (ok : NamesOk nm) (more : List Str) {lot : Int} (l0 : 0 ≤ lot) (l1 : lot < 2 ^ nm.length) : showF (nm ++ more) lot = showF nm lot := by
  unfold showF wordsF
  by_cases c : lot = 0
  · rw [if_pos c, if_pos c]
  · rw [if_neg c, if_neg c]
    congr 1
    refine List.map_congr_left fun t ht => ?_
    obtain ⟨k, rfl, hk, _⟩ := ok.th l0 l1 ht
    rw [Int.toNat_natCast, List.getD_eq_getElem?_getD, List.getD_eq_getElem?_getD, List.getElem?_append_left hk]
theorem wider_ok {nm : List Str} (ok : NamesOk nm) {z : Str} (h12 : nm.length < 12) (hz : NameOk z) (hn : z ≠ noneT) (hm : z ∉ nm) : NamesOk (nm ++ [z]) :=
  ⟨by rw [List.length_append]; exact Nat.le_trans ok.lo (Nat.le_add_right _ _), by rw [List.length_append]; exact h12,
   List.nodup_append.mpr ⟨ok.nd, by simp, fun a ha b hb e => by rw [List.mem_singleton.mp hb] at e; exact hm (e ▸ ha)⟩,
   fun x hx => by
    rcases List.mem_append.mp hx with w | w
    · exact ok.ok x w
    · rw [List.mem_singleton.mp w]; exact hz,
   fun x hx => by
    rcases List.mem_append.mp hx with w | w
    · exact ok.nn x w
    · rw [List.mem_singleton.mp w]; exact hn⟩
theorem turned_ok {nm nm' : List Str} (ok : NamesOk nm) (p : nm'.Perm nm) : NamesOk nm' :=
  ⟨by rw [p.length_eq]; exact ok.lo, by rw [p.length_eq]; exact ok.hi, p.nodup_iff.mpr ok.nd, fun x hx => ok.ok x (p.mem_iff.mp hx), fun x hx => ok.nn x (p.mem_iff.mp hx)⟩
end OL

namespace L2
open PySem PySem.Spec PyProof.Rows
section
variable {X : Cx}
/-- sorted of a list of fewer than 64 texts -/
def rSortS (K : PySem.W.Frag) : List V → Hp → VK → Prop := fun xs H Q => ∃ (p : Addr) (ss : List Str), xs = [.ref p] ∧ SqL K H p (ss.map V.str) ∧ ss.length < 64 ∧ ∀ (l : Addr) (ss' : List Str), H l = none → ss'.Perm ss → sortedS ss' = true → Q (.ref l) (upd H l (.lst (ss'.map V.str)))
theorem call_sortS : CallR X (.builtin "sorted") (rSortS X.K) := by
  intro pins s σ H xs us Q I r h
  obtain ⟨p, ss, rfl, hq, h64, q⟩ := h
  obtain ⟨u, rfl, ru⟩ := vals1 r
  cases (show u = Value.ref p from ru)
  obtain ⟨its, rv, pl, hz⟩ := I.list hq
  have hi := vals_strs rv
  have hlen := rv.length
  rw [List.length_map] at hlen
  refine sorted_strs pl.isList (by simpa using hi) (by omega) fun out ss' a1 a2 a3 => ?_
  obtain ⟨e, he⟩ := sortedAll_at s.heap its out
  have hl2 := a2.length_eq
  refine ⟨.ref (s.heap.objs.size + 1), _, I.laid (t' := s.toks) (fun _ _ => sortedAll_old) (Nat.le_succ _) (show ObjOk X.prog X.w _ _ _ (.lst (ss'.map V.str)) from ⟨?_, out.toList, e, strs_vals a1, ?_⟩), rfl, q _ ss' (I.hok.fresh (Nat.le_succ _)) a2 a3⟩
  · rw [List.length_map, hl2]; rw [List.length_map] at hz; exact hz
  · rw [Array.toArray_toList]; exact he
end
end L2

namespace OL
open PySem L2 PyProof.Rows
/-! ### sorted texts: two orders of the same texts are one -/
theorem le_of_lt {a b : Str} (h : (!PySem.Spec.ltCps b.cps.toList a.cps.toList) = true) : cps a ≤ cps b := by
  rw [ltCps_eq] at h
  have h : ¬ (cps b < cps a) := by simpa [cps] using h
  exact List.not_lt.mp h
theorem rising_pw : ∀ {r : List Str} {x : Str}, risingS x r = true → (x :: r).Pairwise (fun a b => cps a ≤ cps b)
  | [], x, _ => List.pairwise_singleton _ _
  | y :: r, x, h => by
    have h : (!PySem.Spec.ltCps y.cps.toList x.cps.toList && risingS y r) = true := h
    rw [Bool.and_eq_true] at h
    have ih := rising_pw h.2
    have hxy := le_of_lt h.1
    refine List.pairwise_cons.mpr ⟨fun z hz => ?_, ih⟩
    rcases List.mem_cons.mp hz with rfl | hz
    · exact hxy
    · exact List.le_trans hxy ((List.pairwise_cons.mp ih).1 z hz)
theorem sorted_pw : ∀ {ss : List Str}, sortedS ss = true → ss.Pairwise (fun a b => cps a ≤ cps b)
  | [], _ => .nil
  | _ :: _, h => rising_pw h
theorem sorted_one {ss rr : List Str} (h1 : sortedS ss = true) (h2 : sortedS rr = true) (p : ss.Perm rr) : ss = rr :=
  List.Perm.eq_of_pairwise (fun a b _ _ h h' => cps_inj (List.le_antisymm h h')) (sorted_pw h1) (sorted_pw h2) p
end OL

namespace OL
open PySem L2
def spRight40 (K : PySem.W.Frag) : Sp := fun vs H Q _ => ∃ (n D d1 d2 : Addr) (nm : List Str) (x y : Int) (xs ys : List Int), vs = [.ref n, .int x, .int y, .ref D] ∧ SqL K H n (nm.map V.str) ∧ NamesOk nm ∧ 0 ≤ x ∧ x < 2 ^ nm.length ∧ 0 ≤ y ∧ y < 2 ^ nm.length ∧ H D = some (.lst [.ref d1, .ref d2]) ∧ H d1 = some (.lst (xs.map V.int)) ∧ H d2 = some (.lst (ys.map V.int)) ∧ xs ≠ [] ∧ ys ≠ [] ∧ DayOk nm xs ∧ DayOk nm ys ∧ DayOk nm (xs ++ ys) ∧ ∀ H', Same H H' → Q (.bl true) H'
theorem ne_pairS {K : PySem.W.Frag} {H : Hp} {a b : Addr} {x y : Int} {Q : VK} (ha : H a = some (.tup [.int x, .int y])) (hb : H b = some (.tup [.int x, .int y])) (q : Q (.bl false) H) : rEqD K true (.ref a) (.ref b) H Q := by
  refine ⟨.tuple [.int x, .int y], .tuple [.int x, .int y], .tup (SqT.of ha) (DRs.ints [x, y]), .tup (SqT.of hb) (DRs.ints [x, y]), rfl, rfl, ?_⟩
  have e : PyData.eqv (.tuple [.int x, .int y]) (.tuple [.int x, .int y]) = true := by
    show ((x == x) && ((y == y) && true)) = true
    rw [beq_self_eq_true, beq_self_eq_true]; rfl
  rw [e]; exact q
def dTwo (xs ys : List Int) : PyData := .list [.list (xs.map PyData.int), .list (ys.map PyData.int)]
theorem dr_two {K : PySem.W.Frag} {H : Hp} {p n d : Addr} {xs ys : List Int} (hp : H p = some (.lst [.ref n, .ref d])) (hn : SqL K H n (xs.map V.int)) (hd : SqL K H d (ys.map V.int)) : DR K H (.ref p) (dTwo xs ys) :=
  .lst (SqL.of hp) (.cons (.lst hn (DRs.ints xs)) (.cons (.lst hd (DRs.ints ys)) .nil))
theorem shaped_two (xs ys : List Int) : PySem.SeqAt.shaped (dTwo xs ys) = true := by
  unfold PySem.SeqAt.shaped dTwo
  have h1 : PyData.canLay0 (.list [.list (xs.map PyData.int), .list (ys.map PyData.int)]) = true := by
    show (PyData.canLayAll0 (xs.map PyData.int) && (PyData.canLayAll0 (ys.map PyData.int) && true)) = true
    rw [lay_ints, lay_ints]; rfl
  have h2 : PyData.depth (.list [.list (xs.map PyData.int), .list (ys.map PyData.int)]) = 2 := by
    show max (PyData.depthAll (xs.map PyData.int) + 1) (max (PyData.depthAll (ys.map PyData.int) + 1) 0) + 1 = 2
    rw [depth_ints, depth_ints]; rfl
  rw [h1, h2]; rfl
theorem eqv_two (xs ys : List Int) : PyData.eqv (dTwo xs ys) (dTwo xs ys) = true := by
  have e1 := ints_eqv xs
  have e2 := ints_eqv ys
  show (PyData.eqv (.list (xs.map PyData.int)) (.list (xs.map PyData.int)) && (PyData.eqv (.list (ys.map PyData.int)) (.list (ys.map PyData.int)) && true)) = true
  rw [e1, e2]; rfl
end OL

namespace L2
open PySem PySem.Spec PyProof.Rows OL
section
variable {X : Cx}
/-- xs.index(t), xs a list of texts -/
theorem mt_indexS : MtR X "list.index" (fun x vs H Q => ∃ (l : Addr) (ss : List Str) (y : Str) (j : Nat), x = .ref l ∧ vs = [.str y] ∧ H l = some (.lst (ss.map V.str)) ∧ j < 1000 ∧ ss[j]? = some y ∧ (∀ m, m < j → ss[m]? ≠ some y) ∧ Q (.int (j : Int)) H) := by
  intro pins s σ H x vs v us Q I rx rv h
  obtain ⟨l, ss, y, j, rfl, rfl, hH, hj1, hj, hno, q⟩ := h
  cases rx
  obtain ⟨u, rfl, ru⟩ := rv.one
  obtain ⟨z, its, n, r, hl, e⟩ := I.lstM hH
  have hlen := r.length
  rw [List.length_map] at hlen
  obtain ⟨hjl, ej⟩ := List.getElem?_eq_some_iff.mp hj
  have at_ : ∀ m (hm : m < its.toArray.size), eqU (.str y) its.toArray[m] = eqV (.str (ss.getD m "")) (.str y) := fun m hm => by
    have hm' : m < its.length := by simpa using hm
    have hms : m < ss.length := by omega
    obtain ⟨w, hw, rw'⟩ := r.get (i := m) (x := .str ss[m]) (by rw [List.getElem?_map, List.getElem?_eq_getElem hms]; rfl)
    have ew : its.toArray[m] = w := by
      rw [List.getElem_toArray]
      rw [List.getElem?_eq_getElem hm'] at hw
      exact Option.some.inj hw
    rw [ew, List.getD_eq_getElem?_getD, List.getElem?_eq_getElem hms]
    exact eqU_of rw' rfl
  have key : ∀ m, m < ss.length → (eqV (.str (ss.getD m "")) (.str y) = true ↔ ss[m]? = some y) := fun m hm => by
    rw [List.getD_eq_getElem?_getD, List.getElem?_eq_getElem hm]
    show (ss[m] == y) = true ↔ _
    simp
  refine call_meets F.slot_list_index ⟨_, e, rfl⟩ F.entry_list_index (F.args_list_index_2 _ _) (SeqAt.list_indexAt l its.toArray n _ _ u (eqU (.str y)) j (by simpa using (by omega : j < its.length)) (by omega) ?_ ?_) ⟨e, fun y' hy => mem_eqAt ru rfl r (flat_strs ss) y' (by simpa using hy), ?_⟩
  · rw [at_]; exact (key j hjl).mpr hj
  · intro m hm hmj
    rw [at_]
    exact Bool.eq_false_iff.mpr fun z => hno m hmj ((key m (by omega)).mp z)
  · exact ⟨.int _, H, I.kept fun b o q => q, ⟨_, rfl⟩, q⟩
end
/-! ### for .. in a text -/
def Its (x : Str) : It := ⟨fun i _ => i < x.cps.size, fun i H v H' => H' = H ∧ ∃ c, x.cps[i]? = some c ∧ v = .str ⟨#[c]⟩, fun i _ => x.cps.size ≤ i⟩
theorem turn_text {P : Program} {w : World} {K : PySem.W.Frag} {tg : Expr} (it : Addr) (x : Str) (t : Tok) : Turn P w K tg (Its x) [it] it (fun i h => i ≤ x.cps.size ∧ h.IsStrIter it "str_ascii_iterator" x t i) where
  mem := by simp
  obj := fun i h st b hb => by
    have e : b = it := by simpa using hb
    subst e
    obtain ⟨_, o, e, c, d⟩ := st
    exact ⟨o, e, fun v z => by rw [d] at z; cases z⟩
  keep := fun i h h' st k => by
    obtain ⟨hi, o, e, r⟩ := st
    exact ⟨hi, o, k it (by simp) o e, r⟩
  item := by
    intro X hP hw hK hc i pins s σ H E I hf st hg
    subst hP hw hK
    obtain ⟨f0, f1, f2, f3, f4, f5⟩ := hf it (by simp)
    have W := Walks.strAscii (prog := X.prog) (w := X.w) (I.ok.hd hc) it x t
    refine W.item i s _ _ hg st.2 fun v h' tk hv st' kk => ?_
    obtain ⟨c, u, hx, rfl⟩ := hv
    have I1 : Inv X pins σ H { s with heap := h', toks := tk } := I.turned (fun b o hb e => kk b o (by simpa using hb) e) f0 f1 f3 f4 f5
    obtain ⟨o, e, c1, d⟩ := id st'
    exact ⟨_, rfl, go_of (s := { s with heap := h', toks := tk }) e c1 d (by decide) ⟨.str ⟨#[c]⟩, H, I1, ⟨_, rfl⟩, ⟨rfl, c, hx, rfl⟩, ⟨hg, st'⟩, fun b hb => (hf b hb).1⟩⟩
  done := by
    intro X hP hw hK hc i pins s σ H E I hf st hg
    subst hP hw hK
    obtain ⟨f0, f1, f2, f3, f4, f5⟩ := hf it (by simp)
    have W := Walks.strAscii (prog := X.prog) (w := X.w) (I.ok.hd hc) it x t
    have hi : i = x.cps.size := Nat.le_antisymm st.1 hg
    subst hi
    exact W.done s _ _ st.2 fun h' tk eb => ⟨rfl, I.turned (fun b o hb e => eb b o (by simpa using hb) e) f0 f1 f3 f4 f5⟩
  self := fun _ _ _ _ _ st h => wpAny_pyIter_striter_ascii st.2 h
section
variable {X : Cx} {tg : Expr}
def iText (te : TE) : TI := fun σ H R => te σ H fun x H1 => ∃ z : Str, x = .str z ∧ z.cps.all (· < 128) = true ∧ R (Its z) H1
theorem pi_text {e : Expr} {te : TE} (he : PE X e te) : PI X tg e (iText te) := by
  intro pins s σ H R I h
  refine thn (he pins s σ H _ I h) fun v s1 ⟨x, H1, I1, r1, q1⟩ => ?_
  obtain ⟨z, rfl, ha, q⟩ := q1
  obtain ⟨t, rfl⟩ := r1
  refine wpAny_pyIter_ascii ha ?_
  refine ⟨s1.heap.objs.size, [s1.heap.objs.size], _, _, H1, rfl, I1.kept (t' := s1.toks) fun b o e => Heap.get?_push_of_some _ e, turn_text _ z t, ⟨Nat.zero_le _, _, Heap.get?_push_size _ rfl, rfl, rfl⟩, fun b hb => ?_, q⟩
  have e : b = s1.heap.objs.size := by simpa using hb
  subst e
  exact I1.fpOk (Nat.le_refl _) (I1.hok.fresh (Nat.le_refl _))
end
end L2
namespace OL
open PySem L2
section
variable {m : Nat} {js : List Nat} {g : TG} {c : TT} {te : TE} {σ : St} {H1 : Hp} {Q : VK}
/-- signs in, values out -/
theorem compV_text {z : Str} (f : Nat → V) (hz : (cps z).length ≤ 65000)
    (turn : ∀ x H2, x ∈ cps z → Same H1 H2 → CTurn m js g c te σ (.str ⟨#[x]⟩) H2 true fun _ y => y = f x)
    (hQ : ∀ acc H', H1 acc = none → Same H1 H' → H' acc = some (.lst ((cps z).map f)) → Q (.ref acc) H') : tCompR m js g c te (Its z) σ H1 Q := by
  intro acc hacc
  have hsz : z.cps.size = (cps z).length := by unfold cps; rw [Array.length_toList]
  refine ⟨CW z.cps.size acc (fun i ys H => Same H1 H ∧ ys = ((cps z).take i).map f), ⟨_, rfl, Nat.zero_le _, [], upd_same, same_new hacc _, rfl⟩, ?_⟩
  rintro i m' H ⟨rfl, hi, ys, h0, S, hR⟩
  by_cases hlt : i < z.cps.size
  · refine .inr ⟨hlt, fun v H' y => ?_⟩
    obtain ⟨e, d, hd, rfl⟩ := y
    subst e
    have hd' : (cps z)[i]? = some d := by unfold cps; rw [Array.getElem?_toList]; exact hd
    refine turn d _ (List.mem_of_getElem? hd') S _ _ (fun _ y' H5 s r => ?_) (fun cc H4 s => nomatch cc)
    have hyl : ys.length ≤ (cps z).length := by rw [hR, List.length_map, List.length_take]; omega
    refine ⟨ys, s acc _ h0, big5 (by omega), z.cps.size - (i + 1), by omega, rfl, hlt, ys ++ [y'], upd_same, fun b o w => ?_, ?_⟩
    · rw [upd_ne (ne_of_none w hacc)]; exact s b o (S b o w)
    · rw [take_at hd', List.map_append, hR, r]; rfl
  · have e : i = z.cps.size := by omega
    subst e
    rw [hsz, List.take_length] at hR
    exact .inl ⟨Nat.le_refl _, hQ acc H hacc S (by rw [h0, hR])⟩
end
end OL

namespace OL
open PySem L2 OL.W41
/-! ### k40: a lot called by the names in another order -/
theorem th_addNew {r : Int} (h0 : 0 ≤ r) {j : Nat} (hn : ¬ Th r j) (i : Nat) : Th (r + 1 * 2 ^ j) i ↔ Th r i ∨ i = j := by
  have e := PyProof.Rows.bitOr_and r (1 * 2 ^ j)
  have e2 : Builtin.bitAnd r (1 * 2 ^ j) = 0 := th_ext (and_nn h0 (nnP j)) (by decide) fun i => by
    rw [th_and h0 (nnP j), th_pow]
    constructor
    · rintro ⟨h1, h2⟩; subst h2; exact absurd h1 hn
    · intro h; unfold Th at h; simp at h
  rw [e2] at e
  have e3 : r + 1 * 2 ^ j = Builtin.bitOr r (1 * 2 ^ j) := by omega
  rw [e3, th_w h0]
def Cal (nm nm' : List Str) (lot : Int) (i : Nat) (r : Int) : Prop := 0 ≤ r ∧ ∀ j, Th r j ↔ ∃ k x, k < i ∧ Th lot k ∧ nm[k]? = some x ∧ nm'[j]? = some x
theorem Cal.zero (nm nm' : List Str) (lot : Int) : Cal nm nm' lot 0 0 := ⟨by decide, fun j => ⟨fun h => by unfold Th at h; simp at h, fun ⟨k, x, h, _⟩ => absurd h (Nat.not_lt_zero _)⟩⟩
theorem Cal.skip {nm nm' : List Str} {lot : Int} {i : Nat} {r : Int} (h : Cal nm nm' lot i r) (hi : ¬ Th lot i) : Cal nm nm' lot (i + 1) r := ⟨h.1, fun j => by
  rw [h.2 j]
  constructor
  · rintro ⟨k, x, h1, h2⟩; exact ⟨k, x, by omega, h2⟩
  · rintro ⟨k, x, h1, h2, h3⟩
    have : k ≠ i := fun e => hi (e ▸ h2)
    exact ⟨k, x, by omega, h2, h3⟩⟩
theorem at_inj {nm : List Str} (nd : nm.Nodup) {i j : Nat} {x : Str} (hi : nm[i]? = some x) (hj : nm[j]? = some x) : i = j := by
  exact (List.getElem?_inj (List.getElem?_eq_some_iff.mp hi).1 nd).mp (hi.trans hj.symm)
theorem Cal.put {nm nm' : List Str} (nd : nm.Nodup) (nd' : nm'.Nodup) {lot : Int} {i : Nat} {r : Int} (h : Cal nm nm' lot i r) (hi : Th lot i) {x : Str} {j : Nat} (hx : nm[i]? = some x) (hj : nm'[j]? = some x) : Cal nm nm' lot (i + 1) (r + 1 * 2 ^ j) := by
  have hn : ¬ Th r j := fun z => by
    obtain ⟨k, y, h1, h2, h3, h4⟩ := (h.2 j).mp z
    have e : y = x := Option.some.inj (h4.symm.trans hj)
    subst e
    have := at_inj nd h3 hx
    omega
  refine ⟨Int.add_nonneg h.1 (nnP j), fun l => ?_⟩
  rw [th_addNew h.1 hn, h.2 l]
  constructor
  · rintro (⟨k, y, h1, h2⟩ | rfl)
    · exact ⟨k, y, by omega, h2⟩
    · exact ⟨i, x, by omega, hi, hx, hj⟩
  · rintro ⟨k, y, h1, h2, h3, h4⟩
    by_cases e : k = i
    · subst e
      have : y = x := Option.some.inj (h3.symm.trans hx)
      subst this
      exact .inr (at_inj nd' h4 hj)
    · exact .inl ⟨k, y, by omega, h2, h3, h4⟩
theorem Cal.lt {nm nm' : List Str} {lot : Int} {i : Nat} {r : Int} (h : Cal nm nm' lot i r) : r < 2 ^ nm'.length := by
  have hb : InB (nm'.length : Int) r := .of_th h.1 fun j hj => by
    obtain ⟨k, x, _, _, _, h4⟩ := (h.2 j).mp hj
    have := (List.getElem?_eq_some_iff.mp h4).1
    omega
  have := hb.2
  simpa using this
theorem mem_words {nm : List Str} (ok : NamesOk nm) {lot : Int} (l0 : 0 ≤ lot) (l1 : lot < 2 ^ nm.length) (hz : lot ≠ 0) {w : Str} : w ∈ wordsF nm lot ↔ ∃ k, Th lot k ∧ nm[k]? = some w := by
  unfold wordsF
  rw [if_neg hz, List.mem_map]
  constructor
  · rintro ⟨t, ht, rfl⟩
    obtain ⟨k, rfl, hk, hth⟩ := ok.th l0 l1 ht
    refine ⟨k, hth, ?_⟩
    rw [Int.toNat_natCast, List.getD_eq_getElem?_getD, List.getElem?_eq_getElem hk]; rfl
  · rintro ⟨k, hth, hk⟩
    refine ⟨(k : Int), (mem_things l0).mpr ⟨k, hth, rfl⟩, ?_⟩
    rw [Int.toNat_natCast, List.getD_eq_getElem?_getD, hk]; rfl
theorem words_nd {nm : List Str} (ok : NamesOk nm) {lot : Int} (l0 : 0 ≤ lot) (l1 : lot < 2 ^ nm.length) (hz : lot ≠ 0) : (wordsF nm lot).Nodup := by
  unfold wordsF
  rw [if_neg hz]
  unfold List.Nodup
  rw [List.pairwise_map]
  refine List.Pairwise.imp_of_mem (fun {a b} ha hb hab e => ?_) (things_up lot)
  obtain ⟨j, rfl, hj, _⟩ := ok.th l0 l1 ha
  obtain ⟨k, rfl, hk, _⟩ := ok.th l0 l1 hb
  rw [Int.toNat_natCast, Int.toNat_natCast, List.getD_eq_getElem?_getD, List.getD_eq_getElem?_getD, List.getElem?_eq_getElem hj, List.getElem?_eq_getElem hk] at e
  have e : nm[j] = nm[k] := e
  have : j = k := (List.getElem?_inj hj ok.nd).mp (by rw [List.getElem?_eq_getElem hj, List.getElem?_eq_getElem hk, e])
  omega
theorem lot_bit {lot : Int} (l0 : 0 ≤ lot) (hz : lot ≠ 0) : ∃ k, Th lot k := by
  apply Classical.byContradiction
  intro no
  exact hz (th_ext l0 (by decide) fun i => ⟨fun h => absurd ⟨i, h⟩ no, fun h => by unfold Th at h; simp at h⟩)
theorem Cal.words {nm nm' : List Str} (ok : NamesOk nm) (hp : nm'.Perm nm) {lot r : Int} (l0 : 0 ≤ lot) (l1 : lot < 2 ^ nm.length) (h : Cal nm nm' lot nm.length r) : (wordsF nm' r).Perm (wordsF nm lot) := by
  have ok' := turned_ok ok hp
  have r1 := h.lt
  have bit : ∀ k, Th lot k → ∃ x, nm[k]? = some x := fun k hk => by
    have hb : InB (nm.length : Int) lot := ⟨l0, by simpa using l1⟩
    have := hb.th hk
    exact ⟨nm[k]'(by omega), List.getElem?_eq_getElem (by omega)⟩
  have to' : ∀ x, x ∈ nm → ∃ j, nm'[j]? = some x := fun x hx => List.mem_iff_getElem?.mp (hp.mem_iff.mpr hx)
  by_cases c : lot = 0
  · have : r = 0 := th_ext h.1 (by decide) fun i => by
      rw [h.2 i]
      constructor
      · rintro ⟨k, x, _, h2, _⟩; rw [c] at h2; unfold Th at h2; simp at h2
      · intro z; unfold Th at z; simp at z
    rw [c, this]
    unfold wordsF
    rw [if_pos rfl, if_pos rfl]
  · have hr : r ≠ 0 := fun e => by
      obtain ⟨k, hk⟩ := lot_bit l0 c
      obtain ⟨x, hx⟩ := bit k hk
      obtain ⟨j, hj⟩ := to' x (List.mem_of_getElem? hx)
      have : Th r j := (h.2 j).mpr ⟨k, x, (List.getElem?_eq_some_iff.mp hx).1, hk, hx, hj⟩
      rw [e] at this; unfold Th at this; simp at this
    refine (List.perm_ext_iff_of_nodup (words_nd ok' h.1 r1 hr) (words_nd ok l0 l1 c)).mpr fun w => ?_
    rw [mem_words ok' h.1 r1 hr, mem_words ok l0 l1 c]
    constructor
    · rintro ⟨j, h1, h2⟩
      obtain ⟨k, x, _, h4, h5, h6⟩ := (h.2 j).mp h1
      have : x = w := Option.some.inj (h6.symm.trans h2)
      exact ⟨k, h4, this ▸ h5⟩
    · rintro ⟨k, h1, h2⟩
      obtain ⟨j, hj⟩ := to' w (List.mem_of_getElem? h2)
      exact ⟨j, (h.2 j).mpr ⟨k, w, (List.getElem?_eq_some_iff.mp h2).1, h1, h2, hj⟩, hj⟩
def spCalled (K : PySem.W.Frag) : Sp := fun vs H Q _ => ∃ (n o : Addr) (nm nm' : List Str) (lot : Int), vs = [.ref n, .ref o, .int lot] ∧ SqL K H n (nm.map V.str) ∧ H o = some (.lst (nm'.map V.str)) ∧ NamesOk nm ∧ nm'.Perm nm ∧ 0 ≤ lot ∧ lot < 2 ^ nm.length ∧ ∀ (r : Int) (H' : Hp), Same H H' → Cal nm nm' lot nm.length r → Q (.int r) H'
/-- the names to put behind -/
abbrev zo : Str := "zo"
abbrev aToL : Str := "abcdefghijkl"
theorem cps_aToL : cps aToL = (List.range 12).map (· + 97) := by decide +kernel
theorem cps_zo : cps zo = [122, 111] := by decide +kernel
theorem aToL_ascii : aToL.cps.all (· < 128) = true := by decide +kernel
def zoN (c : Nat) : Str := zo ++ ⟨#[c]⟩
theorem zo_ok {c : Nat} (h : c ∈ cps aToL) : NameOk (zoN c) ∧ zoN c ≠ noneT ∧ (zoN c).length ≤ 3 := by
  rw [cps_aToL] at h
  obtain ⟨i, hi, rfl⟩ := List.mem_map.mp h
  have hi := List.mem_range.mp hi
  have e : cps (zoN (i + 97)) = [122, 111, i + 97] := by unfold zoN; rw [cps_app, cps_zo]; rfl
  refine ⟨⟨by rw [e]; simp, by rw [e]; show 3 ≤ 9; decide, fun c hc => ?_⟩, fun z => ?_, by rw [← cps_len, e]; exact Nat.le_refl 3⟩
  · rw [e] at hc
    unfold letter
    simp only [List.mem_cons, List.not_mem_nil, or_false] at hc
    omega
  · have := congrArg (fun s => (cps s).length) z
    rw [e] at this
    have h4 : (cps noneT).length = 4 := by decide +kernel
    have this : 3 = (cps noneT).length := this
    omega
theorem zo_nd : ((cps aToL).map zoN).Nodup := by
  rw [cps_aToL, List.map_map]
  unfold List.Nodup
  rw [List.pairwise_map]
  refine List.Pairwise.imp (fun {a b} hab e => ?_) (List.nodup_range (n := 12))
  have := congrArg cps e
  show False
  have h2 : cps (zoN (a + 97)) = cps (zoN (b + 97)) := this
  unfold zoN at h2
  rw [cps_app, cps_app] at h2
  have := List.append_cancel_left h2
  have : a + 97 = b + 97 := by simpa [cps] using this
  omega
/-- of twelve names one at least is none of fewer than twelve -/
theorem zo_more {nm : List Str} (h : nm.length < 12) : ((cps aToL).map zoN).filter (fun x => !(nm.any fun w => decide (w = x))) ≠ [] := fun e => by
  have sub : ∀ x ∈ (cps aToL).map zoN, x ∈ nm := fun x hx => by
    apply Classical.byContradiction
    intro no
    have : x ∈ ((cps aToL).map zoN).filter (fun x => !(nm.any fun w => decide (w = x))) := List.mem_filter.mpr ⟨hx, by
      rw [Bool.not_eq_true', Bool.eq_false_iff]
      intro z
      obtain ⟨w, hw, e⟩ := List.any_eq_true.mp z
      exact no (of_decide_eq_true e ▸ hw)⟩
    rw [e] at this; cases this
  have h1 := zo_nd.length_le_of_subset sub
  have h2 : ((cps aToL).map zoN).length = 12 := by rw [cps_aToL]; simp
  omega
end OL

namespace OL
open PySem L2
/-! ### a whole paper that holds tells the often lots -/
section
variable {many : Int} {bs : List Int} {least : Int} (hb : ∀ x ∈ bs, InB many x)
include hb
end
theorem MRowsN.snoc {H0 H : Hp} {xs : List V} {ms : List (Int × List Int)} {x : V} {m : Int × List Int} (h : MRowsN H0 H xs ms) (hx : MRowN H0 H x m) : MRowsN H0 H (xs ++ [x]) (ms ++ [m]) := by
  unfold MRowsN at h ⊢
  induction h with
  | nil => exact .cons hx .nil
  | cons a _ ih => exact .cons a ih
def lacks12 (n : Nat) (b : Int) : List Int := (th12 n).filter fun x => !hasF b (1 * 2 ^ x.toNat)
def spDraws62b (K : PySem.W.Frag) : Sp := fun vs H Q _ => ∃ (a : Addr) (ns : List Int) (tn mn : Int), vs = [.ref a, .int tn, .int mn] ∧ SqL K H a (ns.map V.int) ∧ ns.length ≤ 63 ∧ 0 ≤ tn ∧ tn ≤ 100 ∧ 0 ≤ mn ∧ mn ≤ 900 ∧ ∀ (r : Addr) (ds : List Int) (H' : Hp), Same H H' → H r = none → H' r = some (.lst (ds.map V.int)) → Q (.ref r) H'
def spLotMarks : Sp := fun vs H Q _ => ∃ (b bl r : Addr) (many : Int) (bs : List Int) (lot : Int) (ds : List Int), vs = [.ref b, .int lot, .ref r] ∧ H b = some (.tup [.int many, .ref bl]) ∧ H bl = some (.lst (bs.map V.int)) ∧ bl ≠ r ∧ H r = some (.lst (ds.map V.int)) ∧ bs.length ≤ 500 ∧ (∀ x ∈ bs, 0 ≤ x) ∧ 0 ≤ lot ∧ lot < 4096 ∧
  ∀ (t : Addr) (ms ds' : List Int) (H' : Hp), SameB r H H' → H t = none → H' t = some (.lst (ms.map V.int)) → H' r = some (.lst (ds'.map V.int)) → marksB bs lot ms = true → Q (.ref t) H'
def spPaper55 : Sp := fun vs H Q _ => ∃ (b bl q r : Addr) (many : Int) (bs : List Int) (least : Int) (ks ds : List Int), vs = [.ref b, .int least, .ref q, .ref r] ∧ H b = some (.tup [.int many, .ref bl]) ∧ H bl = some (.lst (bs.map V.int)) ∧ bl ≠ r ∧ q ≠ r ∧ H r = some (.lst (ds.map V.int)) ∧ H q = some (.lst (ks.map V.int)) ∧ ks.length ≤ 5000 ∧ bs.length ≤ 500 ∧ 0 ≤ many ∧ many ≤ 12 ∧ (∀ x ∈ bs, 0 ≤ x) ∧ (∀ k ∈ ks, 0 ≤ k ∧ k < 4096) ∧
  ∀ (pp p1 p2 : Addr) (xs ys : List V) (P R : List (Int × List Int)) (ds' : List Int) (H' : Hp), SameB r H H' → H pp = none → H' pp = some (.tup [.ref p1, .ref p2]) → H' p1 = some (.lst xs) → H' p2 = some (.lst ys) → MRows H' xs P → MRows H' ys R → H' r = some (.lst (ds'.map V.int)) → P.map Prod.fst = (ks.filter fun x => decide (least ≤ countF bs x)) → R.map Prod.fst = (ks.filter fun x => !decide (least ≤ countF bs x)) → (∀ m ∈ P, marksB bs m.1 m.2 = true) → (∀ m ∈ R, marksB bs m.1 m.2 = true) → Q (.ref pp) H'
end OL

namespace OL
open PySem L2
/-! ### rows of marks with the places of their lists -/
structure MRL (H : Hp) (xs : List V) (ms : List (Int × List Int)) (ls : List Addr) : Prop where
  l1 : xs.length = ms.length
  l2 : ls.length = ms.length
  row : ∀ (i : Nat) (m : Int × List Int) (l : Addr), ms[i]? = some m → ls[i]? = some l → ∃ p, xs[i]? = some (.ref p) ∧ H p = some (.tup [.int m.1, .ref l]) ∧ H l = some (.lst (m.2.map V.int))
theorem MRL.nil {H : Hp} : MRL H [] [] [] := ⟨rfl, rfl, fun i m l h => by simp at h⟩
theorem MRL.snoc {H : Hp} {xs : List V} {ms : List (Int × List Int)} {ls : List Addr} {p l : Addr} {m : Int × List Int} (h : MRL H xs ms ls) (hp : H p = some (.tup [.int m.1, .ref l])) (hl : H l = some (.lst (m.2.map V.int))) : MRL H (xs ++ [.ref p]) (ms ++ [m]) (ls ++ [l]) := by
  refine ⟨by rw [List.length_append, List.length_append, h.l1]; rfl, by rw [List.length_append, List.length_append, h.l2]; rfl, fun i m' l' h1 h2 => ?_⟩
  have e1 := h.l1
  have e2 := h.l2
  by_cases c : i < ms.length
  · rw [List.getElem?_append_left c] at h1
    rw [List.getElem?_append_left (by omega)] at h2
    rw [List.getElem?_append_left (by omega)]
    exact h.row i m' l' h1 h2
  · have hi : i = ms.length := by
      have := (List.getElem?_eq_some_iff.mp h1).1
      rw [List.length_append] at this
      have : i < ms.length + 1 := this
      omega
    subst hi
    rw [List.getElem?_append_right (Nat.le_refl _), Nat.sub_self] at h1
    rw [List.getElem?_append_right (by omega), e2, Nat.sub_self] at h2
    rw [List.getElem?_append_right (by omega), e1, Nat.sub_self]
    simp at h1 h2
    subst h1 h2
    exact ⟨p, rfl, hp, hl⟩
theorem MRL.m {H : Hp} {xs : List V} {ms : List (Int × List Int)} {ls : List Addr} (h : MRL H xs ms ls) : MRows H xs ms := paired_of h.l1 fun i x m hx hm => by
  have hi := (List.getElem?_eq_some_iff.mp hm).1
  have hj : i < ls.length := by have := h.l2; omega
  obtain ⟨p, e, h1, h2⟩ := h.row i m ls[i] hm (List.getElem?_eq_getElem hj)
  rw [hx] at e
  cases e
  exact ⟨p, _, rfl, h1, h2⟩
/-- all that was there, but at some places, is as it was -/
def SameS (S : List Addr) (H H' : Hp) : Prop := ∀ b o, b ∉ S → H b = some o → H' b = some o
theorem SameS.trans {S : List Addr} {H H1 H2 : Hp} (a : SameS S H H1) (b : SameS S H1 H2) : SameS S H H2 := fun c o n h => b c o n (a c o n h)
theorem same_s {S : List Addr} {H H' : Hp} (h : Same H H') : SameS S H H' := fun b o _ e => h b o e
theorem SameS.mono {S T : List Addr} {H H' : Hp} (h : SameS S H H') (k : ∀ x ∈ S, x ∈ T) : SameS T H H' := fun b o n e => h b o (fun z => n (k b z)) e
theorem MRL.past {S : List Addr} {H H' : Hp} {xs : List V} {ms : List (Int × List Int)} {ls : List Addr} (h : MRL H xs ms ls) (SS : SameS S H H') (hS : ∀ x ∈ S, ∃ ys, H x = some (.lst ys)) (n : ∀ l ∈ ls, l ∉ S) : MRL H' xs ms ls := by
  refine ⟨h.l1, h.l2, fun i m l h1 h2 => ?_⟩
  obtain ⟨p, e, a, b⟩ := h.row i m l h1 h2
  refine ⟨p, e, SS _ _ (fun z => ?_) a, SS _ _ (n l (List.mem_of_getElem? h2)) b⟩
  obtain ⟨ys, hy⟩ := hS p z
  rw [hy] at a; cases a
theorem MRL.same {H H' : Hp} {xs : List V} {ms : List (Int × List Int)} {ls : List Addr} (h : MRL H xs ms ls) (S : Same H H') : MRL H' xs ms ls := h.past (S := []) (same_s S) (fun x hx => nomatch hx) (fun l _ => List.not_mem_nil)
/-! ### as data -/
def dMR (m : Int × List Int) : PyData := .tuple [.int m.1, .list (m.2.map PyData.int)]
def dPap (P R : List (Int × List Int)) : PyData := .tuple [.list (P.map dMR), .list (R.map dMR)]
/-! ### marks held row by row -/
def spMarksL (K : PySem.W.Frag) : Sp := fun vs H Q _ => ∃ (b l : Addr) (many : Int) (bs : List Int) (lot : Int) (ms : List Int), vs = [.ref b, .int lot, .ref l] ∧ Bk K H b many bs ∧ bs.length ≤ 500 ∧ (∀ x ∈ bs, 0 ≤ x) ∧ H l = some (.lst (ms.map V.int)) ∧ 0 ≤ lot ∧ lot < 4096 ∧ ∀ H', Same H H' → Q (.bl (marksB bs lot ms)) H'
def spRightL (K : PySem.W.Frag) : Sp := fun vs H Q _ => ∃ (b p d : Addr) (many : Int) (bs : List Int) (xs ys : List V) (rs : List (Int × Int)) (ls : List Addr), vs = [.ref b, .ref p, .ref d] ∧ bs.length ≤ 500 ∧ rs.length ≤ 5000 ∧ many ≤ 12 ∧ (∀ x ∈ bs, 0 ≤ x) ∧ (∀ r ∈ rs, InB many r.1) ∧ H p = some (.lst xs) ∧ MRL H xs (markedF bs rs) ls ∧ ls.Nodup ∧ H d = some (.lst ys) ∧ Rows H ys rs ∧ p ∉ ls ∧ d ∉ ls ∧ (∀ H', SameS ls H H' → Bk K H' b many bs) ∧
  ∀ H', SameS ls H H' → Q (.bl true) H'
def spMarkedD (K : PySem.W.Frag) : Sp := fun vs H Q _ => ∃ (b r : Addr) (many : Int) (bs : List Int) (xs : List V) (rs : List (Int × Int)), vs = [.ref b, .ref r] ∧ Bk K H b many bs ∧ bs.length ≤ 500 ∧ (∀ x ∈ bs, 0 ≤ x) ∧ H r = some (.lst xs) ∧ Rows H xs rs ∧ rs.length ≤ 5000 ∧ (∀ r ∈ rs, Sm r.1) ∧
  ∀ (t : Addr) (ys : List V) (ls : List Addr) (H' : Hp), Same H H' → H t = none → H' t = some (.lst ys) → MRL H' ys (markedF bs rs) ls → ls.Nodup → (∀ l ∈ ls, H l = none ∧ l ≠ t) → Q (.ref t) H'
def spWholeD (K : PySem.W.Frag) : Sp := fun vs H Q _ => ∃ (b : Addr) (many : Int) (bs : List Int) (least : Int), vs = [.ref b, .int least] ∧ Bk K H b many bs ∧ bs.length ≤ 500 ∧ 0 ≤ many ∧ many ≤ 12 ∧ (∀ x ∈ bs, InB many x) ∧
  ∀ (pp p1 p2 : Addr) (xs ys : List V) (l1 l2 : List Addr) (H' : Hp), Same H H' → H pp = none → H p1 = none → H p2 = none → p1 ≠ p2 → H' pp = some (.tup [.ref p1, .ref p2]) → H' p1 = some (.lst xs) → H' p2 = some (.lst ys) → MRL H' xs (markedF bs (oftenR bs least (2 ^ many.toNat))) l1 → MRL H' ys (markedF bs (bordR bs least (2 ^ many.toNat))) l2 → l1.Nodup → l2.Nodup → (∀ l ∈ l1, l ∉ l2) → (∀ l ∈ l1, H l = none ∧ l ≠ p1 ∧ l ≠ p2) → (∀ l ∈ l2, H l = none ∧ l ≠ p1 ∧ l ≠ p2) → Q (.ref pp) H'
end OL
namespace OL
open PySem L2
end OL

namespace OL.Q40
open PySem L2 OL
def top (i : Nat) : Stmt := PySem.Challenge.pw_oftenlots_k40_whole_texts_led_about.main.body.getD i (.Pass ⟨0, 0, 0, 0⟩)
abbrev sHas : Stmt := top 4
abbrev sHasT : Stmt := top 5
abbrev sWith : Stmt := top 6
abbrev sLotOf : Stmt := top 7
abbrev sThings : Stmt := top 8
abbrev s_show_lot : Stmt := top 10
abbrev s_show_rule : Stmt := top 11
abbrev s_show_day : Stmt := top 12
abbrev s_joined : Stmt := top 13
abbrev s_read_lot : Stmt := top 14
abbrev s_read_rule : Stmt := top 15
abbrev s_read_day : Stmt := top 16
abbrev s_taken_apart : Stmt := top 17
abbrev s_split_in : Stmt := top 18
abbrev sMixed : Stmt := top 20
abbrev sPile : Stmt := top 21
abbrev sTake : Stmt := top 22
abbrev s_L_order : Stmt := top 23
abbrev s_L_names : Stmt := top 24
abbrev s_L_lot : Stmt := top 25
abbrev s_L_called : Stmt := top 26
abbrev s_L_right : Stmt := top 27
abbrev s_law : Stmt := top 28
section
variable {P : Program} {w : World} {K : PySem.W.Frag} {mg : Str → Option Value} {base : Heap} {f : Addr} {fd : FuncData} {k : Nat}
theorem scHas : FnScope ["one", "other"] ["one", "other"] (defScope sHas) := ⟨rfl, rfl, rfl, by decide +kernel, rfl, by decide +kernel, by decide +kernel⟩
theorem ok_has (F : Fun K "has" "has" sHas f fd) (b : Binds K fd ["one", "other"] []) (m : mg "has" = some (.ref f)) : Dfn P w K mg base (k + 1) "has" ["one", "other"] spHas := by
  refine .of F b m scHas (fun vs H Q E h => ?_) (fun cdv A outer s H vs Q E hr h => ?_)
  · obtain ⟨x, y, rfl, _⟩ := h; rfl
  obtain ⟨x, y, rfl, q⟩ := h
  refine ⟨_, pss_one (ps_ret (pe_cmpR op_eq (pe_op op_and (pv 0) (pv 1)) (pv 1) (nomark _))), ?_⟩
  refine ⟨_, rfl, _, rfl, _, _, rfl, rfl, _, rfl, rfl, ?_⟩
  rw [int_eq]; exact q

theorem scHasT : FnScope ["lot", "thing"] ["lot", "thing"] (defScope sHasT) := ⟨rfl, rfl, rfl, by decide +kernel, rfl, by decide +kernel, by decide +kernel⟩
theorem ok_hasT (F : Fun K "has_thing" "has_thing" sHasT f fd) (b : Binds K fd ["lot", "thing"] []) (m : mg "has_thing" = some (.ref f)) (G : Dfn P w K mg base k "has" ["one", "other"] spHas) : Dfn P w K mg base (k + 1) "has_thing" ["lot", "thing"] spHasT := by
  refine .of F b m scHasT (fun vs H Q E h => ?_) (fun cdv A outer s H vs Q E hr h => ?_)
  · obtain ⟨lot, t, rfl, _⟩ := h; rfl
  obtain ⟨lot, t, rfl, t0, t1, q⟩ := h
  refine ⟨_, pss_one (ps_ret (pe_def G hr (Nat.le_refl _) rfl (pa_cons (pv 0) (pa_cons (pe_op op_shl pe_int (pv 1)) pa_nil)))), ?_⟩
  exact ⟨_, rfl, _, rfl, _, _, rfl, rfl, ⟨t0, by omega, by decide⟩, _, _, rfl, q⟩

theorem scWith : FnScope ["lot", "thing"] ["lot", "thing"] (defScope sWith) := ⟨rfl, rfl, rfl, by decide +kernel, rfl, by decide +kernel, by decide +kernel⟩
theorem ok_with (F : Fun K "with_thing" "with_thing" sWith f fd) (b : Binds K fd ["lot", "thing"] []) (m : mg "with_thing" = some (.ref f)) : Dfn P w K mg base (k + 1) "with_thing" ["lot", "thing"] spWith := by
  refine .of F b m scWith (fun vs H Q E h => ?_) (fun cdv A outer s H vs Q E hr h => ?_)
  · obtain ⟨x, y, rfl, _⟩ := h; rfl
  obtain ⟨x, y, rfl, h0, h1, q⟩ := h
  exact ⟨_, pss_one (ps_ret (pe_op op_or (pv 0) (pe_op op_shl pe_int (pv 1)))), _, rfl, _, rfl, _, _, rfl, rfl, ⟨h0, by omega, by decide⟩, _, _, rfl, rfl, q⟩
theorem scLotOf : FnScope ["things", "lot", "thing"] ["things"] (defScope sLotOf) := ⟨rfl, rfl, rfl, by decide +kernel, rfl, by decide +kernel, by decide +kernel⟩
theorem ok_lotOf (F : Fun K "lot_of" "lot_of" sLotOf f fd) (b : Binds K fd ["things"] []) (m : mg "lot_of" = some (.ref f)) (G : Dfn P w K mg base k "with_thing" ["lot", "thing"] spWith) : Dfn P w K mg base (k + 1) "lot_of" ["things"] (spLotOf K) := by
  refine .of F b m scLotOf (fun vs H Q E h => ?_) (fun cdv A outer s H vs Q E hr h => ?_)
  · obtain ⟨p, ps, rfl, _⟩ := h; rfl
  obtain ⟨p, ps, rfl, hp, hps, q⟩ := h
  have nd := scLotOf.nd
  refine ⟨_, pss_cons (ps_set (i := 1) nd rfl (Or.inl rfl) pe_int) (pss_cons (ps_for PassesOwn.never rfl (pi_list (pv 0)) (pg_name (i := 2) nd rfl (Or.inl rfl)) (pss_one (ps_set (i := 1) nd rfl (Or.inl rfl) (pe_def G hr (Nat.le_refl _) rfl (pa_cons (pv 1) (pa_cons (pv 2) pa_nil)))))) (pss_one (ps_ret (pv 1)))), ?_⟩
  refine ⟨_, rfl, p, rfl, ⟨_, hp⟩, for_list (xs := ps.map V.int) (fun i σ H' => ∃ z2 : Option V, σ = [some (.ref p), some (.int (lotOf (ps.take i))), z2] ∧ H' = H) ⟨_, rfl, rfl⟩ (fun i σ H' _ h => by obtain ⟨_, _, rfl⟩ := h; exact hp) ?_ ?_⟩
  · rintro i x σ H' hx ⟨z2, rfl, rfl⟩
    have hi : i < ps.length := by have := (List.getElem?_eq_some_iff.mp hx).1; rwa [List.length_map] at this
    have hx' := ints_get hx
    subst hx'
    obtain ⟨h0, h1⟩ := hps _ (getD_mem hi)
    refine ⟨_, rfl, _, rfl, _, _, rfl, h0, h1, some (.int (ps.getD i 0)), ?_, rfl⟩
    have e : lotOf (ps.take (i + 1)) = Builtin.bitOr (lotOf (ps.take i)) (1 * 2 ^ (ps.getD i 0).toNat) := by
      unfold lotOf; rw [take_get hi, List.foldl_append]; rfl
    rw [e]; rfl
  · rintro σ H' ⟨z2, rfl, rfl⟩
    rw [List.length_map, List.take_length]
    exact ⟨_, rfl, q⟩
theorem scThings : FnScope ["lot"] ["lot"] (defScope sThings) := ⟨rfl, rfl, rfl, by decide +kernel, rfl, by decide +kernel, by decide +kernel⟩
theorem ndTL : (["thing", "lot"] : List Str).Nodup := by decide +kernel
theorem ok_things (F : Fun K "things_in" "things_in" sThings f fd) (b : Binds K fd ["lot"] []) (m : mg "things_in" = some (.ref f)) (mr : mg "range" = none) (G : Dfn P w K mg base k "has_thing" ["lot", "thing"] spHasT) : Dfn P w K mg base (k + 1) "things_in" ["lot"] (spInts thingsF) := by
  refine .of F b m scThings (fun vs H Q E h => ?_) (fun cdv A outer s H vs Q E hr h => ?_)
  · obtain ⟨lot, rfl, _⟩ := h; rfl
  obtain ⟨lot, rfl, hs, q⟩ := h
  refine ⟨_, pss_one (ps_ret (pe_comp ["thing"] [0] (sc := defScope sThings) (N := ["lot"]) rfl rfl ⟨rfl, by decide +kernel, by decide +kernel, by decide +kernel, by decide +kernel⟩ rfl
    (pi_range1 rfl mr (pa_cons (pe_bm0 PySem.F.plainAttrs_int PySem.F.slot_int_bit_length PySem.F.type_int_bit_length mt_bits (pv 0)) pa_nil)) (fun cl s H C fp => pg_name (i := 0) ndTL rfl (Or.inl rfl))
    (fun cl s H C fp => pifs_one (pt_val (pe_def G hr (Nat.le_refl _) rfl (pa_cons (pv 1) (pa_cons (pv 0) pa_nil))))) (fun cl s H C fp => pv 0))), ?_⟩
  have hb := hs.bits
  refine ⟨_, rfl, rfl, _, rfl, rfl, _, rfl, by omega, by omega, ?_⟩
  rw [Int.toNat_natCast]
  refine comp_range (fun i => (upto (fun t => hasF lot (1 * 2 ^ t.toNat)) i).map V.int) rfl (fun acc i H2 hacc hi S h0 => ?_) (fun acc H2 hacc S h0 => q acc H2 S hacc h0)
  rw [show (0 + (i : Int)) = (i : Int) from Int.zero_add _]
  refine ⟨(Wk.refl _).set (by decide), _, rfl, _, rfl, _, _, rfl, by omega, by omega, _, rfl, ?_⟩
  refine ite2 (fun c => ?_) (fun c => ?_)
  · refine ⟨_, rfl, cput hi hacc S h0 (Same.refl _) ?_ ?_⟩
    · show (upto _ (i + 1)).map V.int = _
      rw [upto_yes (p := fun t => hasF lot (1 * 2 ^ t.toNat)) c, List.map_append]; rfl
    · rw [List.length_map]
      have := upto_len (fun t => hasF lot (1 * 2 ^ t.toNat)) i
      exact small1000 (by omega)
  · refine cskip hi S h0 (Same.refl _) ?_
    show (upto _ (i + 1)).map V.int = _
    rw [upto_no (p := fun t => hasF lot (1 * 2 ^ t.toNat)) c]

abbrev n_show_lot : List Str := ["names", "lot"]
theorem sc_show_lot : FnScope n_show_lot ["names", "lot"] (defScope s_show_lot) := ⟨rfl, rfl, rfl, by decide +kernel, rfl, by decide +kernel, by decide +kernel⟩
theorem nd_show_lot_0 : (["thing", "names"] : List Str).Nodup := by decide +kernel
theorem ok_show_lot (F : Fun K "show_lot" "show_lot" s_show_lot f fd) (b : Binds K fd ["names", "lot"] []) (m : mg "show_lot" = some (.ref f))  (G_things_in : Dfn P w K mg base k "things_in" ["lot"] (spInts thingsF)) : Dfn P w K mg base (k + 1) "show_lot" ["names", "lot"] (spShow K) := by
  refine .of F b m sc_show_lot (fun vs H Q E h => ?_) (fun cdv A outer s H vs Q E hr h => ?_)
  · obtain ⟨n, nm, lot, rfl, hn, ok, l0, l1, q⟩ := h; rfl
  obtain ⟨n, nm, lot, rfl, hn, ok, l0, l1, q⟩ := h
  have nd := sc_show_lot.nd
  have le := Nat.le_refl k
  refine ⟨_, pss_cons (ps_if (pt_cmpR op_eq (pv 1) pe_int (nomark _)) (pss_one (ps_ret pe_str)) pss_nil)
    (pss_one (ps_ret (pe_bm PySem.F.plainAttrs_str PySem.F.slot_str_join PySem.F.type_str_join mt_join pe_str (pa_cons (pe_compC ["thing"] [0] (sc := defScope s_show_lot) (N := n_show_lot) (.inl rfl) rfl ⟨rfl, by decide +kernel, by decide +kernel, by decide +kernel, by decide +kernel⟩ rfl (pi_list (pe_def G_things_in hr le rfl (pa_cons (pv 1) pa_nil))) (fun cl s H C fp => (pg_name (i := 0) nd_show_lot_0 rfl (Or.inl rfl))) (fun cl s H C fp => pifs_nil) (fun cl s H C fp => (pe_ix (ix_listK K rfl) (pv 1) (pv 0) (fun _ _ => rfl)))) pa_nil)))), ?_⟩
  have hs := ok.sm l0 l1
  have hfw := few_len hs
  refine seq_if (b := decide (V.int lot = V.int 0)) (.pure fun Q h => ⟨_, rfl, rfl, _, rfl, h⟩) fun H1 S1 => ?_
  refine ite2 (fun c => ?_) (fun c => ?_)
  · have e : lot = 0 := by have := of_decide_eq_true c; injection this
    subst e
    rw [show_zero] at q
    exact q H1 S1
  have e : lot ≠ 0 := fun z => c (by rw [z]; exact decide_eq_true rfl)
  dsimp only [tNext]
  refine ⟨rfl, _, rfl, lot, rfl, hs, fun th H2 S2 hth0 hth => ⟨th, rfl, ⟨_, SqL.of hth⟩, compV_list (SqL.of hth) (fun _ => true) (fun t => .str (nm.getD t.toNat "")) (by omega) (fun t H3 ht S3 => ?_) (fun acc H3 hacc S3 hacc3 => ?_)⟩⟩
  · obtain ⟨k, rfl, hk, _⟩ := ok.th l0 l1 ht
    exact turn_pick (y := .str (nm.getD (k : Int).toNat "")) look_yes (fun _ H4 S4 => .pure fun Q h => ⟨_, rfl, _, rfl, n, _, _, _, rfl, rfl, (S1.trans (S2.trans (S3.trans S4))).seq hn, atS_map (by omega) (by omega), h⟩) fun _ _ _ => rfl
  rw [filter_true] at hacc3
  have hw : wordsF nm lot = (thingsF lot).map fun t => nm.getD t.toNat "" := if_neg e
  have hl := show_len ok l0 l1
  rw [hw] at hl
  have hq := q _ (S1.trans (S2.trans S3))
  unfold showF at hq
  rw [hw] at hq
  generalize hws : ((thingsF lot).map fun t => nm.getD t.toNat "") = ws at hl hq
  have hacc4 : H3 acc = some (.lst (ws.map V.str)) := by rw [← hws, List.map_map]; exact hacc3
  exact ⟨spc, acc, ws, rfl, rfl, SqL.of hacc4, Nat.le_trans hl (by decide), hq⟩
abbrev n_read_lot : List Str := ["names", "text", "words", "lot"]
theorem sc_read_lot : FnScope n_read_lot ["names", "text"] (defScope s_read_lot) := ⟨rfl, rfl, rfl, by decide +kernel, rfl, by decide +kernel, by decide +kernel⟩
theorem nd_read_lot_0 : (["thing", "name", "words"] : List Str).Nodup := by decide +kernel
set_option maxHeartbeats 1000000 in
theorem ok_read_lot (F : Fun K "read_lot" "read_lot" s_read_lot f fd) (b : Binds K fd ["names", "text"] []) (m : mg "read_lot" = some (.ref f)) (M_enumerate : mg "enumerate" = none) (G_lot_of : Dfn P w K mg base k "lot_of" ["things"] (spLotOf K)) (G_show_lot : Dfn P w K mg base k "show_lot" ["names", "lot"] (spShow K)) : Dfn P w K mg base (k + 1) "read_lot" ["names", "text"] (spRead K) := by
  refine .of F b m sc_read_lot (fun vs H Q E h => ?_) (fun cdv A outer s H vs Q E hr h => ?_)
  · obtain ⟨n, nm, lot, z, rfl, hz, hn, ok, l0, l1, q⟩ := h; rfl
  obtain ⟨n, nm, lot, z, rfl, hz, hn, ok, l0, l1, q⟩ := h
  have nd := sc_read_lot.nd
  have le := Nat.le_refl k
  refine ⟨_, pss_cons (ps_set (i := 2) nd rfl (Or.inr rfl) (pe_bm PySem.F.plainAttrs_str PySem.F.slot_str_split PySem.F.type_str_split mt_split (pv 1) (pa_cons pe_str pa_nil)))
    (pss_cons (ps_set (i := 3) nd rfl (Or.inl rfl) (pe_def G_lot_of hr le rfl (pa_cons (pe_compC ["thing", "name"] [2] (sc := defScope s_read_lot) (N := n_read_lot) (.inl rfl) rfl ⟨rfl, by decide +kernel, by decide +kernel, by decide +kernel, by decide +kernel⟩ rfl (pi_enum rfl M_enumerate (pa_cons (pv 0) pa_nil)) (fun cl s H C fp => (pg_tupK (n := 2) K rfl rfl (pgs_cons (pg_name (i := 0) nd_read_lot_0 rfl (Or.inl rfl)) (pgs_cons (pg_name (i := 1) nd_read_lot_0 rfl (Or.inl rfl)) pgs_nil)))) (fun cl s H C fp => pifs_one (pt_cmpR (op_inK K rfl) (pv 1) (pv 2) (by rfl))) (fun cl s H C fp => (pv 0))) pa_nil)))
    (pss_cons (ps_if (pt_cmpR op_ne (pe_def G_show_lot hr le rfl (pa_cons (pv 0) (pa_cons (pv 3) pa_nil))) (pv 1) (nomark _)) (pss_one ps_dead) pss_nil)
    (pss_one (ps_ret (pv 3))))), ?_⟩
  subst hz
  have hsz := show_size ok l0 l1
  have hsp := split_show ok l0 l1
  refine ⟨_, rfl, rfl, showF nm lot, spc, rfl, rfl, (by decide +kernel), Nat.le_trans (Nat.add_le_add_right hsz 2) (by decide), fun wl hwl => ?_⟩
  rw [hsp]
  have S1 := same_new hwl (.lst ((wordsF nm lot).map V.str))
  have hw1 : upd H wl (.lst ((wordsF nm lot).map V.str)) wl = some (.lst ((wordsF nm lot).map V.str)) := upd_same
  generalize upd H wl (.lst ((wordsF nm lot).map V.str)) = H1 at S1 hw1 ⊢
  try dsimp only [gName]
  refine ⟨_, rfl, n, rfl, ⟨_, S1.seq hn⟩, comp_enum (S1.seq hn) (fun j => (((List.range j).filter fun i => hasF lot (1 * 2 ^ i)).map fun (i : Nat) => (i : Int)).map V.int) rfl (fun acc j x pp H2 hacc hj hx S h0 hpp => ?_) (fun hl H2 hhl0 S2 hhl => ?_)⟩
  · rw [List.length_map] at hj
    have hx' : x = .str (nm.getD j "") := by
      rw [List.getElem?_map, List.getElem?_eq_getElem hj] at hx
      rw [List.getD_eq_getElem?_getD, List.getElem?_eq_getElem hj]
      exact (Option.some.inj hx).symm
    subst hx'
    have Sp := same_new hpp (.tup [.int (j : Nat), .str (nm.getD j "")])
    refine ⟨pp, _, rfl, SqT.of upd_same, rfl, _, _, rfl, _, _, rfl, rfl, Wk.set (i := 1) ((Wk.refl _).set (i := 0) (by decide)) (by decide), _, rfl, _, rfl, wl, _, rfl, .inl (SqL.of (Sp _ _ (S _ _ hw1))), rfl, flat_strs _, _, rfl, ?_⟩
    have hjn := ok.hi
    have hfl : (((List.range j).filter fun i => hasF lot (1 * 2 ^ i)).map fun (i : Nat) => (i : Int)).length ≤ j := by rw [List.length_map]; exact Nat.le_trans (List.length_filter_le _ _) (by rw [List.length_range]; exact Nat.le_refl _)
    have hin := in_words ok l0 l1 hj
    show if inV (.str (nm.getD j "")) ((wordsF nm lot).map V.str) = true then _ else _
    rw [in_strs, hin]
    refine ite2 (fun c => ⟨_, rfl, cput (by rw [List.length_map]; exact hj) hacc S h0 Sp ?_ ?_⟩) (fun c => cskip (by rw [List.length_map]; exact hj) S h0 Sp ?_)
    · show (((List.range (j + 1)).filter _).map _).map V.int = _
      rw [List.range_succ, List.filter_append, List.filter_cons, if_pos c, List.map_append, List.map_append]; rfl
    · rw [List.length_map]; exact small1000 (by omega)
    · show (((List.range (j + 1)).filter _).map _).map V.int = _
      rw [List.range_succ, List.filter_append, List.filter_cons, if_neg c]; simp
  rw [List.length_map] at hhl
  have hjn := ok.hi
  refine ⟨hl, _, rfl, SqL.of hhl, fun q hq => ?_, ?_⟩
  · obtain ⟨i, hi, rfl⟩ := List.mem_map.mp hq
    have := List.mem_range.mp (List.mem_filter.mp hi).1
    omega
  rw [lot_things nm.length l0 l1]
  have S12 := S1.trans S2
  try dsimp only [gName]
  refine seq_if (b := false) (fun Q h => ⟨_, rfl, _, rfl, n, nm, lot, rfl, S12.seq hn, ok, l0, l1, fun H3 S3 => ⟨_, rfl, ne_str' (h _ S3)⟩⟩) fun H3 S3 => iteF ?_
  dsimp only [tNext]
  exact ⟨_, rfl, q _ (S12.trans S3)⟩

end
end OL.Q40

namespace OL.Q40
open PySem L2 OL
section
variable {P : Program} {w : World} {K : PySem.W.Frag} {mg : Str → Option Value} {base : Heap} {f : Addr} {fd : FuncData} {k : Nat}
abbrev n_show_rule : List Str := ["names", "rule"]
theorem sc_show_rule : FnScope n_show_rule ["names", "rule"] (defScope s_show_rule) := ⟨rfl, rfl, rfl, by decide +kernel, rfl, by decide +kernel, by decide +kernel⟩
theorem ok_show_rule (F : Fun K "show_rule" "show_rule" s_show_rule f fd) (b : Binds K fd ["names", "rule"] []) (m : mg "show_rule" = some (.ref f))  (G_show_lot : Dfn P w K mg base k "show_lot" ["names", "lot"] (spShow K)) : Dfn P w K mg base (k + 1) "show_rule" ["names", "rule"] (spShowR K) := by
  refine .of F b m sc_show_rule (fun vs H Q E h => ?_) (fun cdv A outer s H vs Q E hr h => ?_)
  · obtain ⟨n, nm, r, x, y, rfl, hn, hru, ok, x0, x1, y0, y1, q⟩ := h; rfl
  obtain ⟨n, nm, r, x, y, rfl, hn, hru, ok, x0, x1, y0, y1, q⟩ := h
  have nd := sc_show_rule.nd
  have le := Nat.le_refl k
  refine ⟨_, pss_one (ps_ret (pe_op op_catS (pe_op op_catS (pe_def G_show_lot hr le rfl (pa_cons (pv 0) (pa_cons (pe_ix ix_tup (pv 1) pe_int (fun _ _ => rfl)) pa_nil))) pe_str) (pe_def G_show_lot hr le rfl (pa_cons (pv 0) (pa_cons (pe_ix ix_tup (pv 1) pe_int (fun _ _ => rfl)) pa_nil))))), ?_⟩
  have hl := rule_len ok x0 x1 y0 y1
  refine ⟨_, rfl, _, rfl, r, _, _, _, rfl, rfl, SqT.of hru, rfl, n, nm, x, rfl, hn, ok, x0, x1, fun H1 S1 => ?_⟩
  refine ⟨_, _, rfl, rfl, Nat.le_trans hl.1 (by decide), _, rfl, _, rfl, r, _, _, _, rfl, rfl, SqT.of (S1 _ _ hru), rfl, n, nm, y, rfl, S1.seq hn, ok, y0, y1, fun H2 S2 => ?_⟩
  exact ⟨_, _, rfl, rfl, Nat.le_trans hl.2 (by decide), q _ (S1.trans S2)⟩
abbrev n_split_in : List Str := ["text", "sign", "many", "pieces"]
theorem sc_split_in : FnScope n_split_in ["text", "sign", "many"] (defScope s_split_in) := ⟨rfl, rfl, rfl, by decide +kernel, rfl, by decide +kernel, by decide +kernel⟩
theorem ok_split_in (F : Fun K "split_in" "split_in" s_split_in f fd) (b : Binds K fd ["text", "sign", "many"] []) (m : mg "split_in" = some (.ref f)) (M_len : mg "len" = none)  : Dfn P w K mg base (k + 1) "split_in" ["text", "sign", "many"] spSplitIn := by
  refine .of F b m sc_split_in (fun vs H Q E h => ?_) (fun cdv A outer s H vs Q E hr h => ?_)
  · obtain ⟨z, sg, rfl, h0, hz, q⟩ := h; rfl
  obtain ⟨z, sg, rfl, h0, hz, q⟩ := h
  have nd := sc_split_in.nd
  refine ⟨_, pss_cons (ps_set (i := 3) nd rfl (Or.inl rfl) (pe_bm PySem.F.plainAttrs_str PySem.F.slot_str_split PySem.F.type_str_split mt_split (pv 0) (pa_cons (pv 1) pa_nil)))
    (pss_cons (ps_if (pt_cmpR op_ne (pe_callB call_len_seq (by rfl) M_len PySem.boot_len (pa_cons (pv 3) pa_nil)) (pv 2) (nomark _)) (pss_one ps_dead) pss_nil)
    (pss_one (ps_ret (pv 3)))), ?_⟩
  refine ⟨_, rfl, rfl, _, rfl, z, sg, rfl, rfl, h0, hz, fun l hl => ?_⟩
  have S1 := same_new hl (.lst ((Txt.split z sg).map V.str))
  have hl1 : upd H l (.lst ((Txt.split z sg).map V.str)) l = some (.lst ((Txt.split z sg).map V.str)) := upd_same
  generalize upd H l (.lst ((Txt.split z sg).map V.str)) = H1 at S1 hl1 ⊢
  try dsimp only [gName]
  refine seq_if (b := false) (.pure fun Q h => ⟨_, rfl, l, _, rfl, .inl (SqL.of hl1), _, rfl, ?_⟩) fun H2 S2 => iteF ?_
  · rw [List.length_map]; exact ne_intS h
  exact ⟨_, rfl, q _ _ (S1.trans S2) hl (S2 _ _ hl1)⟩
abbrev n_read_rule : List Str := ["names", "text", "sides"]
theorem sc_read_rule : FnScope n_read_rule ["names", "text"] (defScope s_read_rule) := ⟨rfl, rfl, rfl, by decide +kernel, rfl, by decide +kernel, by decide +kernel⟩
theorem ok_read_rule (F : Fun K "read_rule" "read_rule" s_read_rule f fd) (b : Binds K fd ["names", "text"] []) (m : mg "read_rule" = some (.ref f))  (G_split_in : Dfn P w K mg base k "split_in" ["text", "sign", "many"] spSplitIn) (G_read_lot : Dfn P w K mg base k "read_lot" ["names", "text"] (spRead K)) : Dfn P w K mg base (k + 1) "read_rule" ["names", "text"] (spReadR K) := by
  refine .of F b m sc_read_rule (fun vs H Q E h => ?_) (fun cdv A outer s H vs Q E hr h => ?_)
  · obtain ⟨n, nm, x, y, z, rfl, hz, hn, ok, x0, x1, y0, y1, q⟩ := h; rfl
  obtain ⟨n, nm, x, y, z, rfl, hz, hn, ok, x0, x1, y0, y1, q⟩ := h
  have nd := sc_read_rule.nd
  have le := Nat.le_refl k
  refine ⟨_, pss_cons (ps_set (i := 2) nd rfl (Or.inl rfl) (pe_def G_split_in hr le rfl (pa_cons (pv 1) (pa_cons pe_str (pa_cons pe_int pa_nil)))))
    (pss_one (ps_ret (pe_tup (pa_cons (pe_def G_read_lot hr le rfl (pa_cons (pv 0) (pa_cons (pe_ix ix_list (pv 2) pe_int (fun _ _ => rfl)) pa_nil))) (pa_cons (pe_def G_read_lot hr le rfl (pa_cons (pv 0) (pa_cons (pe_ix ix_list (pv 2) pe_int (fun _ _ => rfl)) pa_nil))) pa_nil))))), ?_⟩
  subst hz
  have hl := rule_len ok x0 x1 y0 y1
  have hs := rule_split ok x0 x1 y0 y1
  refine ⟨_, rfl, ruleF nm x y, arrow, by rw [hs]; rfl, by decide +kernel, Nat.le_trans (Nat.add_le_add_right hl.2 2) (by decide), fun l H1 S1 hl0 hl1 => ?_⟩
  rw [hs] at hl1
  try dsimp only [gName]
  refine ⟨_, rfl, _, rfl, l, _, _, _, rfl, rfl, SqL.of hl1, rfl, n, nm, x, _, rfl, rfl, S1.seq hn, ok, x0, x1, fun H2 S2 => ?_⟩
  refine ⟨_, rfl, _, rfl, l, _, _, _, rfl, rfl, SqL.of (S2 _ _ hl1), rfl, n, nm, y, _, rfl, rfl, (S1.trans S2).seq hn, ok, y0, y1, fun H3 S3 => ?_⟩
  exact ⟨(by show 2 ≤ sizeLine; decide), fun p hp => q _ _ ((S1.trans (S2.trans S3)).trans (same_new hp _)) ((S1.trans (S2.trans S3)).free hp) upd_same⟩

end
end OL.Q40

namespace OL.Q40
open PySem L2 OL
section
variable {P : Program} {w : World} {K : PySem.W.Frag} {mg : Str → Option Value} {base : Heap} {f : Addr} {fd : FuncData} {k : Nat}
abbrev n_joined : List Str := ["sign", "texts"]
theorem sc_joined : FnScope n_joined ["sign", "texts"] (defScope s_joined) := ⟨rfl, rfl, rfl, by decide +kernel, rfl, by decide +kernel, by decide +kernel⟩
theorem ok_joined (F : Fun K "joined" "joined" s_joined f fd) (b : Binds K fd ["sign", "texts"] []) (m : mg "joined" = some (.ref f)) (M_len : mg "len" = none)  : Dfn P w K mg base (k + 1) "joined" ["sign", "texts"] (spJoined K) := by
  refine .of F b m sc_joined (fun vs H Q E h => ?_) (fun cdv A outer s H vs Q E hr h => ?_)
  · obtain ⟨t, sg, ss, rfl, ht, hz, q⟩ := h; rfl
  obtain ⟨t, sg, ss, rfl, ht, hz, q⟩ := h
  have nd := sc_joined.nd
  refine ⟨_, pss_cons (ps_if (pt_cmpR op_eq (pe_callB call_len_seq (by rfl) M_len PySem.boot_len (pa_cons (pv 1) pa_nil)) pe_int (nomark _)) (pss_one (ps_ret pe_str)) pss_nil)
    (pss_one (ps_ret (pe_bm PySem.F.plainAttrs_str PySem.F.slot_str_join PySem.F.type_str_join mt_join (pv 0) (pa_cons (pv 1) pa_nil)))), ?_⟩
  refine seq_if (b := decide (ss = [])) (.pure fun Q h => ⟨_, rfl, t, _, rfl, .inl ht, rfl, _, rfl, ?_⟩) fun H1 S1 => ?_
  · rw [List.length_map, show decide (V.int (ss.length : Int) = V.int 0) = decide (ss = []) from by
      rw [Bool.eq_iff_iff, decide_eq_true_eq, decide_eq_true_eq]
      exact ⟨fun z => by injection z with z; exact List.length_eq_zero_iff.mp (by omega), fun z => by rw [z]; rfl⟩]
    exact h
  have hq := q H1 S1
  refine ite2 (fun c => ?_) (fun c => ?_)
  · rw [if_pos (of_decide_eq_true c)] at hq; exact hq
  · rw [if_neg (fun z => c (decide_eq_true z))] at hq
    dsimp only [tNext]
    exact ⟨_, rfl, rfl, _, rfl, sg, t, ss, rfl, rfl, S1.seq ht, hz, hq⟩
abbrev n_taken_apart : List Str := ["sign", "text"]
theorem sc_taken_apart : FnScope n_taken_apart ["sign", "text"] (defScope s_taken_apart) := ⟨rfl, rfl, rfl, by decide +kernel, rfl, by decide +kernel, by decide +kernel⟩
theorem ok_taken_apart (F : Fun K "taken_apart" "taken_apart" s_taken_apart f fd) (b : Binds K fd ["sign", "text"] []) (m : mg "taken_apart" = some (.ref f))   : Dfn P w K mg base (k + 1) "taken_apart" ["sign", "text"] spApart := by
  refine .of F b m sc_taken_apart (fun vs H Q E h => ?_) (fun cdv A outer s H vs Q E hr h => ?_)
  · obtain ⟨sg, z, rfl, h0, hz, q⟩ := h; rfl
  obtain ⟨sg, z, rfl, h0, hz, q⟩ := h
  have nd := sc_taken_apart.nd
  refine ⟨_, pss_cons (ps_if (pt_cmpR op_eq (pv 1) pe_str (nomark _)) (pss_one (ps_ret (pe_lst pa_nil))) pss_nil)
    (pss_one (ps_ret (pe_bm PySem.F.plainAttrs_str PySem.F.slot_str_split PySem.F.type_str_split mt_split (pv 1) (pa_cons (pv 0) pa_nil)))), ?_⟩
  refine seq_if (b := decide (V.str z = V.str "none")) (.pure fun Q h => ⟨_, rfl, rfl, _, rfl, h⟩) fun H1 S1 => ?_
  refine ite2 (fun c => ?_) (fun c => ?_)
  · have e : z = noneT := by have := of_decide_eq_true c; injection this
    rw [if_pos e] at q
    exact ⟨nil_len, fun l hl => q l _ (S1.trans (same_new hl _)) (S1.free hl) upd_same⟩
  · have e : z ≠ noneT := fun w => c (by rw [w]; exact decide_eq_true rfl)
    rw [if_neg e] at q
    dsimp only [tNext]
    exact ⟨_, rfl, rfl, _, rfl, z, sg, rfl, rfl, h0, hz, fun l hl => q l _ (S1.trans (same_new hl _)) (S1.free hl) upd_same⟩
abbrev n_show_day : List Str := ["names", "day"]
theorem sc_show_day : FnScope n_show_day ["names", "day"] (defScope s_show_day) := ⟨rfl, rfl, rfl, by decide +kernel, rfl, by decide +kernel, by decide +kernel⟩
theorem nd_show_day_0 : (["basket", "names"] : List Str).Nodup := by decide +kernel
theorem ok_show_day (F : Fun K "show_day" "show_day" s_show_day f fd) (b : Binds K fd ["names", "day"] []) (m : mg "show_day" = some (.ref f))  (G_joined : Dfn P w K mg base k "joined" ["sign", "texts"] (spJoined K)) (G_show_lot : Dfn P w K mg base k "show_lot" ["names", "lot"] (spShow K)) : Dfn P w K mg base (k + 1) "show_day" ["names", "day"] (spShowD K) := by
  refine .of F b m sc_show_day (fun vs H Q E h => ?_) (fun cdv A outer s H vs Q E hr h => ?_)
  · obtain ⟨n, d, nm, ls, rfl, hn, hd, ok, dk, q⟩ := h; rfl
  obtain ⟨n, d, nm, ls, rfl, hn, hd, ok, dk, q⟩ := h
  have nd := sc_show_day.nd
  have le := Nat.le_refl k
  refine ⟨_, pss_one (ps_ret (pe_def G_joined hr le rfl (pa_cons pe_str (pa_cons (pe_compC ["basket"] [0] (sc := defScope s_show_day) (N := n_show_day) (.inl rfl) rfl ⟨rfl, by decide +kernel, by decide +kernel, by decide +kernel, by decide +kernel⟩ rfl (pi_list (pv 1)) (fun cl s H C fp => (pg_name (i := 0) nd_show_day_0 rfl (Or.inl rfl))) (fun cl s H C fp => pifs_nil) (fun cl s H C fp => (pe_def G_show_lot hr le rfl (pa_cons (pv 1) (pa_cons (pv 0) pa_nil))))) pa_nil)))), ?_⟩
  have hl := dk.1
  refine ⟨_, rfl, d, rfl, ⟨_, hd⟩, compV_list hd (fun _ => true) (fun t => .str (showF nm t)) (by omega) (fun t H3 ht S3 => turn_pick (y := .str (showF nm t)) look_yes (fun _ H4 S4 => fun Q h => ⟨_, rfl, _, rfl, n, nm, t, rfl, (S3.trans S4).seq hn, ok, (dk.2 t ht).1, (dk.2 t ht).2, fun H5 S5 => h _ S5⟩) fun _ _ _ => rfl) (fun acc H3 hacc S3 hacc3 => ?_)⟩
  rw [filter_true] at hacc3
  have hacc4 : H3 acc = some (.lst ((ls.map (showF nm)).map V.str)) := by rw [List.map_map]; exact hacc3
  refine ⟨acc, semi, ls.map (showF nm), rfl, SqL.of hacc4, Nat.le_trans (day_sum ok dk) (by decide), fun H4 S4 => ?_⟩
  have hq := q _ (S3.trans S4)
  have e : (if ls.map (showF nm) = [] then noneT else Txt.join semi (ls.map (showF nm))) = dayF nm ls := by
    unfold dayF
    by_cases c : ls = []
    · rw [c]; rfl
    · rw [if_neg c, if_neg fun z => c (List.map_eq_nil_iff.mp z)]
  rw [e]; exact hq
abbrev n_read_day : List Str := ["names", "text"]
theorem sc_read_day : FnScope n_read_day ["names", "text"] (defScope s_read_day) := ⟨rfl, rfl, rfl, by decide +kernel, rfl, by decide +kernel, by decide +kernel⟩
theorem nd_read_day_0 : (["part", "names"] : List Str).Nodup := by decide +kernel
theorem ok_read_day (F : Fun K "read_day" "read_day" s_read_day f fd) (b : Binds K fd ["names", "text"] []) (m : mg "read_day" = some (.ref f))  (G_taken_apart : Dfn P w K mg base k "taken_apart" ["sign", "text"] spApart) (G_read_lot : Dfn P w K mg base k "read_lot" ["names", "text"] (spRead K)) : Dfn P w K mg base (k + 1) "read_day" ["names", "text"] (spReadD K) := by
  refine .of F b m sc_read_day (fun vs H Q E h => ?_) (fun cdv A outer s H vs Q E hr h => ?_)
  · obtain ⟨n, nm, ls, z, rfl, hz, hn, ok, dk, q⟩ := h; rfl
  obtain ⟨n, nm, ls, z, rfl, hz, hn, ok, dk, q⟩ := h
  have nd := sc_read_day.nd
  have le := Nat.le_refl k
  refine ⟨_, pss_one (ps_ret (pe_compC ["part"] [0] (sc := defScope s_read_day) (N := n_read_day) (.inl rfl) rfl ⟨rfl, by decide +kernel, by decide +kernel, by decide +kernel, by decide +kernel⟩ rfl (pi_list (pe_def G_taken_apart hr le rfl (pa_cons pe_str (pa_cons (pv 1) pa_nil)))) (fun cl s H C fp => (pg_name (i := 0) nd_read_day_0 rfl (Or.inl rfl))) (fun cl s H C fp => pifs_nil) (fun cl s H C fp => (pe_def G_read_lot hr le rfl (pa_cons (pv 1) (pa_cons (pv 0) pa_nil)))))), ?_⟩
  subst hz
  have hl := dk.1
  have hsz := day_len ok dk
  refine ⟨_, rfl, semi, dayF nm ls, rfl, by decide +kernel, Nat.le_trans (Nat.add_le_add_right hsz 2) (by decide), fun l H1 S1 hl0 hl1 => ?_⟩
  have e : (if dayF nm ls = noneT then [] else Txt.split (dayF nm ls) semi) = ls.map (showF nm) := by
    by_cases c : ls = []
    · rw [c, if_pos (by rfl)]; rfl
    · rw [if_neg (day_not_none ok dk c), day_split ok dk c]
  rw [e, List.map_map] at hl1
  refine ⟨l, rfl, ⟨_, SqL.of hl1⟩, compA_list (as := ls) (Re := fun v t => v = .str (showF nm t)) (SqL.of hl1) (paired_mapped ls) (fun _ => true) (fun _ y t => y = .int t) (fun _ _ _ _ _ z => z) (by omega) (fun t v H2 ht e S2 => ?_) (fun acc ys H2 hacc S2 hacc2 hys => ?_)⟩
  · subst e
    exact turn_pick (y := .int t) look_yes (fun _ H4 S4 => fun Q h => ⟨_, rfl, _, rfl, n, nm, t, _, rfl, rfl, (S1.trans (S2.trans S4)).seq hn, ok, (dk.2 t ht).1, (dk.2 t ht).2, fun H5 S5 => h _ S5⟩) fun _ _ _ => rfl
  · rw [filter_true] at hys
    rw [paired_map hys] at hacc2
    exact q acc H2 (S1.trans S2) (S1.free hacc) hacc2

end
end OL.Q40

namespace OL.Q40
open PySem L2 OL
section
variable {P : Program} {w : World} {K : PySem.W.Frag} {mg : Str → Option Value} {base : Heap} {f : Addr} {fd : FuncData} {k : Nat}
abbrev n_L_right : List Str := ["_law_names_here", "_law_one", "_law_two", "_law_days", "_law_rule", "_law_sides", "_law_early", "_law_both"]
theorem sc_L_right : FnScope n_L_right ["_law_names_here", "_law_one", "_law_two", "_law_days"] (defScope s_L_right) := ⟨rfl, rfl, rfl, by decide +kernel, rfl, by decide +kernel, by decide +kernel⟩
theorem nd_L_right_0 : (["_law_day", "_law_names_here"] : List Str).Nodup := by decide +kernel
set_option maxHeartbeats 2000000 in
theorem ok_L_right (F : Fun K "_law_right" "_law_right" s_L_right f fd) (b : Binds K fd ["_law_names_here", "_law_one", "_law_two", "_law_days"] []) (m : mg "_law_right" = some (.ref f))  (G_show_rule : Dfn P w K mg base k "show_rule" ["names", "rule"] (spShowR K)) (G_read_rule : Dfn P w K mg base k "read_rule" ["names", "text"] (spReadR K)) (G_read_lot : Dfn P w K mg base k "read_lot" ["names", "text"] (spRead K)) (G_read_day : Dfn P w K mg base k "read_day" ["names", "text"] (spReadD K)) (G_show_day : Dfn P w K mg base k "show_day" ["names", "day"] (spShowD K)) : Dfn P w K mg base (k + 1) "_law_right" ["_law_names_here", "_law_one", "_law_two", "_law_days"] (spRight40 K) := by
  refine .of F b m sc_L_right (fun vs H Q E h => ?_) (fun cdv A outer s H vs Q E hr h => ?_)
  · obtain ⟨n, D, d1, d2, nm, x, y, xs, ys, rfl, hn, ok, x0, x1, y0, y1, hD, hd1, hd2, xne, yne, xk, yk, xyk, q⟩ := h; rfl
  obtain ⟨n, D, d1, d2, nm, x, y, xs, ys, rfl, hn, ok, x0, x1, y0, y1, hD, hd1, hd2, xne, yne, xk, yk, xyk, q⟩ := h
  have nd := sc_L_right.nd
  have le := Nat.le_refl k
  refine ⟨_, pss_cons (ps_set (i := 4) nd rfl (Or.inl rfl) (pe_def G_show_rule hr le rfl (pa_cons (pv 0) (pa_cons (pe_tup (pa_cons (pv 1) (pa_cons (pv 2) pa_nil))) pa_nil))))
    (pss_cons (ps_if (PW.pt (pw_or (pt_cmpR (op_neD hr) (pe_def G_read_rule hr le rfl (pa_cons (pv 0) (pa_cons (pv 4) pa_nil))) (pe_tup (pa_cons (pv 1) (pa_cons (pv 2) pa_nil))) (nomark _)) (pw_or1 (pt_cmpR op_ne (pe_def G_show_rule hr le rfl (pa_cons (pv 0) (pa_cons (pe_def G_read_rule hr le rfl (pa_cons (pv 0) (pa_cons (pv 4) pa_nil))) pa_nil))) (pv 4) (nomark _))))) (pss_one (ps_ret pe_bl)) pss_nil)
    (pss_cons (ps_set (i := 5) nd rfl (Or.inl rfl) (pe_bm PySem.F.plainAttrs_str PySem.F.slot_str_split PySem.F.type_str_split mt_split (pv 4) (pa_cons pe_str pa_nil)))
    (pss_cons (ps_if (PW.pt (pw_or (pt_cmpR op_ne (pe_def G_read_lot hr le rfl (pa_cons (pv 0) (pa_cons (pe_ix ix_list (pv 5) pe_int (fun _ _ => rfl)) pa_nil))) (pv 1) (nomark _)) (pw_or1 (pt_cmpR op_ne (pe_def G_read_lot hr le rfl (pa_cons (pv 0) (pa_cons (pe_ix ix_list (pv 5) pe_int (fun _ _ => rfl)) pa_nil))) (pv 2) (nomark _))))) (pss_one (ps_ret pe_bl)) pss_nil)
    (pss_cons (ps_setCompC (i := 6) nd rfl rfl ["_law_day"] [0] (sc := defScope s_L_right) (N := n_L_right) (.inl rfl) rfl ⟨rfl, by decide +kernel, by decide +kernel, by decide +kernel, by decide +kernel⟩ rfl (pi_list (pv 3)) (fun cl s H C fp => (pg_name (i := 0) nd_L_right_0 rfl (Or.inl rfl))) (fun cl s H C fp => pifs_nil) (fun cl s H C fp => (pe_def G_read_day hr le rfl (pa_cons (pv 1) (pa_cons (pe_def G_show_day hr le rfl (pa_cons (pv 1) (pa_cons (pv 0) pa_nil))) pa_nil)))) rfl)
    (pss_cons (ps_set (i := 7) nd rfl (Or.inl rfl) (pe_op op_catS (pe_op op_catS (pe_def G_show_day hr le rfl (pa_cons (pv 0) (pa_cons (pe_ix ix_list (pv 3) pe_int (fun _ _ => rfl)) pa_nil))) pe_str) (pe_def G_show_day hr le rfl (pa_cons (pv 0) (pa_cons (pe_ix ix_list (pv 3) pe_int (fun _ _ => rfl)) pa_nil)))))
    (pss_cons (ps_if (PW.pt (pw_or (pt_cmpR (op_neD hr) (pe_def G_read_day hr le rfl (pa_cons (pv 0) (pa_cons (pv 7) pa_nil))) (pe_op op_cat (pe_ix ix_list (pv 3) pe_int (fun _ _ => rfl)) (pe_ix ix_list (pv 3) pe_int (fun _ _ => rfl))) (nomark _)) (pw_or1 (pt_cmpR op_ne (pe_def G_show_day hr le rfl (pa_cons (pv 0) (pa_cons (pe_op op_cat (pe_ix ix_list (pv 3) pe_int (fun _ _ => rfl)) (pe_ix ix_list (pv 3) pe_int (fun _ _ => rfl))) pa_nil))) (pv 7) (nomark _))))) (pss_one (ps_ret pe_bl)) pss_nil)
    (pss_one (ps_ret (pe_cmpR (op_eqD hr) (pv 6) (pv 3) (nomark _)))))))))), ?_⟩
  have hl := rule_len ok x0 x1 y0 y1
  have hs := rule_split ok x0 x1 y0 y1
  refine ⟨_, rfl, _, rfl, _, rfl, (by show 2 ≤ sizeLine; decide), fun ru hru => ⟨n, nm, ru, x, y, rfl, (same_new hru _).seq hn, upd_same, ok, x0, x1, y0, y1, fun H1 S1' => ?_⟩⟩
  have S1 := (same_new hru (.tup [.int x, .int y])).trans S1'
  try dsimp only [gName]
  refine seq_if (b := false) (lookOr (c := false) (d := false) (fun Q h => ⟨_, rfl, _, rfl, n, nm, x, y, _, rfl, rfl, S1.seq hn, ok, x0, x1, y0, y1, fun p H2 S2 hp0 hp => ⟨_, rfl, _, rfl, (by show 2 ≤ sizeLine; decide), fun t ht => ne_pairS (same_new ht _ _ _ hp) upd_same ⟨_, rfl, h _ (S2.trans (same_new ht _))⟩⟩⟩) fun _ H2 S2 => fun Q h => ⟨_, rfl, _, rfl, _, rfl, n, nm, x, y, _, rfl, rfl, (S1.trans S2).seq hn, ok, x0, x1, y0, y1, fun p H3 S3 hp0 hp => ⟨n, nm, p, x, y, rfl, (S1.trans (S2.trans S3)).seq hn, hp, ok, x0, x1, y0, y1, fun H4 S4 => ⟨_, rfl, ne_str' (h _ (S3.trans S4))⟩⟩⟩) fun H2 S2 => iteF ?_
  dsimp only [tNext]
  have S02 := S1.trans S2
  refine ⟨_, rfl, rfl, ruleF nm x y, arrow, rfl, rfl, by decide +kernel, Nat.le_trans (Nat.add_le_add_right hl.2 2) (by decide), fun l hl0 => ?_⟩
  rw [hs]
  have S3 := same_new hl0 (.lst ([showF nm x, showF nm y].map V.str))
  have hl3 : upd H2 l (.lst ([showF nm x, showF nm y].map V.str)) l = some (.lst ([showF nm x, showF nm y].map V.str)) := upd_same
  generalize upd H2 l (.lst ([showF nm x, showF nm y].map V.str)) = H3 at S3 hl3 ⊢
  have S03 := S02.trans S3
  try dsimp only [gName]
  refine seq_if (b := false) (lookOr (c := false) (d := false) (fun Q h => ⟨_, rfl, _, rfl, l, _, _, _, rfl, rfl, SqL.of hl3, rfl, n, nm, x, _, rfl, rfl, S03.seq hn, ok, x0, x1, fun H4 S4 => ⟨_, rfl, ne_intS (h _ S4)⟩⟩) fun _ H4 S4 => fun Q h => ⟨_, rfl, _, rfl, l, _, _, _, rfl, rfl, SqL.of (S4 _ _ hl3), rfl, n, nm, y, _, rfl, rfl, (S03.trans S4).seq hn, ok, y0, y1, fun H5 S5 => ⟨_, rfl, ne_intS (h _ S5)⟩⟩) fun H4 S4 => iteF ?_
  dsimp only [tNext]
  have S04 := S03.trans S4
  have hD4 := S04 _ _ hD
  refine ⟨_, rfl, D, rfl, ⟨_, SqL.of hD4⟩, compB_list (xs := [.ref d1, .ref d2]) (as := [(d1, xs), (d2, ys)]) (Re := fun v t => v = .ref t.1) (SqL.of hD4) (.cons rfl (.cons rfl .nil)) (fun _ => true) (fun acc H' v (t : Addr × List Int) => ∃ e : Addr, v = .ref e ∧ e ≠ acc ∧ H' e = some (.lst (t.2.map V.int))) (fun acc zs H H' v t ha SB h => ?_) (by show 2 ≤ 65000; decide) (fun acc zs t v H5 hm hv S5 hacc hacc5 => ?_) (fun er vs H5 her0 S5 her hp => ?_)⟩
  · obtain ⟨e, h1, h2, h3⟩ := h
    exact ⟨e, h1, h2, SB _ _ h2 h3⟩
  · subst hv
    have ht : H5 t.1 = some (.lst (t.2.map V.int)) ∧ DayOk nm t.2 := by
      rcases List.mem_cons.mp hm with w | w
      · rw [w]; exact ⟨S5 _ _ (S04 _ _ hd1), xk⟩
      · rw [List.mem_singleton.mp w]; exact ⟨S5 _ _ (S04 _ _ hd2), yk⟩
    intro PUT SKIP hput hskip
    refine ⟨(Wk.refl _).set (by decide), yes_of ⟨_, rfl, _, rfl, _, rfl, n, t.1, nm, t.2, rfl, (S04.trans S5).seq hn, SqL.of ht.1, ok, ht.2, fun H6 S6 => ⟨n, nm, t.2, _, rfl, rfl, (S04.trans (S5.trans S6)).seq hn, ok, ht.2, fun e H7 S7 he0 he => ?_⟩⟩⟩
    exact hput rfl _ _ (S6.trans S7) ⟨e, rfl, (fun w => by rw [w, S6 _ _ hacc5] at he0; cases he0), he⟩
  rw [filter_true] at hp
  rcases hp with _ | ⟨⟨e1, rfl, _, he1⟩, hp⟩
  rcases hp with _ | ⟨⟨e2, rfl, _, he2⟩, hp⟩
  cases hp
  have S05 := S04.trans S5
  have hD5 := S05 _ _ hD
  have h15 := S05 _ _ hd1
  have h25 := S05 _ _ hd2
  have hsl : (dayF nm xs ++ semi).length ≤ 20202 ∧ (dayF nm xs ++ semi ++ dayF nm ys).length ≤ 50000 := by
    have a1 := day_len ok xk
    have a2 := day_len ok yk
    have a3 := semi_len
    rw [← cps_len] at a1 a2 a3
    rw [← cps_len, ← cps_len, cps_app, cps_app, cps_app, List.length_append, List.length_append, List.length_append, a3]
    constructor <;> omega
  have hxl := xk.1
  have hyl := yk.1
  have hcat : xs.map V.int ++ ys.map V.int = (xs ++ ys).map V.int := List.map_append.symm
  try dsimp only [gName]
  refine ⟨_, rfl, _, rfl, D, _, _, _, rfl, rfl, SqL.of hD5, rfl, n, d1, nm, xs, rfl, S05.seq hn, SqL.of h15, ok, xk, fun H6 S6 => ⟨_, _, rfl, rfl, Nat.le_trans hsl.1 (by decide), _, rfl, _, rfl, D, _, _, _, rfl, rfl, SqL.of (S6 _ _ hD5), rfl, n, d2, nm, ys, rfl, (S05.trans S6).seq hn, SqL.of (S6 _ _ h25), ok, yk, fun H7 S7 => ⟨_, _, rfl, rfl, Nat.le_trans hsl.2 (by decide), ?_⟩⟩⟩
  rw [← day_glue nm xne yne]
  have S57 := S6.trans S7
  try dsimp only [gName]
  refine seq_if (b := false) (lookOr (c := false) (d := false) (fun Q h => ⟨_, rfl, _, rfl, n, nm, xs ++ ys, _, rfl, rfl, (S05.trans S57).seq hn, ok, xyk, fun r H8 S8 hr0 hr => ?_⟩) fun _ H8 S8 => fun Q h => ?_) fun H8 S8 => iteF ?_
  · have S58 := S57.trans S8
    refine ⟨_, rfl, D, _, _, _, rfl, rfl, SqL.of (S58 _ _ hD5), rfl, _, rfl, D, _, _, _, rfl, rfl, SqL.of (S58 _ _ hD5), rfl, d1, d2, _, _, rfl, rfl, S58 _ _ h15, S58 _ _ h25, (by rw [List.length_map, List.length_map]; exact Nat.le_trans (m := 200) (by omega) (by decide)), fun p hp => ?_⟩
    rw [hcat]
    exact ne_ints (SqL.of (same_new hp _ _ _ hr)) (SqL.of upd_same) (by rw [decide_eq_true rfl]; exact ⟨_, rfl, h _ (S8.trans (same_new hp _))⟩)
  · have S58 := S57.trans S8
    refine ⟨_, rfl, _, rfl, D, _, _, _, rfl, rfl, SqL.of (S58 _ _ hD5), rfl, _, rfl, D, _, _, _, rfl, rfl, SqL.of (S58 _ _ hD5), rfl, d1, d2, _, _, rfl, rfl, S58 _ _ h15, S58 _ _ h25, (by rw [List.length_map, List.length_map]; exact Nat.le_trans (m := 200) (by omega) (by decide)), fun p hp => ?_⟩
    rw [hcat]
    exact ⟨n, p, nm, xs ++ ys, rfl, ((S05.trans S58).trans (same_new hp _)).seq hn, SqL.of upd_same, ok, xyk, fun H9 S9 => ⟨_, rfl, ne_str' (h _ ((same_new hp _).trans S9))⟩⟩
  dsimp only [tNext]
  have S58 := S57.trans S8
  refine ⟨_, rfl, _, rfl, dTwo xs ys, dTwo xs ys, dr_two (S58 _ _ her) (SqL.of (S58 _ _ he1)) (SqL.of (S58 _ _ he2)), dr_two (S58 _ _ hD5) (SqL.of (S58 _ _ h15)) (SqL.of (S58 _ _ h25)), shaped_two xs ys, shaped_two xs ys, ?_⟩
  rw [eqv_two]
  exact q _ (S05.trans S58)

end
end OL.Q40

namespace OL.Q40
open PySem L2 OL
section
variable {P : Program} {w : World} {K : PySem.W.Frag} {mg : Str → Option Value} {base : Heap} {f : Addr} {fd : FuncData} {k : Nat}
theorem scMixed : FnScope ["_law_cell", "_law_k", "_law_number"] ["_law_cell", "_law_k"] (defScope sMixed) := ⟨rfl, rfl, rfl, by decide +kernel, rfl, by decide +kernel, by decide +kernel⟩
theorem ok_mixed (F : Fun K "_law_mixed" "_law_mixed" sMixed f fd) (b : Binds K fd ["_law_cell", "_law_k"] []) (m : mg "_law_mixed" = some (.ref f)) : Dfn P w K mg base (k + 1) "_law_mixed" ["_law_cell", "_law_k"] spMixed := by
  refine .of F b m scMixed (fun vs H Q E h => ?_) (fun cdv A outer s H vs Q E hr h => ?_)
  · obtain ⟨c, k, rfl, _⟩ := h; rfl
  obtain ⟨c, i, rfl, q⟩ := h
  refine ⟨_, pss_cons (ps_set (i := 2) scMixed.nd rfl (Or.inl rfl) (pe_op op_mod (pe_op op_add (pe_op op_add (pe_op op_mul (pe_op op_mod (pv 0) pe_int) pe_int) (pe_op op_mul (pv 1) pe_int)) pe_int) pe_int))
    (pss_cons (ps_set (i := 2) scMixed.nd rfl (Or.inl rfl) (pe_op op_mod (pe_op op_mul (pv 2) (pv 2)) pe_int))
    (pss_one (ps_ret (pe_op op_fdiv (pe_op op_mod (pe_op op_mul (pv 2) (pv 2)) pe_int) pe_int)))), ?_⟩
  refine ⟨_, rfl, _, _, rfl, rfl, (by show (0 : Int) < 2147483647; decide), _, _, rfl, rfl, .inl (mod_ok _ (by decide) (by decide)), _, rfl, _, _, rfl, rfl, .inr ⟨by decide, by decide⟩, _, _, rfl, rfl, _, _, rfl, rfl, _, _, rfl, rfl, (by show (0 : Int) < 2147483647; decide), ?_⟩
  refine ⟨_, rfl, _, rfl, _, _, rfl, rfl, .inl (mod_ok _ (by decide) (by decide)), _, _, rfl, rfl, (by show (0 : Int) < 2147483629; decide), ?_⟩
  refine ⟨_, rfl, _, rfl, _, _, rfl, rfl, .inl (mod_ok _ (by decide) (by decide)), _, _, rfl, rfl, (by show (0 : Int) < 2147483587; decide), _, _, rfl, rfl, ⟨by decide, by decide⟩, q _ (Int.ediv_nonneg (Int.emod_nonneg _ (by decide)) (by decide))⟩

theorem scPile : FnScope ["_law_script", "_law_k", "_law_cell"] ["_law_script", "_law_k"] (defScope sPile) := ⟨rfl, rfl, rfl, by decide +kernel, rfl, by decide +kernel, by decide +kernel⟩
theorem ok_pile (F : Fun K "_law_pile" "_law_pile" sPile f fd) (b : Binds K fd ["_law_script", "_law_k"] []) (m : mg "_law_pile" = some (.ref f)) (ml : mg "len" = none) (mi : mg "int" = none) (ma : mg "abs" = none) : Dfn P w K mg base (k + 1) "_law_pile" ["_law_script", "_law_k"] (spPile K) := by
  refine .of F b m scPile (fun vs H Q E h => ?_) (fun cdv A outer s H vs Q E hr h => ?_)
  · obtain ⟨a, ns, k, rfl, _⟩ := h; rfl
  obtain ⟨a, ns, i, rfl, hS, h0, q⟩ := h
  refine ⟨_, pss_cons (ps_set (i := 2) scPile.nd rfl (Or.inl rfl) pe_int)
    (pss_mid (ps_if (pt_cmpR op_lt (pv 1) (pe_callB call_len_seq (by rfl) ml PySem.boot_len (pa_cons (pv 0) pa_nil)) (nomark _)) (pss_one (ps_set (i := 2) scPile.nd rfl (Or.inl rfl) (pe_ix ix_list (pv 0) (pv 1) (fun _ _ => rfl)))) pss_nil)
    (pss_one (ps_ret (pe_lst (pa_cons (pe_op op_mul (pv 2) (pe_callTy call_int1 (by rfl) mi PyProof.Rows.boot_int (pa_cons (pe_cmpR op_ge (pe_callB call_abs (by rfl) ma PyProof.Rows.boot_abs (pa_cons (pv 2) pa_nil)) (pe_op op_pow pe_int pe_int) (nomark _)) pa_nil))) (pa_cons (pv 2) (pa_cons (pe_op op_mul pe_int (pv 1)) pa_nil))))))), ?_⟩
  refine ⟨fun σ H' => ∃ c : Int, σ = [some (.ref a), some (.int i), some (.int c)] ∧ H' = H, ?_, ?_⟩
  · refine ⟨_, rfl, _, rfl, a, _, rfl, .inl hS, _, _, rfl, rfl, _, rfl, ?_⟩
    rw [List.length_map]
    refine ite2 (fun c => ?_) (fun c => ⟨_, rfl, rfl⟩)
    have c' : i < (ns.length : Int) := of_decide_eq_true c
    exact ⟨_, rfl, _, rfl, a, _, _, _, rfl, rfl, hS, atI_int h0 c', _, rfl, rfl⟩
  rintro σ H' ⟨c, rfl, rfl⟩
  refine ⟨_, rfl, _, rfl, _, rfl, _, _, rfl, rfl, ⟨by decide, by decide, by decide⟩, _, _, rfl, rfl, .inr ⟨_, rfl, _, _, rfl, rfl, mul01 _ _, _, rfl, _, rfl, _, _, rfl, rfl, .inl ⟨by decide, by decide⟩, (by show 3 ≤ sizeLine; decide), fun r hr0 => ?_⟩⟩
  exact q r _ _ _ _ (same_new hr0 _) hr0 upd_same

theorem scTake : FnScope ["_law_pile_here", "_law_many", "_law_digit"] ["_law_pile_here", "_law_many"] (defScope sTake) := ⟨rfl, rfl, rfl, by decide +kernel, rfl, by decide +kernel, by decide +kernel⟩
theorem ok_take (F : Fun K "_law_take" "_law_take" sTake f fd) (b : Binds K fd ["_law_pile_here", "_law_many"] []) (m : mg "_law_take" = some (.ref f)) (G : Dfn P w K mg base k "_law_mixed" ["_law_cell", "_law_k"] spMixed) : Dfn P w K mg base (k + 1) "_law_take" ["_law_pile_here", "_law_many"] spTake := by
  refine .of F b m scTake (fun vs H Q E h => ?_) (fun cdv A outer s H vs Q E hr h => ?_)
  · obtain ⟨p, m, x, y, z, rfl, _⟩ := h; rfl
  obtain ⟨p, n, x, y, z, rfl, n0, n1, hp, q⟩ := h
  refine ⟨_, pss_cons (ps_if (pt_cmpR op_in_seq (pe_ix ix_list (pv 0) pe_int (fun _ _ => rfl)) (pe_lst (pa_cons pe_int (pa_cons (pe_un un_neg pe_int) pa_nil))) (by rfl))
      (pss_cons (ps_asg (pe_op op_add (pe_ix ix_list (pv 0) pe_int (fun _ _ => rfl)) pe_int) (pg_sub (pv 0) pe_int set_list))
        (pss_one (ps_ret (pe_op op_mod (pe_def G hr (Nat.le_refl _) rfl (pa_cons (pe_ix ix_list (pv 0) pe_int (fun _ _ => rfl)) (pa_cons (pe_ix ix_list (pv 0) pe_int (fun _ _ => rfl)) pa_nil))) (pv 1))))) pss_nil)
    (pss_cons (ps_set (i := 2) scTake.nd rfl (Or.inl rfl) (pe_op op_mod (pe_ix ix_list (pv 0) pe_int (fun _ _ => rfl)) (pv 1)))
    (pss_cons (ps_asg (pe_op op_fdiv (pe_ix ix_list (pv 0) pe_int (fun _ _ => rfl)) (pv 1)) (pg_sub (pv 0) pe_int set_list))
    (pss_one (ps_ret (pv 2))))), ?_⟩
  refine ⟨_, rfl, p, _, _, _, rfl, rfl, SqL.of hp, rfl, _, rfl, (by show 2 ≤ sizeLine; decide), fun r hr0 => ⟨r, _, rfl, .inl (SqL.of upd_same), rfl, rfl, _, rfl, ?_⟩⟩
  have S1 := same_new hr0 (.lst [.int 0, .int (-1)])
  have hp1 := S1 _ _ hp
  refine ite2 (fun c => ?_) (fun c => ?_)
  · refine ⟨_, rfl, p, _, _, _, rfl, rfl, SqL.of hp1, rfl, _, _, rfl, rfl, _, rfl, p, _, _, 2, rfl, rfl, hp1, rfl, ?_⟩
    refine ⟨_, rfl, p, _, _, _, rfl, rfl, SqL.of upd_same, rfl, _, rfl, p, _, _, _, rfl, rfl, SqL.of upd_same, rfl, _, _, rfl, fun y0 hy0 => ?_⟩
    refine ⟨_, rfl, _, _, rfl, rfl, n0, ?_⟩
    exact q _ x y (z + 1) _ (Int.emod_nonneg _ (by omega)) (Int.emod_lt_of_pos _ n0) (S1.b.trans sameB_upd) upd_same
  · refine ⟨_, rfl, p, _, _, _, rfl, rfl, SqL.of hp1, rfl, _, rfl, _, _, rfl, rfl, n0, ?_⟩
    refine ⟨_, rfl, p, _, _, _, rfl, rfl, SqL.of hp1, rfl, _, rfl, _, _, rfl, rfl, ⟨n0, n1⟩, _, rfl, p, _, _, 0, rfl, rfl, hp1, rfl, ?_⟩
    exact ⟨_, rfl, q _ (x / n) y z _ (Int.emod_nonneg _ (by omega)) (Int.emod_lt_of_pos _ n0) (S1.b.trans sameB_upd) upd_same⟩


abbrev n_L_order : List Str := ["_law_pile_here", "_law_some", "_law_left", "_law_found"]
theorem sc_L_order : FnScope n_L_order ["_law_pile_here", "_law_some"] (defScope s_L_order) := ⟨rfl, rfl, rfl, by decide +kernel, rfl, by decide +kernel, by decide +kernel⟩
set_option maxHeartbeats 1000000 in
theorem ok_L_order (F : Fun K "_law_order" "_law_order" s_L_order f fd) (b : Binds K fd ["_law_pile_here", "_law_some"] []) (m : mg "_law_order" = some (.ref f)) (M_list : mg "list" = none) (M_len : mg "len" = none) (G_L_take : Dfn P w K mg base k "_law_take" ["_law_pile_here", "_law_many"] spTake) : Dfn P w K mg base (k + 1) "_law_order" ["_law_pile_here", "_law_some"] spOrderS := by
  refine .of F b m sc_L_order (fun vs H Q E h => ?_) (fun cdv A outer s H vs Q E hr h => ?_)
  · obtain ⟨p, l, x, y, z, bs, rfl, hp, hl, pl, hz, hcp, q⟩ := h; rfl
  obtain ⟨p, l, x, y, z, bs, rfl, hp, hl, pl, hz, hcp, q⟩ := h
  have nd := sc_L_order.nd
  have le := Nat.le_refl k
  refine ⟨_, pss_cons (ps_set (i := 2) nd rfl (Or.inl rfl) (pe_callTy call_list_of (by rfl) M_list PyProof.Rows.boot_list (pa_cons (pv 1) pa_nil)))
    (pss_cons (ps_set (i := 3) nd rfl (Or.inl rfl) (pe_lst pa_nil))
    (pss_cons (ps_while PassesOwn.never (pt_cmpR (op_neD hr) (pv 2) (pe_lst pa_nil) (nomark _))
      (pss_one (ps_expr (pe_bm PySem.F.plainAttrs_list PySem.F.slot_list_append PySem.F.type_list_append mt_append (pv 3) (pa_cons (pe_bm PySem.F.plainAttrs_list PySem.F.slot_list_pop PySem.F.type_list_pop mt_popAt (pv 2) (pa_cons (pe_def G_L_take hr le rfl (pa_cons (pv 0) (pa_cons (pe_callB call_len_seq (by rfl) M_len PySem.boot_len (pa_cons (pv 2) pa_nil)) pa_nil))) pa_nil)) pa_nil)))))
    (pss_one (ps_ret (pv 3))))), ?_⟩
  refine ⟨_, rfl, l, _, rfl, .inl (SqL.of hl), fun lf hlf => ?_⟩
  try dsimp only [gName]
  have S1 := same_new hlf (.lst (bs.map V.str))
  refine ⟨(by show 0 ≤ sizeLine; decide), fun fo hfo => ?_⟩
  have S2 := same_new hfo (.lst [])
  have hfl : fo ≠ lf := fun e => by rw [e, upd_same] at hfo; cases hfo
  have S02 := S1.trans S2
  have hp2 := S02 _ _ hp
  have hlf2 : upd (upd H lf (.lst (bs.map V.str))) fo (.lst []) lf = some (.lst (bs.map V.str)) := S2 _ _ upd_same
  have hfo2 : upd (upd H lf (.lst (bs.map V.str))) fo (.lst []) fo = some (.lst []) := upd_same
  have hpl : p ≠ lf := fun e => by rw [e, hlf] at hp; cases hp
  have hpf : p ≠ fo := fun e => by rw [← e, S1 _ _ hp] at hfo; cases hfo
  have hfoH : H fo = none := S1.free hfo
  generalize upd (upd H lf (.lst (bs.map V.str))) fo (.lst []) = H2 at S02 hp2 hlf2 hfo2 ⊢
  try dsimp only [gName]
  refine while_by (fun σ H' => ∃ (ls fs : List Str) (x y z : Int), σ = [some (.ref p), some (.ref l), some (.ref lf), some (.ref fo)] ∧ SameB p H H' ∧ H' lf = some (.lst (ls.map V.str)) ∧ H' fo = some (.lst (fs.map V.str)) ∧ H' p = some (.lst [.int x, .int y, .int z]) ∧ (fs ++ ls).Perm bs)
    (fun σ H' => (listHS H' lf).length) ⟨bs, [], x, y, z, rfl, S02.b, hlf2, hfo2, hp2, List.Perm.refl _⟩ ?_ ?_
  · rintro σ H3 ⟨ls, fs, x, y, z, rfl, SB3, hlf3, hfo3, hp3, hpm⟩
    have hln := hpm.length_eq
    rw [List.length_append] at hln
    have hcl : ∀ s ∈ ls, CpOk s := fun s hs => hcp s (hpm.mem_iff.mp (List.mem_append_right _ hs))
    refine ⟨_, rfl, ne_nilS hlf3 hcl fun H4 S4 => ⟨_, rfl, ?_⟩⟩
    have hlf4 := S4 _ _ hlf3
    have hfo4 := S4 _ _ hfo3
    have hp4 := S4 _ _ hp3
    cases ls with
    | nil =>
      refine iteF ⟨_, rfl, q fo fs x y z H4 (SB3.trans S4.b) hfoH hfo4 ?_ hp4⟩
      rw [List.append_nil] at hpm; exact hpm
    | cons l0 ls0 =>
      refine iteT ?_
      have hL : 0 < (l0 :: ls0).length := Nat.succ_pos _
      have hμ : (listHS H3 lf).length = (l0 :: ls0).length := by unfold listHS; rw [hlf3]; simp
      generalize hls : l0 :: ls0 = ls at hlf4 hpm hln hL hμ
      refine ⟨_, rfl, .inl ⟨rfl, _, SqL.of hfo4⟩, _, rfl, .inl ⟨rfl, _, SqL.of hlf4⟩, _, rfl, _, rfl, lf, _, rfl, .inl (SqL.of hlf4), p, _, x, y, z, rfl, (by rw [List.length_map]; omega), (by rw [List.length_map]; omega), hp4, fun d x' y' z' H5 d0 d1 SB5 hp5 => ?_⟩
      rw [List.length_map] at d1
      have hlf5 := SB5 _ _ hpl.symm hlf4
      have hfo5 := SB5 _ _ hpf.symm hfo4
      have hk : d.toNat < ls.length := by omega
      refine ⟨lf, _, d, d.toNat, .str (ls.getD d.toNat ""), rfl, rfl, hlf5, by omega, by omega, ?_, ?_, ?_⟩
      · rw [List.length_map]; exact seqIdx_natS d0 d1
      · rw [List.getElem?_map, List.getElem?_eq_getElem hk, List.getD_eq_getElem?_getD, List.getElem?_eq_getElem hk]; rfl
      · rw [erase_strs]
        have hfo6 : upd H5 lf (.lst ((ls.eraseIdx d.toNat).map V.str)) fo = some (.lst (fs.map V.str)) := by rw [upd_ne hfl]; exact hfo5
        refine ⟨fo, _, _, rfl, rfl, hfo6, (by rw [List.length_map]; exact small1000 (by omega)), ?_⟩
        refine ⟨⟨ls.eraseIdx d.toNat, fs ++ [ls.getD d.toNat ""], x', y', z', rfl, ?_, ?_, ?_, ?_, ?_⟩, ?_⟩
        · intro u o hu e
          have hul : u ≠ lf := fun z => by rw [z, hlf] at e; cases e
          have huf : u ≠ fo := fun z => by rw [z, hfoH] at e; cases e
          rw [upd_ne huf, upd_ne hul]
          exact SB5 _ _ hu (S4 _ _ (SB3 _ _ hu e))
        · rw [upd_ne hfl.symm]; exact upd_same
        · rw [upd_same, List.map_append]; rfl
        · rw [upd_ne hpf, upd_ne hpl]; exact hp5
        · rw [List.append_assoc]
          refine (List.Perm.append_left fs ?_).trans hpm
          exact pick_permS hk
        · have e1 : listHS (upd (upd H5 lf (.lst ((ls.eraseIdx d.toNat).map V.str))) fo (.lst (fs.map V.str ++ [V.str (ls.getD d.toNat "")]))) lf = (ls.eraseIdx d.toNat).map V.str := by unfold listHS; rw [upd_ne hfl.symm, upd_same]
          show (listHS (upd (upd H5 lf (.lst ((ls.eraseIdx d.toNat).map V.str))) fo (.lst (fs.map V.str ++ [V.str (ls.getD d.toNat "")]))) lf).length < (listHS H3 lf).length
          rw [e1, hμ, List.length_map, List.length_eraseIdx_of_lt hk]
          omega
  · intro σ H Q Q' hQ h
    obtain ⟨v, e, hz', h⟩ := h
    exact ⟨v, e, hz', fun u hu => by obtain ⟨d, e', h1, h2, h3, h4, b, hb, hq⟩ := h u hu; exact ⟨d, e', h1, h2, h3, h4, b, hb, hQ _ _ hq⟩⟩
abbrev n_L_lot : List Str := ["_law_pile_here", "_law_names_here", "_law_lot_here", "_law_kind"]
theorem sc_L_lot : FnScope n_L_lot ["_law_pile_here", "_law_names_here"] (defScope s_L_lot) := ⟨rfl, rfl, rfl, by decide +kernel, rfl, by decide +kernel, by decide +kernel⟩
theorem ok_L_lot (F : Fun K "_law_lot" "_law_lot" s_L_lot f fd) (b : Binds K fd ["_law_pile_here", "_law_names_here"] []) (m : mg "_law_lot" = some (.ref f)) (M_len : mg "len" = none) (G_L_take : Dfn P w K mg base k "_law_take" ["_law_pile_here", "_law_many"] spTake) : Dfn P w K mg base (k + 1) "_law_lot" ["_law_pile_here", "_law_names_here"] (spLotN K) := by
  refine .of F b m sc_L_lot (fun vs H Q E h => ?_) (fun cdv A outer s H vs Q E hr h => ?_)
  · obtain ⟨p, n, nm, rfl, pn, hp, hn, n1, n12, q⟩ := h; rfl
  obtain ⟨p, n, nm, rfl, pn, hp, hn, n1, n12, q⟩ := h
  have nd := sc_L_lot.nd
  have le := Nat.le_refl k
  refine ⟨_, pss_cons (ps_set (i := 2) nd rfl (Or.inl rfl) (pe_def G_L_take hr le rfl (pa_cons (pv 0) (pa_cons (pe_op op_shl pe_int (pe_callB call_len_seq (by rfl) M_len PySem.boot_len (pa_cons (pv 1) pa_nil))) pa_nil))))
    (pss_cons (ps_set (i := 3) nd rfl (Or.inl rfl) (pe_def G_L_take hr le rfl (pa_cons (pv 0) (pa_cons pe_int pa_nil))))
    (pss_cons (ps_if (pt_cmpR op_eq (pv 3) pe_int (nomark _)) (pss_one (ps_ret (pe_ix ix_list (pe_lst (pa_cons pe_int (pa_cons (pe_op op_sub (pe_op op_shl pe_int (pe_callB call_len_seq (by rfl) M_len PySem.boot_len (pa_cons (pv 1) pa_nil))) pe_int) pa_nil))) (pe_def G_L_take hr le rfl (pa_cons (pv 0) (pa_cons pe_int pa_nil))) (fun _ _ => rfl)))) pss_nil)
    (pss_cons (ps_if (pt_cmpR op_eq (pv 3) pe_int (nomark _)) (pss_one (ps_ret (pe_op op_shl pe_int (pe_def G_L_take hr le rfl (pa_cons (pv 0) (pa_cons (pe_callB call_len_seq (by rfl) M_len PySem.boot_len (pa_cons (pv 1) pa_nil)) pa_nil)))))) pss_nil)
    (pss_one (ps_ret (pv 2)))))), ?_⟩
  obtain ⟨x, y, z, hp⟩ := hp
  have hpw : (2 : Nat) ^ nm.length ≤ 4096 := Nat.pow_le_pow_right (n := 2) (j := 12) (by decide) n12
  have hpp : 0 < (2 : Nat) ^ nm.length := Nat.pow_pos (by decide)
  have hpc : (2 : Int) ^ nm.length = ((2 ^ nm.length : Nat) : Int) := by simp
  have hn' : ∀ {H' : Hp}, SameB p H H' → H' n = some (.lst (nm.map V.str)) := fun S => S _ _ pn.symm hn
  refine ⟨_, rfl, _, rfl, n, _, rfl, .inl (SqL.of hn), _, _, rfl, rfl, ⟨by omega, by rw [List.length_map]; omega, by decide⟩, p, _, x, y, z, rfl, ?_, ?_, hp, fun d x1 y1 z1 H1 d0 d1 SB1 hp1 => ?_⟩
  · rw [List.length_map, Int.toNat_natCast]; omega
  · rw [List.length_map, Int.toNat_natCast]; omega
  rw [List.length_map, Int.toNat_natCast] at d1
  try dsimp only [gName]
  refine ⟨_, rfl, p, 5, x1, y1, z1, rfl, by decide, by decide, hp1, fun kd x2 y2 z2 H2 k0 k1 SB2 hp2 => ?_⟩
  have SB12 := SB1.trans SB2
  try dsimp only [gName]
  refine seq_if (b := decide (V.int kd = V.int 0)) (.pure fun Q h => ⟨_, rfl, rfl, _, rfl, h⟩) fun H3 S3 => ?_
  have SB13 := SB12.trans S3.b
  have hp3 := S3 _ _ hp2
  refine ite2 (fun c => ?_) (fun c => ?_)
  · refine ⟨_, rfl, n, _, rfl, .inl (SqL.of (hn' SB13)), _, _, rfl, rfl, ⟨by omega, by rw [List.length_map]; omega, by decide⟩, _, _, rfl, rfl, (by show 2 ≤ sizeLine; decide), fun dl hdl => ?_⟩
    rw [List.length_map, Int.toNat_natCast]
    have Sd := same_new hdl (.lst [.int 0, .int (1 * 2 ^ nm.length - 1)])
    have dlp : dl ≠ p := fun e => by rw [e, hp3] at hdl; cases hdl
    have hdl4 : upd H3 dl (.lst [.int 0, .int (1 * 2 ^ nm.length - 1)]) dl = some (.lst (([0, 1 * 2 ^ nm.length - 1] : List Int).map V.int)) := upd_same
    have hp4 := Sd _ _ hp3
    generalize upd H3 dl (.lst [.int 0, .int (1 * 2 ^ nm.length - 1)]) = H4 at Sd hdl4 hp4 ⊢
    refine ⟨_, rfl, p, 2, x2, y2, z2, rfl, by decide, by decide, hp4, fun e x5 y5 z5 H5 e0 e1 SB5 hp5 => ⟨dl, _, _, _, rfl, rfl, SqL.of (SB5 _ _ dlp hdl4), atI_map (ns := [0, 1 * 2 ^ nm.length - 1]) e0 (by simpa using e1), ?_⟩⟩
    have hlo : 0 ≤ ([0, 1 * 2 ^ nm.length - 1] : List Int).getD e.toNat 0 ∧ ([0, 1 * 2 ^ nm.length - 1] : List Int).getD e.toNat 0 < 2 ^ nm.length := by
      have : e.toNat = 0 ∨ e.toNat = 1 := by omega
      rcases this with w | w
      · rw [w]; show (0 : Int) ≤ 0 ∧ (0 : Int) < _; omega
      · rw [w]; show (0 : Int) ≤ 1 * 2 ^ nm.length - 1 ∧ (1 * 2 ^ nm.length - 1 : Int) < _; omega
    exact q _ _ (SB13.trans (Sd.b.trans SB5)) hlo.1 hlo.2 ⟨_, _, _, hp5⟩
  dsimp only [tNext]
  refine seq_if (b := decide (V.int kd = V.int 1)) (.pure fun Q h => ⟨_, rfl, rfl, _, rfl, h⟩) fun H4 S4 => ?_
  have SB14 := SB13.trans S4.b
  have hp4 := S4 _ _ hp3
  refine ite2 (fun c => ?_) (fun c => ⟨_, rfl, q _ _ SB14 d0 (by omega) ⟨_, _, _, hp4⟩⟩)
  refine ⟨_, rfl, _, rfl, n, _, rfl, .inl (SqL.of (hn' SB14)), p, _, x2, y2, z2, rfl, (by rw [List.length_map]; omega), (by rw [List.length_map]; omega), hp4, fun e x5 y5 z5 H5 e0 e1 SB5 hp5 => ⟨_, _, rfl, rfl, ⟨e0, by rw [List.length_map] at e1; omega, by decide⟩, ?_⟩⟩
  rw [List.length_map] at e1
  have hle : (2 : Nat) ^ e.toNat < 2 ^ nm.length := Nat.pow_lt_pow_right (by decide) (by omega)
  have hec : (2 : Int) ^ e.toNat = ((2 ^ e.toNat : Nat) : Int) := by simp
  have hep : (0 : Int) < 2 ^ e.toNat := Int.pow_pos (by decide)
  have hlt : (2 : Int) ^ e.toNat < 2 ^ nm.length := by rw [hec, hpc]; exact_mod_cast hle
  exact q _ _ (SB14.trans SB5) (by omega) (by omega) ⟨_, _, _, hp5⟩
end
end OL.Q40

namespace OL.Q40
open PySem L2 OL
section
variable {P : Program} {w : World} {K : PySem.W.Frag} {mg : Str → Option Value} {base : Heap} {f : Addr} {fd : FuncData} {k : Nat}
theorem strs_snoc (ss : List Str) (x : Str) : (ss ++ [x]).map V.str = ss.map V.str ++ [.str x] := by rw [List.map_append]; rfl
theorem join_nil_len {ss : List Str} (h : ∀ s ∈ ss, ∃ c, s = ⟨#[c]⟩ ∧ letter c) : cps (Txt.join "" ss) = ss.flatMap cps ∧ (∀ c ∈ cps (Txt.join "" ss), letter c) ∧ (cps (Txt.join "" ss)).length = ss.length := by
  have e : cps (Txt.join "" ss) = ss.flatMap cps := by
    unfold Txt.join
    rw [StrLaws.glued_eq_join]
    induction ss with
    | nil => rfl
    | cons x r ih =>
      cases r with
      | nil => show cps x = _; simp
      | cons y r =>
        have ih := ih fun s hs => h s (.tail _ hs)
        show cps (x ++ "" ++ Str.join "" (y :: r)) = _
        rw [cps_app, cps_app, ih, List.flatMap_cons (x := x)]
        have : cps ("" : Str) = [] := by decide +kernel
        rw [this, List.append_nil]
  refine ⟨e, fun c hc => ?_, ?_⟩
  · rw [e] at hc
    obtain ⟨s, hs, hc⟩ := List.mem_flatMap.mp hc
    obtain ⟨d, rfl, hd⟩ := h s hs
    have : c = d := by simpa [cps] using hc
    rw [this]; exact hd
  · rw [e]
    clear e
    induction ss with
    | nil => rfl
    | cons x r ih =>
      rw [List.flatMap_cons, List.length_append, ih fun s hs => h s (.tail _ hs), List.length_cons]
      obtain ⟨d, rfl, _⟩ := h x (.head _)
      show 1 + r.length = _
      omega
abbrev n_L_names : List Str := ["_law_script", "_law_start", "_law_pile_here", "_law_letters", "_law_many", "_law_kind", "_law_base", "_law_at", "_law_first", "_law_names_here", "_law_word"]
theorem sc_L_names : FnScope n_L_names ["_law_script", "_law_start"] (defScope s_L_names) := ⟨rfl, rfl, rfl, by decide +kernel, rfl, by decide +kernel, by decide +kernel⟩
theorem nd_L_names_0 : (["_law_k", "_law_letters", "_law_pile_here"] : List Str).Nodup := by decide +kernel
theorem nd_L_names_1 : (["_law_k", "_law_base", "_law_at", "_law_letters", "_law_first"] : List Str).Nodup := by decide +kernel
theorem nd_L_names_2 : (["_law_k", "_law_word"] : List Str).Nodup := by decide +kernel
theorem nd_L_names_3 : (["_law_name"] : List Str).Nodup := by decide +kernel
set_option maxHeartbeats 4000000 in
theorem ok_L_names (F : Fun K "_law_names" "_law_names" s_L_names f fd) (b : Binds K fd ["_law_script", "_law_start"] []) (m : mg "_law_names" = some (.ref f)) (M_range : mg "range" = none) (M_len : mg "len" = none) (M_min : mg "min" = none) (G_L_pile : Dfn P w K mg base k "_law_pile" ["_law_script", "_law_k"] (spPile K)) (G_L_take : Dfn P w K mg base k "_law_take" ["_law_pile_here", "_law_many"] spTake) (G_L_order : Dfn P w K mg base k "_law_order" ["_law_pile_here", "_law_some"] spOrderS) : Dfn P w K mg base (k + 1) "_law_names" ["_law_script", "_law_start"] (spNames K) := by
  refine .of F b m sc_L_names (fun vs H Q E h => ?_) (fun cdv A outer s H vs Q E hr h => ?_)
  · obtain ⟨a, ns, k0, rfl, hS, hk0, q⟩ := h; rfl
  obtain ⟨a, ns, k0, rfl, hS, hk0, q⟩ := h
  have nd := sc_L_names.nd
  have le := Nat.le_refl k
  refine ⟨_, pss_cons (ps_set (i := 2) nd rfl (Or.inr rfl) (pe_def G_L_pile hr le rfl (pa_cons (pv 0) (pa_cons (pv 1) pa_nil))))
    (pss_cons (ps_set (i := 3) nd rfl (Or.inr rfl) pe_str)
    (pss_cons (ps_set (i := 4) nd rfl (Or.inl rfl) (pe_op op_add pe_int (pe_def G_L_take hr le rfl (pa_cons (pv 2) (pa_cons pe_int pa_nil)))))
    (pss_cons (ps_set (i := 5) nd rfl (Or.inl rfl) (pe_def G_L_take hr le rfl (pa_cons (pv 2) (pa_cons pe_int pa_nil))))
    (pss_cons (ps_set (i := 6) nd rfl (Or.inr rfl) (pe_bm PySem.F.plainAttrs_str PySem.F.slot_str_join PySem.F.type_str_join mt_join pe_str (pa_cons (pe_compC ["_law_k"] [3, 2] (sc := defScope s_L_names) (N := n_L_names) (.inl rfl) rfl ⟨rfl, by decide +kernel, by decide +kernel, by decide +kernel, by decide +kernel⟩ rfl (pi_range1 rfl M_range (pa_cons (pe_def G_L_take hr le rfl (pa_cons (pv 2) (pa_cons pe_int pa_nil))) pa_nil)) (fun cl s H C fp => (pg_name (i := 0) nd_L_names_0 rfl (Or.inl rfl))) (fun cl s H C fp => pifs_nil) (fun cl s H C fp => (pe_ix (ix_strK K rfl) (pv 1) (pe_def G_L_take hr le rfl (pa_cons (pv 2) (pa_cons pe_int pa_nil))) (fun _ _ => rfl)))) pa_nil)))
    (pss_cons (ps_set (i := 7) nd rfl (Or.inr rfl) (pe_def G_L_take hr le rfl (pa_cons (pv 2) (pa_cons (pe_op op_add (pe_callB call_len_str (by rfl) M_len PySem.boot_len (pa_cons (pv 6) pa_nil)) pe_int) pa_nil))))
    (pss_cons (ps_set (i := 8) nd rfl (Or.inr rfl) (pe_def G_L_take hr le rfl (pa_cons (pv 2) (pa_cons pe_int pa_nil))))
    (pss_cons (ps_setCompC (i := 9) nd rfl rfl ["_law_k"] [6, 7, 3, 8] (sc := defScope s_L_names) (N := n_L_names) (.inl rfl) rfl ⟨rfl, by decide +kernel, by decide +kernel, by decide +kernel, by decide +kernel⟩ rfl (pi_range1 rfl M_range (pa_cons (pv 4) pa_nil)) (fun cl s H C fp => (pg_name (i := 0) nd_L_names_1 rfl (Or.inl rfl))) (fun cl s H C fp => pifs_nil) (fun cl s H C fp => (pe_op op_catS (pe_op op_catS (pe_slice (sl_SK K rfl) (pv 1) po_none (po_some (pv 2))) (pe_ix (ix_strK K rfl) (pv 3) (pe_op op_mod (pe_op op_add (pv 4) (pe_op op_mul pe_int (pv 0))) pe_int) (fun _ _ => rfl))) (pe_slice (sl_SK K rfl) (pv 1) (po_some (pv 2)) po_none))) rfl)
    (pss_mid (ps_if (pt_cmpR op_eq (pv 5) pe_int (nomark _)) (pss_cons (ps_set (i := 10) nd rfl (Or.inr rfl) (pe_slice sl_S (pe_op op_catS (pv 6) pe_str) po_none (po_some pe_int)))
      (pss_one (ps_setCompC (i := 9) nd rfl rfl ["_law_k"] [10] (sc := defScope s_L_names) (N := n_L_names) (.inl rfl) rfl ⟨rfl, by decide +kernel, by decide +kernel, by decide +kernel, by decide +kernel⟩ rfl (pi_range1 rfl M_range (pa_cons (pe_callB (call_min2 rfl) (by rfl) M_min PyProof.Rows.boot_min (pa_cons (pv 4) (pa_cons pe_int pa_nil))) pa_nil)) (fun cl s H C fp => (pg_name (i := 0) nd_L_names_2 rfl (Or.inl rfl))) (fun cl s H C fp => pifs_nil) (fun cl s H C fp => (pe_slice (sl_SK K rfl) (pv 1) po_none (po_some (pe_op op_add (pv 0) pe_int)))) rfl))) pss_nil)
    (pss_cons (ps_setCompC (i := 9) nd rfl rfl ["_law_name"] [] (sc := defScope s_L_names) (N := n_L_names) (.inl rfl) rfl ⟨rfl, by decide +kernel, by decide +kernel, by decide +kernel, by decide +kernel⟩ rfl (pi_list (pv 9)) (fun cl s H C fp => (pg_name (i := 0) nd_L_names_3 rfl (Or.inl rfl))) (fun cl s H C fp => pifs_one (pt_cmpR op_ne (pv 0) pe_str (nomark _))) (fun cl s H C fp => (pv 0)) rfl)
    (pss_mid (ps_if (pt_cmpR (op_eqD hr) (pv 9) (pe_lst pa_nil) (nomark _)) (pss_one (ps_set (i := 9) nd rfl (Or.inl rfl) (pe_lst (pa_cons pe_str pa_nil)))) pss_nil)
    (pss_one (ps_ret (pe_def G_L_order hr le rfl (pa_cons (pv 2) (pa_cons (pv 9) pa_nil))))))))))))))), ?_⟩
  refine ⟨_, rfl, _, rfl, a, ns, k0, rfl, hS, hk0, fun p H1 x y z S1 hp0 hp1 => ?_⟩
  try dsimp only [gName]
  refine ⟨_, rfl, p, 12, x, y, z, rfl, by decide, by decide, hp1, fun d x1 y1 z1 H2 d0 d1 SB2 hp2 => ⟨_, _, rfl, rfl, ?_⟩⟩
  try dsimp only [gName]
  have hmm : 1 ≤ 1 + d ∧ 1 + d ≤ 12 := by omega
  generalize 1 + d = many at hmm ⊢
  refine ⟨_, rfl, p, 4, x1, y1, z1, rfl, by decide, by decide, hp2, fun kd x2 y2 z2 H3 kd0 kd1 SB3 hp3 => ?_⟩
  try dsimp only [gName]
  have SB13 := SB2.trans SB3
  refine ⟨rfl, _, rfl, p, 8, x2, y2, z2, rfl, by decide, by decide, hp3, fun bl x3 y3 z3 H4 b0 b1 SB4 hp4 => ⟨_, rfl, by omega, by omega, ?_⟩⟩
  have SB14 := SB13.trans SB4
  refine comp_rangeG (n := bl.toNat) (fun acc i ys H' => ∃ (ss : List Str) (x y z : Int), ys = ss.map V.str ∧ ss.length = i ∧ (∀ s ∈ ss, ∃ c, s = ⟨#[c]⟩ ∧ letter c) ∧ SameB p H4 H' ∧ H' p = some (.lst [.int x, .int y, .int z])) (fun acc hacc => ⟨[], x3, y3, z3, rfl, rfl, (fun s hs => nomatch hs), (same_new hacc _).b, same_new hacc _ _ _ hp4⟩) (fun acc i ys H' hacc hi hys h => ?_) (fun bx ys H5 hbx0 hbx h => ?_)
  · obtain ⟨ss, x5, y5, z5, rfl, hsl, hss, SB, hp5⟩ := h
    have accp : acc ≠ p := fun e => by rw [e, hp4] at hacc; cases hacc
    refine ⟨(Wk.refl _).set (by decide), yes_of ⟨_, rfl, _, rfl, p, 26, x5, y5, z5, rfl, by decide, by decide, hp5, fun e x6 y6 z6 H6 e0 e1 SB6 hp6 => ⟨_, _, _, rfl, rfl, (by decide +kernel), let_at e0 e1, ?_⟩⟩⟩
    refine cputG hi (SB6 _ _ accp hys) (by rw [List.length_map]; exact small1000 (by omega)) ⟨ss ++ [⟨#[97 + e.toNat]⟩], x6, y6, z6, (strs_snoc _ _).symm, by rw [List.length_append, hsl]; rfl, fun s hs => ?_, fun c o hc ho => ?_, ?_⟩
    · rcases List.mem_append.mp hs with w | w
      · exact hss s w
      · exact ⟨97 + e.toNat, List.mem_singleton.mp w, by unfold letter; omega⟩
    · rw [upd_ne (ne_of_none ho hacc)]; exact SB6 _ _ hc (SB _ _ hc ho)
    · rw [upd_ne (Ne.symm accp)]; exact hp6
  obtain ⟨ss, x5, y5, z5, rfl, hsl, hss, SB5, hp5⟩ := h
  obtain ⟨_, hlet, hln⟩ := join_nil_len hss
  have h0l : ("" : Str).length = 0 := by decide +kernel
  have hsz : (ss.map (·.length)).sum + ss.length * ("" : Str).length ≤ 16777216 := by
    rw [h0l, Nat.mul_zero, Nat.add_zero]
    have : ∀ {l : List Str}, (∀ s ∈ l, ∃ c, s = ⟨#[c]⟩ ∧ letter c) → (l.map (·.length)).sum = l.length := by
      intro l
      induction l with
      | nil => intro _; rfl
      | cons s l ih =>
        intro h
        rw [List.map_cons, List.sum_cons, ih fun y hy => h y (.tail _ hy), List.length_cons]
        obtain ⟨c, rfl, _⟩ := h s (.head _)
        show 1 + l.length = _
        omega
    rw [this hss]; omega
  refine ⟨_, bx, ss, rfl, rfl, SqL.of hbx, hsz, ?_⟩
  generalize hbase : Txt.join "" ss = bse at hlet hln
  have SB15 := SB14.trans SB5
  try dsimp only [gName]
  have hb7 : (cps bse).length ≤ 7 := by omega
  have hbsz : bse.length ≤ sizeLine := by rw [← cps_len]; exact Nat.le_trans hb7 (by decide)
  refine ⟨_, rfl, _, rfl, bse, rfl, hbsz, _, _, rfl, rfl, p, _, x5, y5, z5, rfl, by omega, (by rw [← cps_len]; omega), hp5, fun at_ x6 y6 z6 H6 at0 at1 SB6 hp6 => ?_⟩
  rw [← cps_len] at at1
  try dsimp only [gName]
  refine ⟨_, rfl, p, 26, x6, y6, z6, rfl, by decide, by decide, hp6, fun fi x7 y7 z7 H7 f0 f1 SB7 hp7 => ?_⟩
  have SB17 := SB15.trans (SB6.trans SB7)
  have at2 : at_ ≤ (cps bse).length := by omega
  have s1 : (Txt.slice bse none (some at_)).length ≤ 7 := by rw [← cps_len, cps_upto at0 at2, List.length_take]; omega
  have s2 : (Txt.slice bse (some at_) none).length ≤ 7 := by rw [← cps_len, cps_from at0 at2, List.length_drop]; omega
  have s3 : ∀ k : Nat, (Txt.slice bse none (some at_) ++ (⟨#[numL fi.toNat k]⟩ : Str)).length ≤ 8 := fun k => by rw [← cps_len, cps_app, List.length_append, cps_len]; show _ + 1 ≤ 8; omega
  have s4 : ∀ k : Nat, (nameS bse at_ fi.toNat k).length ≤ sizeLine := fun k => by
    have := (nameS_ok at0 at2 hlet hb7 fi.toNat k).le
    rw [cps_len] at this
    exact Nat.le_trans this (by decide)
  have big8 : ∀ {x : Nat}, x ≤ 8 → x ≤ sizeLine := fun h => Nat.le_trans h (by decide)
  try dsimp only [gName]
  refine ⟨_, rfl, _, rfl, by omega, by omega, compV_range (n := many.toNat) (fun _ => true) (fun k => .str (nameS bse at_ fi.toNat k)) (by omega) (fun k H8 hk S8 => turn_pick (y := .str (nameS bse at_ fi.toNat k)) look_yes (fun _ H9 S9 => .pure fun Q h => ?_) fun _ _ _ => rfl) (fun nA H8 hnA0 S8 hnA => ?_)⟩
  · have hnum : (fi + 7 * (k : Int)) % 26 = (((fi.toNat + 7 * k) % 26 : Nat) : Int) := by omega
    refine ⟨_, rfl, _, rfl, _, rfl, bse, rfl, hbsz, _, rfl, _, rfl, _, rfl, _, _, rfl, rfl, .inl ⟨by decide, by decide⟩, _, _, rfl, rfl, _, _, rfl, rfl, (by show (0 : Int) < 26; decide), _, _, _, rfl, rfl, (by decide +kernel), let_at (Int.emod_nonneg _ (by decide)) (Int.emod_lt_of_pos _ (by decide)), ?_⟩
    rw [hnum, Int.toNat_natCast]
    exact ⟨_, _, rfl, rfl, big8 (s3 k), _, rfl, _, rfl, _, rfl, bse, rfl, hbsz, _, _, rfl, rfl, s4 k, h⟩
  rw [filter_true] at hnA
  have pre0 : NamesPre ((List.range many.toNat).map (nameS bse at_ fi.toNat)) := pre_of (by omega) (fun i _ => nameS_ok at0 at2 hlet hb7 _ i) fun i j hi hj h => nameS_inj at0 at2 (by omega) (by omega) h
  have hnA : H8 nA = some (.lst (((List.range many.toNat).map (nameS bse at_ fi.toNat)).map V.str)) := by rw [List.map_map]; exact hnA
  generalize (List.range many.toNat).map (nameS bse at_ fi.toNat) = nm0 at pre0 hnA
  have hp8 := S8 _ _ hp7
  have SB18 := SB17.trans S8.b
  try dsimp only [gName]
  refine ⟨fun σ H' => ∃ (nA : Addr) (nm : List Str) (z10 : Option V), σ = [some (.ref a), some (.int k0), some (.ref p), some (.str letters), some (.int many), some (.int kd), some (.str bse), some (.int at_), some (.int fi), some (.ref nA), z10] ∧ Same H8 H' ∧ H' nA = some (.lst (nm.map V.str)) ∧ NamesPre nm, ?_, ?_⟩
  · refine one_if (b := decide (V.int kd = V.int 0)) (.pure fun Q h => ⟨_, rfl, rfl, _, rfl, h⟩) fun H9 S9 => ?_
    refine ite2 (fun c => ?_) (fun c => ⟨nA, nm0, _, rfl, S9, S9 _ _ hnA, pre0⟩)
    obtain ⟨w8, wl⟩ := wordS_cps hlet
    have hcs : (bse ++ aToH).length ≤ sizeLine := by
      rw [← cps_len, cps_app, List.length_append, cps_aToH]
      exact Nat.le_trans (show _ ≤ 15 by show _ + 8 ≤ 15; omega) (by decide)
    have hws : (wordS bse).length ≤ sizeLine := by rw [← cps_len, w8]; decide
    refine ⟨_, rfl, bse, aToH, rfl, rfl, hcs, _, rfl, _, rfl, hcs, ?_⟩
    try dsimp only [gName]
    have hmn : (if (8 : Int) < many then 8 else many).toNat ≤ 8 := by split <;> omega
    refine ⟨_, rfl, _, _, rfl, _, rfl, (by split <;> omega), (by split <;> omega), compV_range (n := (if (8 : Int) < many then 8 else many).toNat) (fun _ => true) (fun k => .str (Txt.slice (wordS bse) none (some ((k : Int) + 1)))) (by omega) (fun k Ha hk Sa => turn_pick (y := .str (Txt.slice (wordS bse) none (some ((k : Int) + 1)))) look_yes (fun _ Hb Sb => .pure fun Q h => ⟨_, rfl, _, rfl, _, _, rfl, rfl, _, rfl, wordS bse, rfl, hws, h⟩) fun _ _ _ => rfl) (fun nB Ha hnB0 Sa hnB => ?_)⟩
    rw [filter_true] at hnB
    exact ⟨nB, _, _, rfl, S9.trans Sa, by rw [hnB, List.map_map]; rfl, pre_word hlet hmn⟩
  rintro σ H9 ⟨nA, nm, z10, rfl, S9, hnA9, pre⟩
  have hnl := pre.hi
  try dsimp only [gName]
  refine ⟨_, rfl, nA, rfl, ⟨_, SqL.of hnA9⟩, compA_list (SqL.of hnA9) (paired_self nm) (fun x => !decide (V.str x = V.str "none")) (fun _ y x => y = V.str x) (fun _ _ _ _ _ z => z) (by omega) (fun x v Ha hx hv Sa => ?_) (fun nB ys Ha hnB0 Sa hnB hys => ?_)⟩
  · subst hv
    exact turn_pick (y := .str x) (.pure fun Q h => ⟨_, rfl, rfl, _, rfl, h⟩) (fun _ Hb Sb => .pure fun Q h => ⟨_, rfl, h⟩) fun _ _ _ => rfl
  rw [paired_map hys] at hnB
  have pre2 := pre.filter fun x => !decide (V.str x = V.str "none")
  have nn2 : ∀ x ∈ nm.filter (fun x => !decide (V.str x = V.str "none")), x ≠ noneT := fun x hx e => by
    have := (List.mem_filter.mp hx).2
    rw [e, decide_eq_true rfl] at this; cases this
  generalize (nm.filter fun x => !decide (V.str x = V.str "none")) = nm2 at hnB pre2 nn2
  have S8a := S9.trans Sa
  try dsimp only [gName]
  refine ⟨fun σ H' => ∃ (nA : Addr) (nm : List Str), σ = [some (.ref a), some (.int k0), some (.ref p), some (.str letters), some (.int many), some (.int kd), some (.str bse), some (.int at_), some (.int fi), some (.ref nA), z10] ∧ Same H8 H' ∧ H' nA = some (.lst (nm.map V.str)) ∧ NamesPre nm ∧ nm ≠ [] ∧ (∀ x ∈ nm, x ≠ noneT), ?_, ?_⟩
  · refine one_if (b := nm2.isEmpty) (fun Q h => ⟨_, rfl, eq_nilS hnB (fun s hs => (pre2.ok s hs).cp) fun Hb Sb => ⟨_, rfl, h _ Sb⟩⟩) fun Hb Sb => ?_
    refine ite2 (fun c => ?_) (fun c => ⟨nB, nm2, rfl, S8a.trans Sb, Sb _ _ hnB, pre2, fun z => c (by rw [z]; rfl), nn2⟩)
    exact ⟨(by show 1 ≤ sizeLine; decide), fun l hl => ⟨l, ["nine"], rfl, S8a.trans (Sb.trans (same_new hl _)), upd_same, nine_pre, by simp, nine_nn⟩⟩
  rintro σ Hb ⟨nC, nm3, rfl, S8b, hnC, pre3, hne, nn3⟩
  have hpb := S8b _ _ hp8
  have pnC : p ≠ nC := fun w => by
    rw [← w, hpb] at hnC
    injection hnC with hnC
    injection hnC with hnC
    cases nm3 with
    | nil => cases hnC
    | cons s r => rw [List.map_cons] at hnC; injection hnC with h1; cases h1
  have hl3 := pre3.hi
  refine ⟨_, rfl, _, rfl, p, nC, x7, y7, z7, nm3, rfl, hpb, hnC, pnC, by omega, (fun s hs => (pre3.ok s hs).cp), fun r bs' x' y' z' H' SB' hr0 hr hperm _ => ?_⟩
  have SBall : SameB p H1 H' := SB18.trans (S8b.b.trans SB')
  have Sall : Same H H' := SBall.same S1 hp0
  refine q r bs' H' Sall ?_ hr (pre3.perm hne nn3 hperm)
  have : Same H Hb := (SB18.trans S8b.b).same S1 hp0
  exact this.free hr0

end
end OL.Q40

namespace OL.Q40
open PySem L2 OL
section
variable {P : Program} {w : World} {K : PySem.W.Frag} {mg : Str → Option Value} {base : Heap} {f : Addr} {fd : FuncData} {k : Nat}
abbrev n_L_called : List Str := ["_law_names_here", "_law_other", "_law_lot_here", "_law_found", "_law_thing", "_law_name"]
theorem sc_L_called : FnScope n_L_called ["_law_names_here", "_law_other", "_law_lot_here"] (defScope s_L_called) := ⟨rfl, rfl, rfl, by decide +kernel, rfl, by decide +kernel, by decide +kernel⟩
theorem ok_L_called (F : Fun K "_law_called" "_law_called" s_L_called f fd) (b : Binds K fd ["_law_names_here", "_law_other", "_law_lot_here"] []) (m : mg "_law_called" = some (.ref f)) (M_enumerate : mg "enumerate" = none)  : Dfn P w K mg base (k + 1) "_law_called" ["_law_names_here", "_law_other", "_law_lot_here"] (spCalled K) := by
  refine .of F b m sc_L_called (fun vs H Q E h => ?_) (fun cdv A outer s H vs Q E hr h => ?_)
  · obtain ⟨n, o, nm, nm', lot, rfl, hn, ho, ok, hp, l0, l1, q⟩ := h; rfl
  obtain ⟨n, o, nm, nm', lot, rfl, hn, ho, ok, hp, l0, l1, q⟩ := h
  have nd := sc_L_called.nd
  refine ⟨_, pss_cons (ps_set (i := 3) nd rfl (Or.inl rfl) pe_int)
    (pss_cons (ps_for PassesOwn.never rfl (pi_enum rfl M_enumerate (pa_cons (pv 0) pa_nil)) (pg_tupK (n := 2) K rfl rfl (pgs_cons (pg_name (i := 4) nd rfl (Or.inl rfl)) (pgs_cons (pg_name (i := 5) nd rfl (Or.inl rfl)) pgs_nil)))
      (pss_one (ps_if (pt_cmpR op_eq (pe_op op_and (pe_op op_shr (pv 2) (pv 4)) pe_int) pe_int (nomark _)) (pss_one (ps_set (i := 3) nd rfl (Or.inl rfl) (pe_op op_add (pv 3) (pe_op op_shl pe_int (pe_bm PySem.F.plainAttrs_list PySem.F.slot_list_index PySem.F.type_list_index mt_indexS (pv 1) (pa_cons (pv 5) pa_nil)))))) pss_nil)))
    (pss_one (ps_ret (pv 3)))), ?_⟩
  have ok' := turned_ok ok hp
  have n12 := ok.hi
  refine ⟨_, rfl, n, rfl, ⟨_, hn⟩, for_enum (xs := nm.map V.str) (fun i σ H' => ∃ (r : Int) (z4 z5 : Option V), σ = [some (.ref n), some (.ref o), some (.int lot), some (.int r), z4, z5] ∧ Same H H' ∧ Cal nm nm' lot i r) ⟨0, _, _, rfl, Same.refl _, Cal.zero _ _ _⟩ (fun i σ H' _ h => by obtain ⟨_, _, _, _, S, _⟩ := h; exact S.seq hn) ?_ ?_⟩
  · rintro i x p σ H1 hx ⟨r, z4, z5, rfl, S1, hc⟩ hp0
    have hi : i < nm.length := by have := (List.getElem?_eq_some_iff.mp hx).1; rwa [List.length_map] at this
    have hx' : x = .str nm[i] := by
      rw [List.getElem?_map, List.getElem?_eq_getElem hi] at hx
      exact (Option.some.inj hx).symm
    subst hx'
    have S2 := S1.trans (same_new hp0 (.tup [.int (i : Nat), .str nm[i]]))
    refine ⟨p, _, rfl, SqT.of upd_same, rfl, _, _, rfl, _, _, rfl, rfl, ?_⟩
    generalize upd H1 p (.tup [.int (i : Nat), .str nm[i]]) = H2 at S2 ⊢
    refine one_if (b := (Builtin.bitAnd (lot / 2 ^ i) 1 == 1)) (.pure fun Q h => ⟨_, rfl, _, rfl, _, _, rfl, rfl, Int.natCast_nonneg _, _, _, rfl, rfl, rfl, _, rfl, (by rw [int_eq]; exact h)⟩) fun H3 S3 => ?_
    have hmem : nm[i] ∈ nm' := hp.mem_iff.mpr (List.getElem_mem hi)
    obtain ⟨j, hj⟩ := List.mem_iff_getElem?.mp hmem
    have hjl := (List.getElem?_eq_some_iff.mp hj).1
    have hpl := hp.length_eq
    refine ite2 (fun c => ?_) (fun c => ⟨r, _, _, rfl, S2.trans S3, hc.skip fun z => c ((bit_iff l0 i).mpr z)⟩)
    refine ⟨_, rfl, _, rfl, .inl ⟨rfl, _, SqL.of ((S2.trans S3) _ _ ho)⟩, _, rfl, o, nm', nm[i], j, rfl, rfl, (S2.trans S3) _ _ ho, by omega, hj, (fun m hm z => by have := at_inj ok'.nd z hj; omega), _, _, rfl, rfl, ⟨Int.natCast_nonneg _, by omega, by decide⟩, _, _, rfl, rfl, r + 1 * 2 ^ (j : Int).toNat, _, _, rfl, S2.trans S3, ?_⟩
    exact hc.put ok.nd ok'.nd ((bit_iff l0 i).mp c) (List.getElem?_eq_getElem hi) hj
  · rintro σ H1 ⟨r, z4, z5, rfl, S1, hc⟩
    rw [List.length_map] at hc
    exact ⟨_, rfl, q r H1 S1 hc⟩
end
end OL.Q40

namespace OL.Q40
open PySem L2 OL
section
variable {P : Program} {w : World} {K : PySem.W.Frag} {mg : Str → Option Value} {base : Heap} {f : Addr} {fd : FuncData} {k : Nat}
theorem cut_takeS (ms : List Str) (k : Nat) : cutV (ms.map V.str) none (some (k : Int)) = (ms.take k).map V.str := by
  unfold cutV
  rw [HT.sIx_nat]
  show ((ms.map V.str).drop 0).take (_ - 0) = _
  rw [List.drop_zero, Nat.sub_zero, List.length_map, List.map_take]
  by_cases h : k ≤ ms.length
  · rw [Nat.min_eq_left h]
  · rw [Nat.min_eq_right (by omega), List.take_of_length_le (by rw [List.length_map]; omega), List.take_of_length_le (by rw [List.length_map]; omega)]
theorem wid_ok {nm ms : List Str} (ok : NamesOk nm) (h1 : ∀ x ∈ ms, NameOk x ∧ x ≠ noneT ∧ x ∉ nm) (h2 : nm.length < 12 → ms ≠ []) : NamesOk (nm ++ ms.take (if decide ((nm.length : Int) < 12) = true then 1 else 0)) := by
  by_cases c : nm.length < 12
  · rw [if_pos (decide_eq_true (by omega))]
    cases ms with
    | nil => exact absurd rfl (h2 c)
    | cons z r =>
      obtain ⟨a, b, d⟩ := h1 z (.head _)
      exact wider_ok ok c a b d
  · rw [if_neg (by simp; omega)]
    rw [List.take_zero, List.append_nil]; exact ok
theorem pow_le_app {nm ms : List Str} {l : Int} (h : l < 2 ^ nm.length) : l < 2 ^ (nm ++ ms).length := by
  refine Int.lt_of_lt_of_le h ?_
  have : (2 : Nat) ^ nm.length ≤ 2 ^ (nm ++ ms).length := Nat.pow_le_pow_right (by decide) (by rw [List.length_append]; omega)
  exact_mod_cast this
theorem ints_snoc40 (ss : List Int) (x : Int) : (ss ++ [x]).map V.int = ss.map V.int ++ [.int x] := by rw [List.map_append]; rfl
theorem words_lt {nm : List Str} (ok : NamesOk nm) {lot : Int} (l0 : 0 ≤ lot) (l1 : lot < 2 ^ nm.length) : (wordsF nm lot).length < 64 := by
  have h := show_len ok l0 l1
  have h1 : spc.length = 1 := by decide +kernel
  rw [h1, Nat.mul_one] at h
  unfold wordsF
  split
  · show 1 < 64; decide
  · rw [List.length_map]
    have := few_len (ok.sm l0 l1)
    omega
theorem words_cp {nm : List Str} (ok : NamesOk nm) {lot : Int} (l0 : 0 ≤ lot) (l1 : lot < 2 ^ nm.length) : ∀ s ∈ wordsF nm lot, CpOk s := fun s hs => by
  by_cases c : lot = 0
  · unfold wordsF at hs
    rw [if_pos c] at hs
    rw [List.mem_singleton.mp hs]
    intro d hd
    rw [cps_dash] at hd
    rw [List.mem_singleton.mp hd]; decide
  · obtain ⟨k, _, hk⟩ := (mem_words ok l0 l1 c).mp hs
    exact (ok.ok s (List.mem_of_getElem? hk)).cp
theorem two_lots {ss : List Int} (h : ss.length = 2) : ∃ x y, ss = [x, y] := by
  match ss, h with
  | [x, y], _ => exact ⟨x, y, rfl⟩
theorem two_days {ds : List (Addr × List Int)} (h : ds.length = 2) : ∃ x y, ds = [x, y] := by
  match ds, h with
  | [x, y], _ => exact ⟨x, y, rfl⟩
abbrev n_law : List Str := ["_law_script", "_law_start", "_law_names_here", "_law_lots", "_law_days", "_law_k", "_law_pile_here", "_law_other", "_law_more", "_law_wider", "_law_lot_here", "_law_called_here", "_law_text"]
theorem sc_law : FnScope n_law ["_law_script"] (defScope s_law) := ⟨rfl, rfl, rfl, by decide +kernel, rfl, by decide +kernel, by decide +kernel⟩
theorem nd_law_0 : (["_law_k", "_law_script", "_law_start", "_law_names_here"] : List Str).Nodup := by decide +kernel
theorem nd_law_1 : (["_law_j", "_law_pile_here", "_law_names_here"] : List Str).Nodup := by decide +kernel
theorem nd_law_2 : (["_law_letter"] : List Str).Nodup := by decide +kernel
theorem nd_law_3 : (["_law_name", "_law_names_here"] : List Str).Nodup := by decide +kernel
set_option maxHeartbeats 8000000 in
theorem ok_law (F : Fun K "law" "law" s_law f fd) (M_range : mg "range" = none) (M_len : mg "len" = none) (M_int : mg "int" = none) (M_sorted : mg "sorted" = none) (G_L_names : Dfn P w K mg base k "_law_names" ["_law_script", "_law_start"] (spNames K)) (G_L_lot : Dfn P w K mg base k "_law_lot" ["_law_pile_here", "_law_names_here"] (spLotN K)) (G_L_pile : Dfn P w K mg base k "_law_pile" ["_law_script", "_law_k"] (spPile K)) (G_L_take : Dfn P w K mg base k "_law_take" ["_law_pile_here", "_law_many"] spTake) (G_L_order : Dfn P w K mg base k "_law_order" ["_law_pile_here", "_law_some"] spOrderS) (G_L_right : Dfn P w K mg base k "_law_right" ["_law_names_here", "_law_one", "_law_two", "_law_days"] (spRight40 K)) (G_L_called : Dfn P w K mg base k "_law_called" ["_law_names_here", "_law_other", "_law_lot_here"] (spCalled K)) (G_show_lot : Dfn P w K mg base k "show_lot" ["names", "lot"] (spShow K)) (G_read_lot : Dfn P w K mg base k "read_lot" ["names", "text"] (spRead K)) : FnOk P w K mg base CX0 (k + 1) f fd ["_law_script"] (spLaw K) := by
  refine F.ok sc_law (fun vs H Q E h => ?_) (fun cdv A outer s H vs Q E hr h => ?_)
  · obtain ⟨a, ns, rfl, hS, h63, q⟩ := h; rfl
  obtain ⟨a, ns, rfl, hS, h63, q⟩ := h
  have nd := sc_law.nd
  have le := Nat.le_refl k
  refine ⟨_, pss_cons (ps_for PassesOwn.never rfl (pi_list (pe_lst (pa_cons pe_int (pa_cons pe_int (pa_cons pe_int (pa_cons pe_int (pa_cons pe_int (pa_cons pe_int (pa_cons pe_int (pa_cons pe_int pa_nil)))))))))) (pg_name (i := 1) nd rfl (Or.inr rfl))
      (pss_cons (ps_set (i := 2) nd rfl (Or.inr rfl) (pe_def G_L_names hr le rfl (pa_cons (pv 0) (pa_cons (pv 1) pa_nil))))
      (pss_cons (ps_setCompC (i := 3) nd rfl rfl ["_law_k"] [0, 1, 2] (sc := defScope s_law) (N := n_law) (.inl rfl) rfl ⟨rfl, by decide +kernel, by decide +kernel, by decide +kernel, by decide +kernel⟩ rfl (pi_list (pe_lst (pa_cons pe_int (pa_cons pe_int pa_nil)))) (fun cl s H C fp => (pg_name (i := 0) nd_law_0 rfl (Or.inl rfl))) (fun cl s H C fp => pifs_nil) (fun cl s H C fp => (pe_def G_L_lot hr le rfl (pa_cons (pe_def G_L_pile hr le rfl (pa_cons (pv 1) (pa_cons (pe_op op_add (pv 2) (pv 0)) pa_nil))) (pa_cons (pv 3) pa_nil)))) rfl)
      (pss_cons (ps_set (i := 4) nd rfl (Or.inl rfl) (pe_lst pa_nil))
      (pss_cons (ps_for PassesOwn.never rfl (pi_list (pe_lst (pa_cons pe_int (pa_cons pe_int pa_nil)))) (pg_name (i := 5) nd rfl (Or.inl rfl))
        (pss_cons (ps_set (i := 6) nd rfl (Or.inr rfl) (pe_def G_L_pile hr le rfl (pa_cons (pv 0) (pa_cons (pe_op op_add (pv 1) (pv 5)) pa_nil))))
        (pss_one (ps_expr (pe_bm PySem.F.plainAttrs_list PySem.F.slot_list_append PySem.F.type_list_append mt_append (pv 4) (pa_cons (pe_compC ["_law_j"] [6, 2] (sc := defScope s_law) (N := n_law) (.inl rfl) rfl ⟨rfl, by decide +kernel, by decide +kernel, by decide +kernel, by decide +kernel⟩ rfl (pi_range1 rfl M_range (pa_cons (pe_op op_add pe_int (pe_def G_L_take hr le rfl (pa_cons (pv 6) (pa_cons pe_int pa_nil)))) pa_nil)) (fun cl s H C fp => (pg_name (i := 0) nd_law_1 rfl (Or.inl rfl))) (fun cl s H C fp => pifs_nil) (fun cl s H C fp => (pe_def G_L_lot hr le rfl (pa_cons (pv 1) (pa_cons (pv 2) pa_nil))))) pa_nil))))))
      (pss_cons (ps_set (i := 7) nd rfl (Or.inl rfl) (pe_def G_L_order hr le rfl (pa_cons (pe_def G_L_pile hr le rfl (pa_cons (pv 0) (pa_cons (pe_op op_add (pv 1) pe_int) pa_nil))) (pa_cons (pv 2) pa_nil))))
      (pss_cons (ps_setCompC (i := 8) nd rfl rfl ["_law_name"] [2] (sc := defScope s_law) (N := n_law) (.inl rfl) rfl ⟨rfl, by decide +kernel, by decide +kernel, by decide +kernel, by decide +kernel⟩ rfl (pi_list (pe_compC ["_law_letter"] [] (sc := defScope s_law) (N := n_law) (.inl rfl) rfl ⟨rfl, by decide +kernel, by decide +kernel, by decide +kernel, by decide +kernel⟩ rfl (pi_text pe_str) (fun cl s H C fp => (pg_name (i := 0) nd_law_2 rfl (Or.inl rfl))) (fun cl s H C fp => pifs_nil) (fun cl s H C fp => (pe_op op_catS pe_str (pv 0))))) (fun cl s H C fp => (pg_name (i := 0) nd_law_3 rfl (Or.inl rfl))) (fun cl s H C fp => pifs_one (pt_cmpR (op_notInK K rfl) (pv 0) (pv 1) (by rfl))) (fun cl s H C fp => (pv 0)) rfl)
      (pss_cons (ps_set (i := 9) nd rfl (Or.inl rfl) (pe_op op_cat (pv 2) (pe_slice sl_list (pv 8) po_none (po_some (pe_callTy call_int1 (by rfl) M_int PyProof.Rows.boot_int (pa_cons (pe_cmpR op_lt (pe_callB call_len_seq (by rfl) M_len PySem.boot_len (pa_cons (pv 2) pa_nil)) pe_int (nomark _)) pa_nil))))))
      (pss_cons (ps_if (PW.pt (pw_or (pt_not (pt_val (pe_def G_L_right hr le rfl (pa_cons (pv 2) (pa_cons (pe_ix ix_list (pv 3) pe_int (fun _ _ => rfl)) (pa_cons (pe_ix ix_list (pv 3) pe_int (fun _ _ => rfl)) (pa_cons (pv 4) pa_nil))))))) (pw_or1 (pt_not (pt_val (pe_def G_L_right hr le rfl (pa_cons (pv 9) (pa_cons (pe_ix ix_list (pv 3) pe_int (fun _ _ => rfl)) (pa_cons (pe_ix ix_list (pv 3) pe_int (fun _ _ => rfl)) (pa_cons (pv 4) pa_nil)))))))))) (pss_one (ps_ret pe_bl)) pss_nil)
      (pss_one (ps_for PassesOwn.never rfl (pi_list (pv 3)) (pg_name (i := 10) nd rfl (Or.inl rfl))
        (pss_cons (ps_set (i := 11) nd rfl (Or.inl rfl) (pe_def G_L_called hr le rfl (pa_cons (pv 2) (pa_cons (pv 7) (pa_cons (pv 10) pa_nil)))))
        (pss_cons (ps_set (i := 12) nd rfl (Or.inl rfl) (pe_def G_show_lot hr le rfl (pa_cons (pv 7) (pa_cons (pv 11) pa_nil))))
        (pss_cons (ps_if (PW.pt (pw_or (pt_cmpR op_ne (pe_def G_read_lot hr le rfl (pa_cons (pv 7) (pa_cons (pv 12) pa_nil))) (pv 11) (nomark _)) (pw_or1 (pt_cmpR (op_neD hr) (pe_callB call_sortS (by rfl) M_sorted PyProof.Rows.boot_sorted (pa_cons (pe_bm PySem.F.plainAttrs_str PySem.F.slot_str_split PySem.F.type_str_split mt_split (pv 12) (pa_cons pe_str pa_nil)) pa_nil)) (pe_callB call_sortS (by rfl) M_sorted PyProof.Rows.boot_sorted (pa_cons (pe_bm PySem.F.plainAttrs_str PySem.F.slot_str_split PySem.F.type_str_split mt_split (pe_def G_show_lot hr le rfl (pa_cons (pv 2) (pa_cons (pv 10) pa_nil))) (pa_cons pe_str pa_nil)) pa_nil)) (nomark _))))) (pss_one (ps_ret pe_bl)) pss_nil)
        (pss_one (ps_if (pt_cmpR op_ne (pe_def G_show_lot hr le rfl (pa_cons (pv 9) (pa_cons (pv 10) pa_nil))) (pe_def G_show_lot hr le rfl (pa_cons (pv 2) (pa_cons (pv 10) pa_nil))) (nomark _)) (pss_one (ps_ret pe_bl)) pss_nil))))))))))))))))
    (pss_one (ps_ret pe_bl)), ?_⟩
  refine ⟨(by show 8 ≤ sizeLine; decide), fun sl hsl => ?_⟩
  have S0 := same_new hsl (.lst [.int 0, .int 6, .int 12, .int 18, .int 24, .int 30, .int 36, .int 42])
  have hsl0 : upd H sl (.lst [.int 0, .int 6, .int 12, .int 18, .int 24, .int 30, .int 36, .int 42]) sl = some (.lst (([0, 6, 12, 18, 24, 30, 36, 42] : List Int).map V.int)) := upd_same
  generalize upd H sl (.lst [.int 0, .int 6, .int 12, .int 18, .int 24, .int 30, .int 36, .int 42]) = H0 at S0 hsl0 ⊢
  refine ⟨sl, rfl, ⟨_, SqL.of hsl0⟩, for_list (xs := ([0, 6, 12, 18, 24, 30, 36, 42] : List Int).map V.int) (fun i σ H' => ∃ (z1 z2 z3 z4 z5 z6 z7 z8 z9 z10 z11 z12 : Option V), σ = [some (.ref a), z1, z2, z3, z4, z5, z6, z7, z8, z9, z10, z11, z12] ∧ Same H0 H') ⟨_, _, _, _, _, _, _, _, _, _, _, _, rfl, Same.refl _⟩
    (fun i σ H' _ h => by obtain ⟨_, _, _, _, _, _, _, _, _, _, _, _, _, S⟩ := h; exact SqL.of (S _ _ hsl0)) ?_ ?_⟩
  rotate_left
  · rintro σ H' ⟨z1, z2, z3, z4, z5, z6, z7, z8, z9, z10, z11, z12, rfl, S1⟩
    exact q _
  rintro i x σ H1 hx ⟨z1, z2, z3, z4, z5, z6, z7, z8, z9, z10, z11, z12, rfl, S1⟩
  have hx' := ints_get hx
  subst hx'
  have hst : 0 ≤ ([0, 6, 12, 18, 24, 30, 36, 42] : List Int).getD i 0 := by
    rcases i with _ | _ | _ | _ | _ | _ | _ | _ | i <;> simp
  generalize ([0, 6, 12, 18, 24, 30, 36, 42] : List Int).getD i 0 = st at hst hx ⊢
  have hS1 := (S0.trans S1).seq hS
  try dsimp only [gName]
  refine ⟨_, rfl, _, rfl, a, ns, st, rfl, hS1, hst, fun r nm H2 S2 hr0 hr ok => ?_⟩
  have hcp : ∀ s ∈ nm, CpOk s := fun s hs => (ok.ok s hs).cp
  have n12 := ok.hi
  have n1 := ok.lo
  have hS2 := S2.seq hS1
  try dsimp only [gName]
  -- the lots
  refine ⟨(by show 2 ≤ sizeLine; decide), fun l0 hl0 => ?_⟩
  have Sl := same_new hl0 (.lst [.int 1, .int 2])
  have hl1 : upd H2 l0 (.lst [.int 1, .int 2]) l0 = some (.lst (([1, 2] : List Int).map V.int)) := upd_same
  generalize upd H2 l0 (.lst [.int 1, .int 2]) = H3 at Sl hl1 ⊢
  have hS3 := Sl.seq hS2
  have hr3 := Sl _ _ hr
  refine ⟨l0, rfl, ⟨_, SqL.of hl1⟩, comp_listG (K := K) (xs := ([1, 2] : List Int).map V.int) (fun acc i ys H' => ∃ ss : List Int, ys = ss.map V.int ∧ ss.length = i ∧ (∀ l ∈ ss, 0 ≤ l ∧ l < 2 ^ nm.length) ∧ Same H3 H') (fun acc i ys H' _ h => by obtain ⟨_, _, _, _, S⟩ := h; exact SqL.of (S _ _ hl1)) (fun acc hacc => ⟨[], rfl, rfl, (fun _ h => nomatch h), same_new hacc _⟩) (fun acc i x ys H' hacc hi hx hys h => ?_) (fun lots ys H4 hlo0 hlo h => ?_)⟩
  · obtain ⟨ss, rfl, hsl, hss, S⟩ := h
    have hx' := ints_get hx
    subst hx'
    have hk : 0 ≤ ([1, 2] : List Int).getD i 0 := by rcases i with _ | _ | i <;> simp
    generalize ([1, 2] : List Int).getD i 0 = kk at hk ⊢
    refine ⟨(Wk.refl _).set (by decide), yes_of ⟨_, rfl, _, rfl, _, rfl, _, _, rfl, rfl, a, ns, _, rfl, S.seq hS3, (by omega), fun p H5 x5 y5 z5 S5 hp0 hp5 => ?_⟩⟩
    have hr5 := S5 _ _ (S _ _ hr3)
    have pr : p ≠ r := fun w => by rw [w, S _ _ hr3] at hp0; cases hp0
    refine ⟨_, rfl, p, r, nm, rfl, pr, ⟨_, _, _, hp5⟩, hr5, n1, n12, fun lot H6 SB6 e0 e1 _ => ?_⟩
    have S6 : Same H' H6 := SB6.same S5 hp0
    have hi2 : i < 2 := by simpa using hi
    refine cputG hi (S6 _ _ hys) (by rw [List.length_map, hsl]; exact small1000 (by omega)) ⟨ss ++ [lot], (ints_snoc40 _ _).symm, by rw [List.length_append, hsl]; rfl, fun l hl => ?_, fun b o ho => ?_⟩
    · rcases List.mem_append.mp hl with w | w
      · exact hss l w
      · rw [List.mem_singleton.mp w]; exact ⟨e0, e1⟩
    · rw [upd_ne (ne_of_none ho hacc)]; exact S6 _ _ (S _ _ ho)
  obtain ⟨ss, rfl, hsl2, hss, S4⟩ := h
  obtain ⟨lx, ly, rfl⟩ := two_lots hsl2
  have hS4 := S4.seq hS3
  have hr4 := S4 _ _ hr3
  try dsimp only [gName]
  -- the days
  refine ⟨nil_len, fun D hD => ?_⟩
  have S5 := same_new hD (.lst [])
  have hD5 : upd H4 D (.lst []) D = some (.lst []) := upd_same
  generalize upd H4 D (.lst []) = H5 at S5 hD5 ⊢
  have hr5 := S5 _ _ hr4
  have hS5 := S5.seq hS4
  try dsimp only [gName]
  refine ⟨(by show 2 ≤ sizeLine; decide), fun l3 hl3 => ?_⟩
  have S6 := same_new hl3 (.lst [.int 3, .int 4])
  have hl6 : upd H5 l3 (.lst [.int 3, .int 4]) l3 = some (.lst (([3, 4] : List Int).map V.int)) := upd_same
  generalize upd H5 l3 (.lst [.int 3, .int 4]) = H6 at S6 hl6 ⊢
  have hr6 := S6 _ _ hr5
  have hS6 := S6.seq hS5
  have hD6 := S6 _ _ hD5
  have l3D : l3 ≠ D := fun w => by rw [w, hD5] at hl3; cases hl3
  have rD : r ≠ D := fun w => by rw [w] at hr4; rw [hr4] at hD; cases hD
  refine ⟨l3, rfl, ⟨_, SqL.of hl6⟩, for_list (xs := ([3, 4] : List Int).map V.int) (fun i σ H' => ∃ (ds : List (Addr × List Int)) (z5 z6 : Option V), σ = [some (.ref a), some (.int st), some (.ref r), some (.ref lots), some (.ref D), z5, z6, z7, z8, z9, z10, z11, z12] ∧ ds.length = i ∧ SameB D H6 H' ∧ H' D = some (.lst (ds.map fun d => V.ref d.1)) ∧ ∀ d ∈ ds, H' d.1 = some (.lst (d.2.map V.int)) ∧ d.1 ≠ D ∧ d.2 ≠ [] ∧ d.2.length ≤ 3 ∧ ∀ l ∈ d.2, 0 ≤ l ∧ l < 2 ^ nm.length) ⟨[], _, _, rfl, rfl, (Same.refl _).b, hD6, (fun _ h => nomatch h)⟩
    (fun i σ H' _ h => by obtain ⟨_, _, _, _, _, S, _⟩ := h; exact SqL.of (S _ _ l3D hl6)) ?_ ?_⟩
  · rintro i x σ H7 hx ⟨ds, z5, z6, rfl, hdl, SB7, hD7, hds⟩
    have hx' := ints_get hx
    subst hx'
    have hk : 0 ≤ ([3, 4] : List Int).getD i 0 := by rcases i with _ | _ | i <;> simp
    have hi2 : i < 2 := by have := (List.getElem?_eq_some_iff.mp hx).1; simpa using this
    generalize ([3, 4] : List Int).getD i 0 = kk at hk hx ⊢
    have S67 : Same H4 H7 := SB7.same (S5.trans S6) hD
    have hS7 : SqL K H7 a (ns.map V.int) := S67.seq hS4
    have hr7 := S67 _ _ hr4
    try dsimp only [gName]
    refine ⟨_, rfl, _, rfl, _, rfl, _, _, rfl, rfl, a, ns, _, rfl, hS7, (by omega), fun p H8 x8 y8 z8 S8 hp0 hp8 => ?_⟩
    have pD : p ≠ D := fun w => by rw [w, hD7] at hp0; cases hp0
    have pr : p ≠ r := fun w => by rw [w, hr7] at hp0; cases hp0
    have hD8 := S8 _ _ hD7
    have hr8 := S8 _ _ hr7
    try dsimp only [gName]
    refine ⟨_, rfl, .inl ⟨rfl, _, SqL.of hD8⟩, _, rfl, p, 3, x8, y8, z8, rfl, by decide, by decide, hp8, fun e x9 y9 z9 H9 e0 e1 SB9 hp9 => ⟨_, _, rfl, rfl, _, rfl, by omega, by omega, ?_⟩⟩
    have hr9 := SB9 _ _ (Ne.symm pr) hr8
    have hD9 := SB9 _ _ (Ne.symm pD) hD8
    refine comp_rangeG (n := (1 + e).toNat) (fun acc i ys H' => ∃ (ss : List Int), ys = ss.map V.int ∧ (ss.length = i ∧ ∀ l ∈ ss, 0 ≤ l ∧ l < 2 ^ nm.length) ∧ SameB p H9 H' ∧ ∃ x y z : Int, H' p = some (.lst [.int x, .int y, .int z])) (fun acc hacc => ⟨[], rfl, ⟨rfl, (fun s hs => nomatch hs)⟩, (same_new hacc _).b, _, _, _, same_new hacc _ _ _ hp9⟩) (fun acc i ys H' hacc hi hys h => ?_) (fun dd ys H10 hd0 hd10 h => ?_)
    · obtain ⟨ss, rfl, hss, SB, x5, y5, z5, hp5⟩ := h
      have accp : acc ≠ p := fun w => by rw [w, hp9] at hacc; cases hacc
      refine ⟨(Wk.refl _).set (by decide), yes_of ⟨_, rfl, _, rfl, p, r, nm, rfl, pr, ⟨x5, y5, z5, hp5⟩, SB _ _ (Ne.symm pr) hr9, n1, n12, fun lot H6 SB6 l0 l1 hp6 => ?_⟩⟩
      obtain ⟨x6, y6, z6, hp6⟩ := hp6
      refine cputG hi (SB6 _ _ accp hys) (by rw [List.length_map]; exact small1000 (by have := hss.1; omega)) ⟨ss ++ [lot], (ints_snoc40 _ _).symm, ⟨by rw [List.length_append, hss.1]; rfl, fun l hl => ?_⟩, fun c o hc ho => ?_, x6, y6, z6, ?_⟩
      · rcases List.mem_append.mp hl with w | w
        · exact hss.2 l w
        · rw [List.mem_singleton.mp w]; exact ⟨l0, l1⟩
      · rw [upd_ne (ne_of_none ho hacc)]; exact SB6 _ _ hc (SB _ _ hc ho)
      · rw [upd_ne (Ne.symm accp)]; exact hp6
    obtain ⟨ss, rfl, hss, SB10, _⟩ := h
    have SBp : SameB p H8 H10 := SB9.trans SB10
    have S710 : Same H7 H10 := SBp.same S8 hp0
    have S79 : Same H7 H9 := SB9.same S8 hp0
    have hD10 := S710 _ _ hD7
    have ddD : dd ≠ D := fun w => by rw [w, hD9] at hd0; cases hd0
    refine ⟨D, _, _, rfl, rfl, hD10, (by rw [List.length_map]; exact small1000 (by omega)), ?_⟩
    refine ⟨ds ++ [(dd, ss)], _, _, rfl, by rw [List.length_append, hdl]; rfl, SB7.trans (S710.b.trans sameB_upd), by rw [upd_same, List.map_append]; rfl, fun d hd => ?_⟩
    rcases List.mem_append.mp hd with w | w
    · obtain ⟨g1, g2, g3⟩ := hds d w
      exact ⟨by rw [upd_ne g2]; exact S710 _ _ g1, g2, g3⟩
    · rw [List.mem_singleton.mp w]
      refine ⟨by rw [upd_ne ddD]; exact hd10, ddD, fun z => ?_, by have := hss.1; show ss.length ≤ 3; omega, hss.2⟩
      have h1 := hss.1
      rw [show ss = [] from z] at h1
      have : (0 : Nat) = (1 + e).toNat := h1
      omega
  rintro σ H7 ⟨ds, z5, z6, rfl, hdl, SB7, hD7, hds⟩
  obtain ⟨⟨d1, xs⟩, ⟨d2, ys⟩, rfl⟩ := two_days hdl
  obtain ⟨hd1, _, xne, xl, xk⟩ := hds _ (.head _)
  obtain ⟨hd2, _, yne, yl, yk⟩ := hds _ (.tail _ (.head _))
  have S47 : Same H4 H7 := SB7.same (S5.trans S6) hD
  have hS7 : SqL K H7 a (ns.map V.int) := S47.seq hS4
  have hr7 := S47 _ _ hr4
  have hlo7 := S47 _ _ hlo
  try dsimp only [gName]
  -- the other order
  refine ⟨_, rfl, _, rfl, _, _, rfl, rfl, a, ns, _, rfl, hS7, (by omega), fun p H8 x8 y8 z8 S8 hp0 hp8 => ?_⟩
  have pr : p ≠ r := fun w => by rw [w, hr7] at hp0; cases hp0
  refine ⟨_, rfl, p, r, x8, y8, z8, nm, rfl, hp8, S8 _ _ hr7, pr, by omega, hcp, fun o nm' _ _ _ H9 SB9 ho0 ho9 hperm _ => ?_⟩
  have S79 : Same H7 H9 := SB9.same S8 hp0
  have hr9 := S79 _ _ hr7
  have ok' := turned_ok ok hperm
  try dsimp only [gName]
  -- one name more
  refine ⟨aToL, rfl, aToL_ascii, compV_text (fun c => .str (zoN c)) (by rw [cps_aToL]; decide) (fun c H10 hc S10 => turn_pick (y := .str (zoN c)) look_yes (fun _ H11 S11 => .pure fun Q h => ⟨_, rfl, zo, _, rfl, rfl, Nat.le_trans (zo_ok hc).2.2 (by decide), h⟩) fun _ _ _ => rfl) (fun zl H10 hzl0 S10 hzl => ?_)⟩
  have hzl : H10 zl = some (.lst (((cps aToL).map zoN).map V.str)) := by rw [List.map_map]; exact hzl
  have hr10 := S10 _ _ hr9
  refine ⟨zl, rfl, ⟨_, SqL.of hzl⟩, compA_list (SqL.of hzl) (paired_self ((cps aToL).map zoN)) (fun x => !(nm.any fun w => decide (w = x))) (fun _ y x => y = V.str x) (fun _ _ _ _ _ z => z) (by rw [cps_aToL]; decide) (fun x v H11 hx hv S11 => ?_) (fun mo mys H11 hmo0 S11 hmo hmys => ?_)⟩
  · subst hv
    exact turn_pick (y := .str x) (.pure fun Q h => ⟨_, rfl, _, rfl, r, _, rfl, .inl (SqL.of (S11 _ _ hr10)), rfl, flat_strs _, _, rfl, (by show Q (!inV (.str x) (nm.map V.str)) H11; rw [in_strs]; exact h)⟩) (fun _ Hb Sb => .pure fun Q h => ⟨_, rfl, h⟩) fun _ _ _ => rfl
  rw [paired_map hmys] at hmo
  have hms1 : ∀ x ∈ ((cps aToL).map zoN).filter (fun x => !(nm.any fun w => decide (w = x))), NameOk x ∧ x ≠ noneT ∧ x ∉ nm := fun x hx => by
    obtain ⟨g1, g2⟩ := List.mem_filter.mp hx
    obtain ⟨c, hc, rfl⟩ := List.mem_map.mp g1
    refine ⟨(zo_ok hc).1, (zo_ok hc).2.1, fun z => ?_⟩
    have : (nm.any fun w => decide (w = zoN c)) = true := List.any_eq_true.mpr ⟨_, z, decide_eq_true rfl⟩
    rw [this] at g2; cases g2
  have okw := wid_ok ok hms1 zo_more
  generalize ((cps aToL).map zoN).filter (fun x => !(nm.any fun w => decide (w = x))) = ms at hmo hms1 okw
  have hr11 := S11 _ _ hr10
  try dsimp only [gName]
  refine ⟨_, rfl, _, rfl, _, rfl, r, _, rfl, .inl (SqL.of hr11), _, _, rfl, rfl, .inr ⟨_, rfl, _, rfl, mo, _, rfl, SqL.of hmo, fun ct hct => ?_⟩⟩
  have S12 := same_new hct (.lst (cutV (ms.map V.str) none (some (if decide ((((nm.map V.str).length : Nat) : Int) < 12) = true then 1 else 0))))
  have hct12 : upd H11 ct (.lst (cutV (ms.map V.str) none (some (if decide ((((nm.map V.str).length : Nat) : Int) < 12) = true then 1 else 0)))) ct = some (.lst ((ms.take (if decide ((nm.length : Int) < 12) = true then 1 else 0)).map V.str)) := by
    rw [upd_same, List.length_map]
    by_cases c : decide ((nm.length : Int) < 12) = true
    · rw [if_pos c, if_pos c]; exact congrArg (fun x => some (HO.lst x)) (cut_takeS ms 1)
    · rw [if_neg c, if_neg c]; exact congrArg (fun x => some (HO.lst x)) (cut_takeS ms 0)
  generalize upd H11 ct (.lst (cutV (ms.map V.str) none (some (if decide ((((nm.map V.str).length : Nat) : Int) < 12) = true then 1 else 0)))) = H12 at S12 hct12 ⊢
  generalize ms.take (if decide ((nm.length : Int) < 12) = true then 1 else 0) = more at okw hct12
  have hr12 := S12 _ _ hr11
  have w12 := okw.hi
  rw [List.length_append] at w12
  refine ⟨r, ct, _, _, rfl, rfl, hr12, hct12, (by rw [List.length_map, List.length_map]; exact Nat.le_of_lt (small1000 (by omega))), fun wd hwd => ?_⟩
  have S13 := same_new hwd (.lst (nm.map V.str ++ more.map V.str))
  have hwd13 : upd H12 wd (.lst (nm.map V.str ++ more.map V.str)) wd = some (.lst ((nm ++ more).map V.str)) := by rw [upd_same, List.map_append]
  generalize upd H12 wd (.lst (nm.map V.str ++ more.map V.str)) = H13 at S13 hwd13 ⊢
  have S713 : Same H7 H13 := S79.trans (S10.trans (S11.trans (S12.trans S13)))
  have hr13 := S713 _ _ hr7
  have hlo13 := S713 _ _ hlo7
  have hD13 := S713 _ _ hD7
  have hd113 := S713 _ _ hd1
  have hd213 := S713 _ _ hd2
  have ho13 := (S10.trans (S11.trans (S12.trans S13))) _ _ ho9
  obtain ⟨x0, x1⟩ := hss lx (.head _)
  obtain ⟨y0, y1⟩ := hss ly (.tail _ (.head _))
  have dk : ∀ {zs : List Int}, zs.length ≤ 6 → (∀ l ∈ zs, 0 ≤ l ∧ l < 2 ^ nm.length) → DayOk nm zs ∧ DayOk (nm ++ more) zs := fun h1 h2 => ⟨⟨by omega, h2⟩, by omega, fun l hl => ⟨(h2 l hl).1, pow_le_app (h2 l hl).2⟩⟩
  have xok := dk (by show xs.length ≤ 6; have : xs.length ≤ 3 := xl; omega) xk
  have yok := dk (by show ys.length ≤ 6; have : ys.length ≤ 3 := yl; omega) yk
  have xyok := dk (zs := xs ++ ys) (by rw [List.length_append]; have h1 : xs.length ≤ 3 := xl; have h2 : ys.length ≤ 3 := yl; omega) (fun l hl => (List.mem_append.mp hl).elim (xk l) (yk l))
  try dsimp only [gName]
  refine seq_if (b := false) (lookOr (c := false) (d := false) (fun Q h => ⟨_, rfl, _, rfl, lots, _, _, _, rfl, rfl, SqL.of hlo13, rfl, _, rfl, lots, _, _, _, rfl, rfl, SqL.of hlo13, rfl, _, rfl, r, D, d1, d2, nm, lx, ly, xs, ys, rfl, SqL.of hr13, ok, x0, x1, y0, y1, hD13, hd113, hd213, xne, yne, xok.1, yok.1, xyok.1, fun H14 S14 => ⟨_, rfl, h _ S14⟩⟩)
    fun _ H14 S14 => fun Q h => ⟨_, rfl, _, rfl, lots, _, _, _, rfl, rfl, SqL.of (S14 _ _ hlo13), rfl, _, rfl, lots, _, _, _, rfl, rfl, SqL.of (S14 _ _ hlo13), rfl, _, rfl, wd, D, d1, d2, nm ++ more, lx, ly, xs, ys, rfl, SqL.of (S14 _ _ hwd13), okw, x0, pow_le_app x1, y0, pow_le_app y1, S14 _ _ hD13, S14 _ _ hd113, S14 _ _ hd213, xne, yne, xok.2, yok.2, xyok.2, fun H15 S15 => ⟨_, rfl, h _ S15⟩⟩) fun H14 S14 => iteF ?_
  dsimp only [tNext]
  have hlo14 := S14 _ _ hlo13
  refine ⟨_, rfl, lots, rfl, ⟨_, SqL.of hlo14⟩, for_list (xs := ([lx, ly] : List Int).map V.int) (fun i σ H' => ∃ (z10 z11 z12 : Option V), σ = [some (.ref a), some (.int st), some (.ref r), some (.ref lots), some (.ref D), z5, z6, some (.ref o), some (.ref mo), some (.ref wd), z10, z11, z12] ∧ Same H14 H') ⟨_, _, _, rfl, Same.refl _⟩
    (fun i σ H' _ h => by obtain ⟨_, _, _, _, S⟩ := h; exact SqL.of (S _ _ hlo14)) ?_ ?_⟩
  · rintro i x σ H15 hx ⟨z10, z11, z12, rfl, S15⟩
    have hx' := ints_get hx
    subst hx'
    have hin := hss (([lx, ly] : List Int).getD i 0) (getD_mem (by have := (List.getElem?_eq_some_iff.mp hx).1; rwa [List.length_map] at this))
    generalize ([lx, ly] : List Int).getD i 0 = lot at hin hx ⊢
    obtain ⟨e0, e1⟩ := hin
    have S1315 := S14.trans S15
    have hr15 := S1315 _ _ hr13
    have ho15 := S1315 _ _ ho13
    have hwd15 := S1315 _ _ hwd13
    try dsimp only [gName]
    refine ⟨_, rfl, _, rfl, _, rfl, r, o, nm, nm', lot, rfl, SqL.of hr15, ho15, ok, hperm, e0, e1, fun cl H16 S16 hcal => ?_⟩
    have c0 := hcal.1
    have c1 := hcal.lt
    have hws := hcal.words ok hperm e0 e1
    try dsimp only [gName]
    refine ⟨_, rfl, _, rfl, o, nm', cl, rfl, SqL.of (S16 _ _ ho15), ok', c0, c1, fun H17 S17 => ?_⟩
    have S1517 := S16.trans S17
    have sz1 := show_size ok' c0 c1
    have sz2 := show_size ok e0 e1
    have wl1 : (wordsF nm' cl).length < 64 := by rw [hws.length_eq]; exact words_lt ok e0 e1
    have wl2 : (wordsF nm lot).length < 64 := words_lt ok e0 e1
    try dsimp only [gName]
    refine seq_if (b := false) (lookOr (c := false) (d := false) (fun Q h => ⟨_, rfl, _, rfl, o, nm', cl, _, rfl, rfl, SqL.of (S1517 _ _ ho15), ok', c0, c1, fun H18 S18 => ⟨_, rfl, ne_intS (h _ S18)⟩⟩)
      fun _ H18 S18 => fun Q h => ⟨_, rfl, rfl, showF nm' cl, spc, rfl, rfl, (by decide +kernel), Nat.le_trans (Nat.add_le_add_right sz1 2) (by decide), fun w1 hw1 => ?_⟩) fun H18 S18 => iteF ?_
    · rw [split_show ok' c0 c1]
      have Sw := same_new hw1 (.lst ((wordsF nm' cl).map V.str))
      refine ⟨w1, _, rfl, SqL.of upd_same, wl1, fun s1 ss1 hs10 hp1 hso1 => ?_⟩
      have Ss := same_new hs10 (.lst (ss1.map V.str))
      have hs1 : upd (upd H18 w1 (.lst ((wordsF nm' cl).map V.str))) s1 (.lst (ss1.map V.str)) s1 = some (.lst (ss1.map V.str)) := upd_same
      have S19 := Sw.trans Ss
      generalize upd (upd H18 w1 (.lst ((wordsF nm' cl).map V.str))) s1 (.lst (ss1.map V.str)) = H19 at S19 hs1 ⊢
      refine ⟨_, rfl, _, rfl, r, nm, lot, rfl, SqL.of ((S1517.trans (S18.trans S19)) _ _ hr15), ok, e0, e1, fun H20 S20 => ⟨rfl, showF nm lot, spc, rfl, rfl, (by decide +kernel), Nat.le_trans (Nat.add_le_add_right sz2 2) (by decide), fun w2 hw2 => ?_⟩⟩
      rw [split_show ok e0 e1]
      have Sv := same_new hw2 (.lst ((wordsF nm lot).map V.str))
      refine ⟨w2, _, rfl, SqL.of upd_same, wl2, fun s2 ss2 hs20 hp2 hso2 => ?_⟩
      have St := same_new hs20 (.lst (ss2.map V.str))
      have e12 : ss1 = ss2 := sorted_one hso1 hso2 (hp1.trans (hws.trans hp2.symm))
      subst e12
      have cp1 : ∀ s ∈ ss1, CpOk s := fun s hs => words_cp ok' c0 c1 s (hp1.mem_iff.mp hs)
      refine ne_strs (SqL.of ((S20.trans (Sv.trans St)) _ _ hs1)) (SqL.of upd_same) cp1 cp1 ?_
      rw [decide_eq_true rfl]
      exact ⟨_, rfl, h _ (S19.trans (S20.trans (Sv.trans St)))⟩
    dsimp only [tNext]
    have S1518 := S1517.trans S18
    refine one_if (b := false) (fun Q h => ⟨_, rfl, _, rfl, wd, nm ++ more, lot, rfl, SqL.of (S1518 _ _ hwd15), okw, e0, pow_le_app e1, fun H19 S19 => ⟨_, rfl, _, rfl, r, nm, lot, rfl, SqL.of ((S1518.trans S19) _ _ hr15), ok, e0, e1, fun H20 S20 => ?_⟩⟩) fun H19 S19 => iteF ?_
    · rw [show_wider ok more e0 e1]
      exact ne_str' (h _ (S19.trans S20))
    exact ⟨_, _, _, rfl, S15.trans (S1518.trans S19)⟩
  · rintro σ H15 ⟨z10, z11, z12, rfl, S15⟩
    have S07 : Same H0 H7 := S1.trans (S2.trans (Sl.trans (S4.trans S47)))
    exact ⟨_, _, _, _, _, _, _, _, _, _, _, _, rfl, S07.trans (S713.trans (S14.trans S15))⟩

end
end OL.Q40

namespace OL.Q40
open PySem L2 OL
theorem len1 {us : List Value} (h : us.length = 1) : ∃ x0, us = [x0] := by
  match us, h with
  | [x0], _ => exact ⟨x0, rfl⟩
theorem len2 {us : List Value} (h : us.length = 2) : ∃ x0 x1, us = [x0, x1] := by
  match us, h with
  | [x0, x1], _ => exact ⟨x0, x1, rfl⟩
theorem len3 {us : List Value} (h : us.length = 3) : ∃ x0 x1 x2, us = [x0, x1, x2] := by
  match us, h with
  | [x0, x1, x2], _ => exact ⟨x0, x1, x2, rfl⟩
theorem len4 {us : List Value} (h : us.length = 4) : ∃ x0 x1 x2 x3, us = [x0, x1, x2, x3] := by
  match us, h with
  | [x0, x1, x2, x3], _ => exact ⟨x0, x1, x2, x3, rfl⟩
set_option maxHeartbeats 4000000 in
theorem all_mk {l : PySem.W.OpenLaw} {w : World} {K : PySem.W.Frag} {h : Heap} {mg : Str → Option Value} {fa f0 f1 f2 f3 f4 f5 f6 f7 f8 f9 f10 f11 f12 f13 f14 f15 f16 f17 f18 f19 f20 f21 f22 : Addr} (X : K.In h) (G : h.Ns mainGlobals mg) (hfa : mg "law" = some (.ref fa))
    {od0 an0 od1 an1 od2 an2 od3 an3 od4 an4 od5 an5 od6 an6 od7 an7 od8 an8 od9 an9 od10 an10 od11 an11 od12 an12 od13 an13 od14 an14 od15 an15 od16 an16 od17 an17 od18 an18 od19 an19 od20 an20 od21 an21 od22 an22 : Option Addr} {sl0 sl1 sl2 sl3 sl4 sl5 sl6 sl7 sl8 sl9 sl10 sl11 sl12 sl13 sl14 sl15 sl16 sl17 sl18 sl19 sl20 sl21 sl22 : Array (Option Value)} {oc0 kV0 dc0 pm0 cd0 ct0 oc1 kV1 dc1 pm1 cd1 ct1 oc2 kV2 dc2 pm2 cd2 ct2 oc3 kV3 dc3 pm3 cd3 ct3 oc4 kV4 dc4 pm4 cd4 ct4 oc5 kV5 dc5 pm5 cd5 ct5 oc6 kV6 dc6 pm6 cd6 ct6 oc7 kV7 dc7 pm7 cd7 ct7 oc8 kV8 dc8 pm8 cd8 ct8 oc9 kV9 dc9 pm9 cd9 ct9 oc10 kV10 dc10 pm10 cd10 ct10 oc11 kV11 dc11 pm11 cd11 ct11 oc12 kV12 dc12 pm12 cd12 ct12 oc13 kV13 dc13 pm13 cd13 ct13 oc14 kV14 dc14 pm14 cd14 ct14 oc15 kV15 dc15 pm15 cd15 ct15 oc16 kV16 dc16 pm16 cd16 ct16 oc17 kV17 dc17 pm17 cd17 ct17 oc18 kV18 dc18 pm18 cd18 ct18 oc19 kV19 dc19 pm19 cd19 ct19 oc20 kV20 dc20 pm20 cd20 ct20 oc21 kV21 dc21 pm21 cd21 ct21 oc22 kV22 dc22 pm22 cd22 ct22 : Value}
    (a0 : PySem.W.nsIn K mainGlobals "has" = some (some (.ref f0))) (l0 : K.lookup f0 = some ⟨oc0, od0, .func (PySem.W.fnOf "has" "has" (defArgs sHas) (defBody sHas) (defScope sHas) .none kV0 dc0 pm0 an0 cd0 ct0), sl0⟩) (c0 : PySem.W.codeIn K cd0 "has" = true) (k0 : PySem.W.keepIn K (.ref f0) = true)
    (a1 : PySem.W.nsIn K mainGlobals "has_thing" = some (some (.ref f1))) (l1 : K.lookup f1 = some ⟨oc1, od1, .func (PySem.W.fnOf "has_thing" "has_thing" (defArgs sHasT) (defBody sHasT) (defScope sHasT) .none kV1 dc1 pm1 an1 cd1 ct1), sl1⟩) (c1 : PySem.W.codeIn K cd1 "has_thing" = true) (k1 : PySem.W.keepIn K (.ref f1) = true)
    (a2 : PySem.W.nsIn K mainGlobals "with_thing" = some (some (.ref f2))) (l2 : K.lookup f2 = some ⟨oc2, od2, .func (PySem.W.fnOf "with_thing" "with_thing" (defArgs sWith) (defBody sWith) (defScope sWith) .none kV2 dc2 pm2 an2 cd2 ct2), sl2⟩) (c2 : PySem.W.codeIn K cd2 "with_thing" = true) (k2 : PySem.W.keepIn K (.ref f2) = true)
    (a3 : PySem.W.nsIn K mainGlobals "lot_of" = some (some (.ref f3))) (l3 : K.lookup f3 = some ⟨oc3, od3, .func (PySem.W.fnOf "lot_of" "lot_of" (defArgs sLotOf) (defBody sLotOf) (defScope sLotOf) .none kV3 dc3 pm3 an3 cd3 ct3), sl3⟩) (c3 : PySem.W.codeIn K cd3 "lot_of" = true) (k3 : PySem.W.keepIn K (.ref f3) = true)
    (a4 : PySem.W.nsIn K mainGlobals "things_in" = some (some (.ref f4))) (l4 : K.lookup f4 = some ⟨oc4, od4, .func (PySem.W.fnOf "things_in" "things_in" (defArgs sThings) (defBody sThings) (defScope sThings) .none kV4 dc4 pm4 an4 cd4 ct4), sl4⟩) (c4 : PySem.W.codeIn K cd4 "things_in" = true) (k4 : PySem.W.keepIn K (.ref f4) = true)
    (a5 : PySem.W.nsIn K mainGlobals "show_lot" = some (some (.ref f5))) (l5 : K.lookup f5 = some ⟨oc5, od5, .func (PySem.W.fnOf "show_lot" "show_lot" (defArgs s_show_lot) (defBody s_show_lot) (defScope s_show_lot) .none kV5 dc5 pm5 an5 cd5 ct5), sl5⟩) (c5 : PySem.W.codeIn K cd5 "show_lot" = true) (k5 : PySem.W.keepIn K (.ref f5) = true)
    (a6 : PySem.W.nsIn K mainGlobals "show_rule" = some (some (.ref f6))) (l6 : K.lookup f6 = some ⟨oc6, od6, .func (PySem.W.fnOf "show_rule" "show_rule" (defArgs s_show_rule) (defBody s_show_rule) (defScope s_show_rule) .none kV6 dc6 pm6 an6 cd6 ct6), sl6⟩) (c6 : PySem.W.codeIn K cd6 "show_rule" = true) (k6 : PySem.W.keepIn K (.ref f6) = true)
    (a7 : PySem.W.nsIn K mainGlobals "show_day" = some (some (.ref f7))) (l7 : K.lookup f7 = some ⟨oc7, od7, .func (PySem.W.fnOf "show_day" "show_day" (defArgs s_show_day) (defBody s_show_day) (defScope s_show_day) .none kV7 dc7 pm7 an7 cd7 ct7), sl7⟩) (c7 : PySem.W.codeIn K cd7 "show_day" = true) (k7 : PySem.W.keepIn K (.ref f7) = true)
    (a8 : PySem.W.nsIn K mainGlobals "joined" = some (some (.ref f8))) (l8 : K.lookup f8 = some ⟨oc8, od8, .func (PySem.W.fnOf "joined" "joined" (defArgs s_joined) (defBody s_joined) (defScope s_joined) .none kV8 dc8 pm8 an8 cd8 ct8), sl8⟩) (c8 : PySem.W.codeIn K cd8 "joined" = true) (k8 : PySem.W.keepIn K (.ref f8) = true)
    (a9 : PySem.W.nsIn K mainGlobals "read_lot" = some (some (.ref f9))) (l9 : K.lookup f9 = some ⟨oc9, od9, .func (PySem.W.fnOf "read_lot" "read_lot" (defArgs s_read_lot) (defBody s_read_lot) (defScope s_read_lot) .none kV9 dc9 pm9 an9 cd9 ct9), sl9⟩) (c9 : PySem.W.codeIn K cd9 "read_lot" = true) (k9 : PySem.W.keepIn K (.ref f9) = true)
    (a10 : PySem.W.nsIn K mainGlobals "read_rule" = some (some (.ref f10))) (l10 : K.lookup f10 = some ⟨oc10, od10, .func (PySem.W.fnOf "read_rule" "read_rule" (defArgs s_read_rule) (defBody s_read_rule) (defScope s_read_rule) .none kV10 dc10 pm10 an10 cd10 ct10), sl10⟩) (c10 : PySem.W.codeIn K cd10 "read_rule" = true) (k10 : PySem.W.keepIn K (.ref f10) = true)
    (a11 : PySem.W.nsIn K mainGlobals "read_day" = some (some (.ref f11))) (l11 : K.lookup f11 = some ⟨oc11, od11, .func (PySem.W.fnOf "read_day" "read_day" (defArgs s_read_day) (defBody s_read_day) (defScope s_read_day) .none kV11 dc11 pm11 an11 cd11 ct11), sl11⟩) (c11 : PySem.W.codeIn K cd11 "read_day" = true) (k11 : PySem.W.keepIn K (.ref f11) = true)
    (a12 : PySem.W.nsIn K mainGlobals "taken_apart" = some (some (.ref f12))) (l12 : K.lookup f12 = some ⟨oc12, od12, .func (PySem.W.fnOf "taken_apart" "taken_apart" (defArgs s_taken_apart) (defBody s_taken_apart) (defScope s_taken_apart) .none kV12 dc12 pm12 an12 cd12 ct12), sl12⟩) (c12 : PySem.W.codeIn K cd12 "taken_apart" = true) (k12 : PySem.W.keepIn K (.ref f12) = true)
    (a13 : PySem.W.nsIn K mainGlobals "split_in" = some (some (.ref f13))) (l13 : K.lookup f13 = some ⟨oc13, od13, .func (PySem.W.fnOf "split_in" "split_in" (defArgs s_split_in) (defBody s_split_in) (defScope s_split_in) .none kV13 dc13 pm13 an13 cd13 ct13), sl13⟩) (c13 : PySem.W.codeIn K cd13 "split_in" = true) (k13 : PySem.W.keepIn K (.ref f13) = true)
    (a14 : PySem.W.nsIn K mainGlobals "_law_mixed" = some (some (.ref f14))) (l14 : K.lookup f14 = some ⟨oc14, od14, .func (PySem.W.fnOf "_law_mixed" "_law_mixed" (defArgs sMixed) (defBody sMixed) (defScope sMixed) .none kV14 dc14 pm14 an14 cd14 ct14), sl14⟩) (c14 : PySem.W.codeIn K cd14 "_law_mixed" = true) (k14 : PySem.W.keepIn K (.ref f14) = true)
    (a15 : PySem.W.nsIn K mainGlobals "_law_pile" = some (some (.ref f15))) (l15 : K.lookup f15 = some ⟨oc15, od15, .func (PySem.W.fnOf "_law_pile" "_law_pile" (defArgs sPile) (defBody sPile) (defScope sPile) .none kV15 dc15 pm15 an15 cd15 ct15), sl15⟩) (c15 : PySem.W.codeIn K cd15 "_law_pile" = true) (k15 : PySem.W.keepIn K (.ref f15) = true)
    (a16 : PySem.W.nsIn K mainGlobals "_law_take" = some (some (.ref f16))) (l16 : K.lookup f16 = some ⟨oc16, od16, .func (PySem.W.fnOf "_law_take" "_law_take" (defArgs sTake) (defBody sTake) (defScope sTake) .none kV16 dc16 pm16 an16 cd16 ct16), sl16⟩) (c16 : PySem.W.codeIn K cd16 "_law_take" = true) (k16 : PySem.W.keepIn K (.ref f16) = true)
    (a17 : PySem.W.nsIn K mainGlobals "_law_order" = some (some (.ref f17))) (l17 : K.lookup f17 = some ⟨oc17, od17, .func (PySem.W.fnOf "_law_order" "_law_order" (defArgs s_L_order) (defBody s_L_order) (defScope s_L_order) .none kV17 dc17 pm17 an17 cd17 ct17), sl17⟩) (c17 : PySem.W.codeIn K cd17 "_law_order" = true) (k17 : PySem.W.keepIn K (.ref f17) = true)
    (a18 : PySem.W.nsIn K mainGlobals "_law_names" = some (some (.ref f18))) (l18 : K.lookup f18 = some ⟨oc18, od18, .func (PySem.W.fnOf "_law_names" "_law_names" (defArgs s_L_names) (defBody s_L_names) (defScope s_L_names) .none kV18 dc18 pm18 an18 cd18 ct18), sl18⟩) (c18 : PySem.W.codeIn K cd18 "_law_names" = true) (k18 : PySem.W.keepIn K (.ref f18) = true)
    (a19 : PySem.W.nsIn K mainGlobals "_law_lot" = some (some (.ref f19))) (l19 : K.lookup f19 = some ⟨oc19, od19, .func (PySem.W.fnOf "_law_lot" "_law_lot" (defArgs s_L_lot) (defBody s_L_lot) (defScope s_L_lot) .none kV19 dc19 pm19 an19 cd19 ct19), sl19⟩) (c19 : PySem.W.codeIn K cd19 "_law_lot" = true) (k19 : PySem.W.keepIn K (.ref f19) = true)
    (a20 : PySem.W.nsIn K mainGlobals "_law_called" = some (some (.ref f20))) (l20 : K.lookup f20 = some ⟨oc20, od20, .func (PySem.W.fnOf "_law_called" "_law_called" (defArgs s_L_called) (defBody s_L_called) (defScope s_L_called) .none kV20 dc20 pm20 an20 cd20 ct20), sl20⟩) (c20 : PySem.W.codeIn K cd20 "_law_called" = true) (k20 : PySem.W.keepIn K (.ref f20) = true)
    (a21 : PySem.W.nsIn K mainGlobals "_law_right" = some (some (.ref f21))) (l21 : K.lookup f21 = some ⟨oc21, od21, .func (PySem.W.fnOf "_law_right" "_law_right" (defArgs s_L_right) (defBody s_L_right) (defScope s_L_right) .none kV21 dc21 pm21 an21 cd21 ct21), sl21⟩) (c21 : PySem.W.codeIn K cd21 "_law_right" = true) (k21 : PySem.W.keepIn K (.ref f21) = true)
    (a22 : PySem.W.nsIn K mainGlobals "law" = some (some (.ref f22))) (l22 : K.lookup f22 = some ⟨oc22, od22, .func (PySem.W.fnOf "law" "law" (defArgs s_law) (defBody s_law) (defScope s_law) .none kV22 dc22 pm22 an22 cd22 ct22), sl22⟩) (c22 : PySem.W.codeIn K cd22 "law" = true) (k22 : PySem.W.keepIn K (.ref f22) = true)
    (z_len : PySem.W.nsIn K mainGlobals "len" = some none) (z_int : PySem.W.nsIn K mainGlobals "int" = some none) (z_abs : PySem.W.nsIn K mainGlobals "abs" = some none) (z_enumerate : PySem.W.nsIn K mainGlobals "enumerate" = some none) (z_range : PySem.W.nsIn K mainGlobals "range" = some none) (z_list : PySem.W.nsIn K mainGlobals "list" = some none) (z_min : PySem.W.nsIn K mainGlobals "min" = some none) (z_sorted : PySem.W.nsIn K mainGlobals "sorted" = some none) :
    ∃ fd : FuncData, (∀ (s : Shared) (v : Value), BindsTo s fd ⟨[v], []⟩ [("_law_script", v)]) ∧ ∀ base : Heap, K.In base → base.Ns mainGlobals mg → FnOk l.prog w K mg base CX0 8 fa fd ["_law_script"] (spLaw K) := by
  have e := hfa.symm.trans (PySem.W.mg_of X G a22)
  cases e
  have F0 := fun_mk (st := sHas) l0 c0 k0
  have b0 := F0.binds (ps := ["one", "other"]) fun _ _ _ _ _ _ us hl => by obtain ⟨_, _, rfl⟩ := len2 hl; rfl
  have m0 := PySem.W.mg_of X G a0
  have F1 := fun_mk (st := sHasT) l1 c1 k1
  have b1 := F1.binds (ps := ["lot", "thing"]) fun _ _ _ _ _ _ us hl => by obtain ⟨_, _, rfl⟩ := len2 hl; rfl
  have m1 := PySem.W.mg_of X G a1
  have F2 := fun_mk (st := sWith) l2 c2 k2
  have b2 := F2.binds (ps := ["lot", "thing"]) fun _ _ _ _ _ _ us hl => by obtain ⟨_, _, rfl⟩ := len2 hl; rfl
  have m2 := PySem.W.mg_of X G a2
  have F3 := fun_mk (st := sLotOf) l3 c3 k3
  have b3 := F3.binds (ps := ["things"]) fun _ _ _ _ _ _ us hl => by obtain ⟨_, rfl⟩ := len1 hl; rfl
  have m3 := PySem.W.mg_of X G a3
  have F4 := fun_mk (st := sThings) l4 c4 k4
  have b4 := F4.binds (ps := ["lot"]) fun _ _ _ _ _ _ us hl => by obtain ⟨_, rfl⟩ := len1 hl; rfl
  have m4 := PySem.W.mg_of X G a4
  have F5 := fun_mk (st := s_show_lot) l5 c5 k5
  have b5 := F5.binds (ps := ["names", "lot"]) fun _ _ _ _ _ _ us hl => by obtain ⟨_, _, rfl⟩ := len2 hl; rfl
  have m5 := PySem.W.mg_of X G a5
  have F6 := fun_mk (st := s_show_rule) l6 c6 k6
  have b6 := F6.binds (ps := ["names", "rule"]) fun _ _ _ _ _ _ us hl => by obtain ⟨_, _, rfl⟩ := len2 hl; rfl
  have m6 := PySem.W.mg_of X G a6
  have F7 := fun_mk (st := s_show_day) l7 c7 k7
  have b7 := F7.binds (ps := ["names", "day"]) fun _ _ _ _ _ _ us hl => by obtain ⟨_, _, rfl⟩ := len2 hl; rfl
  have m7 := PySem.W.mg_of X G a7
  have F8 := fun_mk (st := s_joined) l8 c8 k8
  have b8 := F8.binds (ps := ["sign", "texts"]) fun _ _ _ _ _ _ us hl => by obtain ⟨_, _, rfl⟩ := len2 hl; rfl
  have m8 := PySem.W.mg_of X G a8
  have F9 := fun_mk (st := s_read_lot) l9 c9 k9
  have b9 := F9.binds (ps := ["names", "text"]) fun _ _ _ _ _ _ us hl => by obtain ⟨_, _, rfl⟩ := len2 hl; rfl
  have m9 := PySem.W.mg_of X G a9
  have F10 := fun_mk (st := s_read_rule) l10 c10 k10
  have b10 := F10.binds (ps := ["names", "text"]) fun _ _ _ _ _ _ us hl => by obtain ⟨_, _, rfl⟩ := len2 hl; rfl
  have m10 := PySem.W.mg_of X G a10
  have F11 := fun_mk (st := s_read_day) l11 c11 k11
  have b11 := F11.binds (ps := ["names", "text"]) fun _ _ _ _ _ _ us hl => by obtain ⟨_, _, rfl⟩ := len2 hl; rfl
  have m11 := PySem.W.mg_of X G a11
  have F12 := fun_mk (st := s_taken_apart) l12 c12 k12
  have b12 := F12.binds (ps := ["sign", "text"]) fun _ _ _ _ _ _ us hl => by obtain ⟨_, _, rfl⟩ := len2 hl; rfl
  have m12 := PySem.W.mg_of X G a12
  have F13 := fun_mk (st := s_split_in) l13 c13 k13
  have b13 := F13.binds (ps := ["text", "sign", "many"]) fun _ _ _ _ _ _ us hl => by obtain ⟨_, _, _, rfl⟩ := len3 hl; rfl
  have m13 := PySem.W.mg_of X G a13
  have F14 := fun_mk (st := sMixed) l14 c14 k14
  have b14 := F14.binds (ps := ["_law_cell", "_law_k"]) fun _ _ _ _ _ _ us hl => by obtain ⟨_, _, rfl⟩ := len2 hl; rfl
  have m14 := PySem.W.mg_of X G a14
  have F15 := fun_mk (st := sPile) l15 c15 k15
  have b15 := F15.binds (ps := ["_law_script", "_law_k"]) fun _ _ _ _ _ _ us hl => by obtain ⟨_, _, rfl⟩ := len2 hl; rfl
  have m15 := PySem.W.mg_of X G a15
  have F16 := fun_mk (st := sTake) l16 c16 k16
  have b16 := F16.binds (ps := ["_law_pile_here", "_law_many"]) fun _ _ _ _ _ _ us hl => by obtain ⟨_, _, rfl⟩ := len2 hl; rfl
  have m16 := PySem.W.mg_of X G a16
  have F17 := fun_mk (st := s_L_order) l17 c17 k17
  have b17 := F17.binds (ps := ["_law_pile_here", "_law_some"]) fun _ _ _ _ _ _ us hl => by obtain ⟨_, _, rfl⟩ := len2 hl; rfl
  have m17 := PySem.W.mg_of X G a17
  have F18 := fun_mk (st := s_L_names) l18 c18 k18
  have b18 := F18.binds (ps := ["_law_script", "_law_start"]) fun _ _ _ _ _ _ us hl => by obtain ⟨_, _, rfl⟩ := len2 hl; rfl
  have m18 := PySem.W.mg_of X G a18
  have F19 := fun_mk (st := s_L_lot) l19 c19 k19
  have b19 := F19.binds (ps := ["_law_pile_here", "_law_names_here"]) fun _ _ _ _ _ _ us hl => by obtain ⟨_, _, rfl⟩ := len2 hl; rfl
  have m19 := PySem.W.mg_of X G a19
  have F20 := fun_mk (st := s_L_called) l20 c20 k20
  have b20 := F20.binds (ps := ["_law_names_here", "_law_other", "_law_lot_here"]) fun _ _ _ _ _ _ us hl => by obtain ⟨_, _, _, rfl⟩ := len3 hl; rfl
  have m20 := PySem.W.mg_of X G a20
  have F21 := fun_mk (st := s_L_right) l21 c21 k21
  have b21 := F21.binds (ps := ["_law_names_here", "_law_one", "_law_two", "_law_days"]) fun _ _ _ _ _ _ us hl => by obtain ⟨_, _, _, _, rfl⟩ := len4 hl; rfl
  have m21 := PySem.W.mg_of X G a21
  have F22 := fun_mk (st := s_law) l22 c22 k22
  have y_len := PySem.W.mg_none_of X G z_len
  have y_int := PySem.W.mg_none_of X G z_int
  have y_abs := PySem.W.mg_none_of X G z_abs
  have y_enumerate := PySem.W.mg_none_of X G z_enumerate
  have y_range := PySem.W.mg_none_of X G z_range
  have y_list := PySem.W.mg_none_of X G z_list
  have y_min := PySem.W.mg_none_of X G z_min
  have y_sorted := PySem.W.mg_none_of X G z_sorted
  refine ⟨PySem.W.fnOf "law" "law" (defArgs s_law) (defBody s_law) (defScope s_law) .none kV22 dc22 pm22 an22 cd22 ct22, fun s v => .of_eq rfl, fun base _ _ => ?_⟩
  have D0 : Dfn l.prog w K mg base 1 _ _ _ := ok_has F0 b0 m0 
  have D2 : Dfn l.prog w K mg base 1 _ _ _ := ok_with F2 b2 m2 
  have D8 : Dfn l.prog w K mg base 1 _ _ _ := ok_joined F8 b8 m8 y_len
  have D12 : Dfn l.prog w K mg base 1 _ _ _ := ok_taken_apart F12 b12 m12 
  have D13 : Dfn l.prog w K mg base 1 _ _ _ := ok_split_in F13 b13 m13 y_len
  have D14 : Dfn l.prog w K mg base 1 _ _ _ := ok_mixed F14 b14 m14 
  have D15 : Dfn l.prog w K mg base 1 _ _ _ := ok_pile F15 b15 m15 y_len y_int y_abs
  have D20 : Dfn l.prog w K mg base 1 _ _ _ := ok_L_called F20 b20 m20 y_enumerate
  have D1 : Dfn l.prog w K mg base 2 _ _ _ := ok_hasT F1 b1 m1 D0
  have D3 : Dfn l.prog w K mg base 2 _ _ _ := ok_lotOf F3 b3 m3 D2
  have D16 : Dfn l.prog w K mg base 2 _ _ _ := ok_take F16 b16 m16 D14
  have D4 : Dfn l.prog w K mg base 3 _ _ _ := ok_things F4 b4 m4 y_range D1
  have D17 : Dfn l.prog w K mg base 3 _ _ _ := ok_L_order F17 b17 m17 y_list y_len D16
  have D19 : Dfn l.prog w K mg base 3 _ _ _ := ok_L_lot F19 b19 m19 y_len D16
  have D5 : Dfn l.prog w K mg base 4 _ _ _ := ok_show_lot F5 b5 m5 D4
  have D18 : Dfn l.prog w K mg base 4 _ _ _ := ok_L_names F18 b18 m18 y_range y_len y_min (D15.mono (by decide)) (D16.mono (by decide)) D17
  have D6 : Dfn l.prog w K mg base 5 _ _ _ := ok_show_rule F6 b6 m6 D5
  have D7 : Dfn l.prog w K mg base 5 _ _ _ := ok_show_day F7 b7 m7 (D8.mono (by decide)) D5
  have D9 : Dfn l.prog w K mg base 5 _ _ _ := ok_read_lot F9 b9 m9 y_enumerate (D3.mono (by decide)) D5
  have D10 : Dfn l.prog w K mg base 6 _ _ _ := ok_read_rule F10 b10 m10 (D13.mono (by decide)) D9
  have D11 : Dfn l.prog w K mg base 6 _ _ _ := ok_read_day F11 b11 m11 (D12.mono (by decide)) D9
  have D21 : Dfn l.prog w K mg base 7 _ _ _ := ok_L_right F21 b21 m21 (D6.mono (by decide)) D10 (D9.mono (by decide)) D11 (D7.mono (by decide))
  exact ok_law F22 y_range y_len y_int y_sorted (D18.mono (by decide)) (D19.mono (by decide)) (D15.mono (by decide)) (D16.mono (by decide)) (D17.mono (by decide)) D21 (D20.mono (by decide)) (D5.mono (by decide)) (D9.mono (by decide))
theorem walk {l : PySem.W.OpenLaw} {q : Program} {loose : List Str} {XP : (Str → Option Value) → Heap → Prop} {YP : World → Heap → Prop} {d : DefRec} {K : Params → PySem.W.Frag} (hn : l.most = some 63) (hdf : d.params.defaults = [])
    (hY : ∀ (w : World) (h : Heap), YP w h → (K w.params).In h)
    (F : ∀ (w : World) (mg : Str → Option Value) (fa : Addr) (h : Heap), (K w.params).In h → h.Ns mainGlobals mg → mg d.name = some (.ref fa) →
      ∃ fd : FuncData, (∀ (s : Shared) (u : Value), BindsTo s fd ⟨[u], []⟩ [("_law_script", u)]) ∧ ∀ base : Heap, (K w.params).In base → base.Ns mainGlobals mg → FnOk l.prog w (K w.params) mg base CX0 8 fa fd ["_law_script"] (spLaw (K w.params))) :
    PySem.W.WalkO q loose XP YP l.row.toRowW d [] (fun f vs => PySem.call f vs) :=
  L2.walk_of (n := 63) (k := 8) (x := "_law_script") (CX := fun _ => CX0) (sp := fun w => spLaw (K w.params)) hn (by decide) hdf ⟨rfl, by decide, by decide, rfl⟩ hY F (fun _ _ a ns hl _ hS => ⟨a, ns, rfl, hS, hl, fun _ => rfl⟩) fun _ _ _ _ _ z => z
end OL.Q40
open PySem PySem.W PyProof.Rows
set_option maxRecDepth 100000 in
set_option maxHeartbeats 0 in
theorem PySem.Challenge.cw_oftenlots_k40_whole_texts_led_about_holds : PySem.Challenge.rw_oftenlots_k40_whole_texts_led_about.Holds := by
  w_on; o_law; k_head; (case hw => w_witness2)
  k_fill
  refine OL.Q40.walk (l := PySem.Challenge.rw_oftenlots_k40_whole_texts_led_about) rfl rfl (fun w h Y => PySem.W.kIn_of Y) ?F
  case F =>
    intro w mg fa h KX G hmg
    refine' OL.Q40.all_mk KX G hmg ?a0 ?l0 ?c0 ?k0 ?a1 ?l1 ?c1 ?k1 ?a2 ?l2 ?c2 ?k2 ?a3 ?l3 ?c3 ?k3 ?a4 ?l4 ?c4 ?k4 ?a5 ?l5 ?c5 ?k5 ?a6 ?l6 ?c6 ?k6 ?a7 ?l7 ?c7 ?k7 ?a8 ?l8 ?c8 ?k8 ?a9 ?l9 ?c9 ?k9 ?a10 ?l10 ?c10 ?k10 ?a11 ?l11 ?c11 ?k11 ?a12 ?l12 ?c12 ?k12 ?a13 ?l13 ?c13 ?k13 ?a14 ?l14 ?c14 ?k14 ?a15 ?l15 ?c15 ?k15 ?a16 ?l16 ?c16 ?k16 ?a17 ?l17 ?c17 ?k17 ?a18 ?l18 ?c18 ?k18 ?a19 ?l19 ?c19 ?k19 ?a20 ?l20 ?c20 ?k20 ?a21 ?l21 ?c21 ?k21 ?a22 ?l22 ?c22 ?k22 ?z_len ?z_int ?z_abs ?z_enumerate ?z_range ?z_list ?z_min ?z_sorted
    (case a0 => k_is)
    (case l0 => k_is)
    (case c0 => k_is)
    (case k0 => k_is)
    (case a1 => k_is)
    (case l1 => k_is)
    (case c1 => k_is)
    (case k1 => k_is)
    (case a2 => k_is)
    (case l2 => k_is)
    (case c2 => k_is)
    (case k2 => k_is)
    (case a3 => k_is)
    (case l3 => k_is)
    (case c3 => k_is)
    (case k3 => k_is)
    (case a4 => k_is)
    (case l4 => k_is)
    (case c4 => k_is)
    (case k4 => k_is)
    (case a5 => k_is)
    (case l5 => k_is)
    (case c5 => k_is)
    (case k5 => k_is)
    (case a6 => k_is)
    (case l6 => k_is)
    (case c6 => k_is)
    (case k6 => k_is)
    (case a7 => k_is)
    (case l7 => k_is)
    (case c7 => k_is)
    (case k7 => k_is)
    (case a8 => k_is)
    (case l8 => k_is)
    (case c8 => k_is)
    (case k8 => k_is)
    (case a9 => k_is)
    (case l9 => k_is)
    (case c9 => k_is)
    (case k9 => k_is)
    (case a10 => k_is)
    (case l10 => k_is)
    (case c10 => k_is)
    (case k10 => k_is)
    (case a11 => k_is)
    (case l11 => k_is)
    (case c11 => k_is)
    (case k11 => k_is)
    (case a12 => k_is)
    (case l12 => k_is)
    (case c12 => k_is)
    (case k12 => k_is)
    (case a13 => k_is)
    (case l13 => k_is)
    (case c13 => k_is)
    (case k13 => k_is)
    (case a14 => k_is)
    (case l14 => k_is)
    (case c14 => k_is)
    (case k14 => k_is)
    (case a15 => k_is)
    (case l15 => k_is)
    (case c15 => k_is)
    (case k15 => k_is)
    (case a16 => k_is)
    (case l16 => k_is)
    (case c16 => k_is)
    (case k16 => k_is)
    (case a17 => k_is)
    (case l17 => k_is)
    (case c17 => k_is)
    (case k17 => k_is)
    (case a18 => k_is)
    (case l18 => k_is)
    (case c18 => k_is)
    (case k18 => k_is)
    (case a19 => k_is)
    (case l19 => k_is)
    (case c19 => k_is)
    (case k19 => k_is)
    (case a20 => k_is)
    (case l20 => k_is)
    (case c20 => k_is)
    (case k20 => k_is)
    (case a21 => k_is)
    (case l21 => k_is)
    (case c21 => k_is)
    (case k21 => k_is)
    (case a22 => k_is)
    (case l22 => k_is)
    (case c22 => k_is)
    (case k22 => k_is)
    (case z_len => k_is)
    (case z_int => k_is)
    (case z_abs => k_is)
    (case z_enumerate => k_is)
    (case z_range => k_is)
    (case z_list => k_is)
    (case z_min => k_is)
    (case z_sorted => k_is)
#print axioms PySem.Challenge.cw_oftenlots_k40_whole_texts_led_about_holds
