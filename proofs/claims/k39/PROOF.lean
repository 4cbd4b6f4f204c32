import PyProof.Rows.All
import Wide.All
import OpenK.AllK
import Wide.FinOn
import Lean
import PyProof.EqAt
import PyProof.EqKinds
import PyProof.TupleCall
import PyProof.Rows.SortShellK
import KE.KSortTup
import PyProof.AttrMissHeap
import KE.KDictOf
import KE.KDictSum
import KE.KRevSl
import KE.KItemsList
import PyProof.ReprBulk
import PyProof.Rows.ZipGen
import PyProof.ListRange
import KE.KDictList
import PyProof.StrBlockH
import PyProof.StrLawsChain
import PyProof.Rows.StrItems
import PyProof.Rows.StrSplitCount
import PyProof.Rows.StrJoin2
import PyProof.SliceStr2
import PyProof.Rows.StrClose
import PyProof.Rows.CatFin
import PyProof.StrBlock2
import PyProof.Rows.SortStr
import PyProof.StrWalks
import KE.KTryMore
import PyProof.ExcArgs
import PyProof.StrCalls
import KE.KSortKey
import KE.KLam
import KE.KNestM
import PyProof.DictUpdate
import PyProof.Rows.SetFrom
import PyProof.SetRoads
import PyProof.Rows.SetListFold
import KE.IntBitsLaws
import PyProof.NeKinds
import PyProof.TupleOfSeq
import PyProof.DictFindH
import PyProof.DictTruth
import KE.RegKTryMore
import KE.RegKIsAll
import PySem.Challenge.RW_oftenlots_k39_texts_refused
set_option Elab.async false
set_option linter.all false
set_option maxRecDepth 100000

namespace L2
open PySem PySem.Spec PyProof.Rows

noncomputable abbrev Key := Sum Int Str
noncomputable def keyIs : Key → Value → Bool
  | .inl k, v => Value.isInt k v
  | .inr x, v => Value.isStrOf x v
noncomputable def keyH (w : World) : Key → Int
  | .inl k => hashInt k
  | .inr x => hashStr w x
theorem keyIs_shape : ∀ {k : Key} {v : Value}, keyIs k v = true → (∃ i t, k = Sum.inl i ∧ v = Value.int i t) ∨ (∃ x t, k = Sum.inr x ∧ v = Value.str x t)
  | .inl i, v, h => by
    obtain ⟨t, e⟩ := Value.isInt_shape (k := i) (v := v) h
    exact .inl ⟨i, t, rfl, e⟩
  | .inr x, v, h => by
    obtain ⟨t, e⟩ := Value.isStrOf_shape (x := x) (v := v) h
    exact .inr ⟨x, t, rfl, e⟩
theorem key_ll (a b : Int) : decide ((Sum.inl a : Key) = Sum.inl b) = (a == b) := by
  by_cases e : a = b
  · subst e; simp
  · have h : ¬ (Sum.inl a : Key) = Sum.inl b := fun q => e (Sum.inl.inj q)
    rw [decide_eq_false h]
    exact (beq_eq_false_iff_ne.mpr e).symm
theorem key_rr (a b : Str) : decide ((Sum.inr a : Key) = Sum.inr b) = decide (a = b) := by
  by_cases e : a = b
  · subst e; simp
  · have h : ¬ (Sum.inr a : Key) = Sum.inr b := fun q => e (Sum.inr.inj q)
    rw [decide_eq_false h, decide_eq_false e]
theorem key_lr (a : Int) (b : Str) : decide ((Sum.inl a : Key) = Sum.inr b) = false := decide_eq_false (fun q => nomatch q)
theorem key_rl (a : Str) (b : Int) : decide ((Sum.inr a : Key) = Sum.inl b) = false := decide_eq_false (fun q => nomatch q)

noncomputable def mixKind (prog : Program) (w : World) : PySem.KeyKind prog w Key where
  is := keyIs
  hash := keyH w
  inj := fun v a b ha hb => by
    rcases keyIs_shape ha with ⟨i, t, rfl, rfl⟩ | ⟨x, t, rfl, rfl⟩
    · rcases keyIs_shape hb with ⟨j, u, rfl, e⟩ | ⟨y, u, rfl, e⟩
      · injection e with e1 _; rw [e1]
      · exact nomatch e
    · rcases keyIs_shape hb with ⟨j, u, rfl, e⟩ | ⟨y, u, rfl, e⟩
      · exact nomatch e
      · injection e with e1 _; rw [e1]
  byValue := fun k v h => by
    rcases keyIs_shape h with ⟨i, t, rfl, rfl⟩ | ⟨x, t, rfl, rfl⟩ <;> rfl
  pyHash := fun hv h => by
    rcases keyIs_shape hv with ⟨i, t, rfl, rfl⟩ | ⟨x, t, rfl, rfl⟩
    · exact wpAny_pyHash_int h
    · exact wpAny_pyHash_str h
  eqBool := fun hu hv h => by
    rcases keyIs_shape hu with ⟨i, t, rfl, rfl⟩ | ⟨x, t, rfl, rfl⟩
    · rcases keyIs_shape hv with ⟨j, u, rfl, rfl⟩ | ⟨y, u, rfl, rfl⟩
      · rw [key_ll] at h; exact wpAny_eqBool_int h
      · rw [key_lr] at h; exact SeqAt.EqAt.int_str i t y u _ _ _ _ h
    · rcases keyIs_shape hv with ⟨j, u, rfl, rfl⟩ | ⟨y, u, rfl, rfl⟩
      · rw [key_rl] at h; exact SeqAt.EqAt.str_int x t j u _ _ _ _ h
      · rw [key_rr] at h; exact wpAny_eqBool_str h
  «strs» := fun k x t v h => by
    rcases keyIs_shape h with ⟨i, u, rfl, e⟩ | ⟨y, u, rfl, e⟩
    · exact nomatch e
    · injection e with e1 _
      subst e1
      cases v <;> rfl

end L2

namespace L2
open PySem PySem.Spec PyProof.Rows

inductive V where
  | non | bl (b : Bool) | int (i : Int) | str (x : Str) | byt (b : Array UInt8) | flt (b : UInt64) | ref (a : Addr) | ty (n : String)
  deriving DecidableEq

noncomputable def RelV : V → Value → Prop
  | .non, u => u = Value.none
  | .bl b, u => u = Value.bool b
  | .int i, u => ∃ t, u = Value.int i t
  | .str x, u => ∃ t, u = Value.str x t
  | .byt b, u => ∃ t, u = Value.bytes b t
  | .flt b, u => ∃ t, u = Value.float b t
  | .ref a, u => u = Value.ref a
  | .ty n, u => u = Value.type n

noncomputable abbrev Vals : List V → List Value → Prop := Paired RelV
theorem Vals.length {xs : List V} {us : List Value} (r : Vals xs us) : xs.length = us.length := Paired.length r
theorem Vals.get : ∀ {xs : List V} {us : List Value} {i : Nat} {x : V}, Vals xs us → xs[i]? = some x → ∃ u, us[i]? = some u ∧ RelV x u
  | _, _, _, _, .nil, e => by simp at e
  | _, _, 0, _, .cons r _, e => by simp at e; subst e; exact ⟨_, rfl, r⟩
  | _, _, i + 1, x, .cons _ t, e => by
    obtain ⟨u, h1, h2⟩ := Vals.get (i := i) (x := x) t (by simpa using e)
    exact ⟨u, by simpa using h1, h2⟩
theorem Vals.set {x : V} {u : Value} (r : RelV x u) : ∀ {xs : List V} {us : List Value} (i : Nat), Vals xs us → Vals (xs.set i x) (us.set i u)
  | _, _, _, .nil => .nil
  | _, _, 0, .cons _ t => .cons r t
  | _, _, i + 1, .cons q t => .cons q (Vals.set r i t)
theorem Vals.append : ∀ {xs ys : List V} {us ws : List Value}, Vals xs us → Vals ys ws → Vals (xs ++ ys) (us ++ ws)
  | _, _, _, _, .nil, s => s
  | _, _, _, _, .cons r t, s => .cons r (Vals.append t s)
theorem Vals.take : ∀ {xs : List V} {us : List Value} (n : Nat), Vals xs us → Vals (xs.take n) (us.take n)
  | _, _, 0, _ => .nil
  | _, _, _ + 1, .nil => .nil
  | _, _, n + 1, .cons r t => .cons r (Vals.take n t)
theorem Vals.drop : ∀ {xs : List V} {us : List Value} (n : Nat), Vals xs us → Vals (xs.drop n) (us.drop n)
  | _, _, 0, r => r
  | _, _, _ + 1, .nil => .nil
  | _, _, n + 1, .cons _ t => Vals.drop n t
noncomputable def RelO : Option V → Option Value → Prop
  | some v, some u => RelV v u
  | none, none => True
  | _, _ => False
noncomputable def KV {κ : Type} : List (κ × V) → List (κ × Value) → Prop := Paired fun (p : κ × V) (q : κ × Value) => p.1 = q.1 ∧ RelV p.2 q.2

noncomputable def kV : Key → V
  | .inl i => .int i
  | .inr x => .str x

inductive HO where
  /-- a list -/
  | lst (xs : List V)
  /-- a tuple (never changes) -/
  | tup (xs : List V)
  /-- a dict whose keys are ints and texts; one whose keys are tuples of ints and texts (the empty one is both) -/
  | dK (kvs : List (Key × V)) | dT (kvs : List (List Key × V))
  /-- a set of ints: its members, its size -/
  | set (S : Int → Bool) (n : Nat)
  /-- an instance of the class at C, its dict at dx, its attributes -/
  | ins (C dx : Addr) (fs : List (Str × V))
  /-- the dict of the instance at x -/
  | own (x : Addr)
  /-- the dict of an exception -/
  | xd (fs : List (Str × V))
  /-- a bound method, f of x -/
  | met (f x : Addr)
  /-- a range object lo, lo + 1, .. below hi -/
  | rng (lo hi : Int)
  /-- a thing that is known to the object (the script; a dict while a loop walks it): read, never written while it is so -/
  | frz (o : Obj) (u : HO)
  /-- a code object's table -/
  | tbl (ps : Array Value)
  /-- any other thing, by what is true of its one object (a def of one's own: SetO a S n := HO.ext fun h => ..) -/
  | ext (φ : Heap → Prop)

noncomputable abbrev Hp := Addr → Option HO
noncomputable def upd (H : Hp) (a : Addr) (o : HO) : Hp := fun b => if b = a then some o else H b
theorem upd_same {H : Hp} {a : Addr} {o : HO} : upd H a o a = some o := by unfold upd; rw [if_pos rfl]
theorem upd_ne {H : Hp} {a b : Addr} {o : HO} (h : b ≠ a) : upd H a o b = H b := by unfold upd; rw [if_neg h]
theorem ne_of {H : Hp} {a b : Addr} {o u : HO} (h : H a = some o) (h' : H b = some u) (d : o ≠ u) : a ≠ b := by
  intro e; subst e; rw [h] at h'; exact d (Option.some.inj h')
theorem ne_of_none {H : Hp} {a b : Addr} {o : HO} (h : H a = some o) (h' : H b = none) : a ≠ b := by
  intro e; subst e; rw [h] at h'; cases h'

section
variable (P : Program) (w : World)
noncomputable def ObjOk (H : Hp) (h : Heap) (a : Addr) : HO → Prop
  | .lst xs => xs.length ≤ sizeLine ∧ ∃ (its : List Value) (n : Nat), Vals xs its ∧ h.get? a = some { cls := .type "list", data := .seq its.toArray n }
  | .tup xs => xs.length ≤ sizeLine ∧ ∃ its : List Value, Vals xs its ∧ IsTup h a its.toArray
  | .dK kvs => kvs.length ≤ sizeLine ∧ (a == sysModules) = false ∧ ∃ vs, KV kvs vs ∧ h.DictOf (mixKind P w) a vs
  | .dT kvs => kvs.length ≤ sizeLine ∧ (a == sysModules) = false ∧ ∃ xs : List (List Key × Addr × Value),
      Paired (fun (p : List Key × V) (q : List Key × Addr × Value) => p.1 = q.1 ∧ H q.2.1 = some (.tup (p.1.map kV)) ∧ RelV p.2 q.2.2) kvs xs ∧
      ∃ o es ep, h.get? a = some o ∧ o.ExactDict ∧ o.data = .dict es ep ∧ es.toList = xs.map (entryOfKey (tupleKind (mixKind P w))) ∧ (xs.map (·.1)).Nodup
  | .set S n => h.SetOf (intKind P w) a S n
  | .ins C dx fs => H dx = some (.own a) ∧ fs.length ≤ 1000 ∧ dx ≠ a ∧ h.get? a = some (PySem.W.instObj C dx) ∧
      ∃ mA, h.Ns1 dx mA ∧ (∀ f, RelO (fs.lookup f) (mA f)) ∧ PySem.Within mA (fs.map (·.1))
  | .own _ => ∃ o, h.get? a = some o
  | .xd fs => ∃ mA, h.Ns1 a mA ∧ ∀ f, RelO (fs.lookup f) (mA f)
  | .rng lo hi => ∃ t u v, h.get? a = some { cls := .type "range", data := .fields #[.int lo t, .int hi u, .int 1 v] }
  | .frz o u => h.get? a = some o ∧ ObjOk H h a u
  | .tbl ps => h.get? a = some { cls := .none, data := .fields ps }
  | .met f x => h.get? a = some (PySem.W.methodObj (.ref f) (.ref x))
  | .ext φ => φ h ∧ (∃ o, h.get? a = some o) ∧ ∀ h1 h2 : Heap, φ h1 → (∀ o, h1.get? a = some o → h2.get? a = some o) → φ h2
noncomputable def HOk (H : Hp) (h : Heap) : Prop := ∀ a o, H a = some o → ObjOk P w H h a o
end

section
variable {P : Program} {w : World} {H H' : Hp} {h h' : Heap} {a : Addr} {o : HO}
theorem ObjOk.lt (x : ObjOk P w H h a o) : a < h.objs.size := by
  cases o with
  | lst xs => obtain ⟨_, _, _, _, e⟩ := x; exact Heap.lt_size e
  | tup xs => obtain ⟨_, _, _, p⟩ := x; exact p.lt
  | dK kvs => obtain ⟨_, _, _, _, o, _, _, e, _⟩ := x; exact Heap.lt_size e
  | dT kvs => obtain ⟨_, _, _, _, o, _, _, e, _⟩ := x; exact Heap.lt_size e
  | set S n => obtain ⟨o, _, _, _, e, _⟩ := x; exact Heap.lt_size e
  | ins C dx fs => obtain ⟨_, _, _, e, _⟩ := x; exact Heap.lt_size e
  | own y => obtain ⟨_, e⟩ := x; exact Heap.lt_size e
  | xd fs => obtain ⟨_, ⟨_, _, _, e, _⟩, _⟩ := x; exact Heap.lt_size e
  | rng lo hi => obtain ⟨_, _, _, e⟩ := x; exact Heap.lt_size e
  | frz ob u => obtain ⟨e, _⟩ := x; exact Heap.lt_size e
  | tbl ps => exact Heap.lt_size (show h.get? a = some _ from x)
  | met f y => exact Heap.lt_size (show h.get? a = some _ from x)
  | ext φ => obtain ⟨_, ⟨_, e⟩, _⟩ := x; exact Heap.lt_size e
theorem Paired.mapP {α β : Type} {F G : α → β → Prop} : ∀ {l₁ : List α} {l₂ : List β}, Paired F l₁ l₂ → (∀ a b, F a b → G a b) → Paired G l₁ l₂
  | _, _, .nil, _ => .nil
  | _, _, .cons r t, f => .cons (f _ _ r) (Paired.mapP t f)
theorem Paired.imp' {α β : Type} {F G : α → β → Prop} (f : ∀ a b, F a b → G a b) {l₁ : List α} {l₂ : List β} (r : Paired F l₁ l₂) : Paired G l₁ l₂ := Paired.mapP r f
theorem ObjOk.stay (x : ObjOk P w H h a o) (k : ∀ b u, (b = a ∨ H b = some (.own a)) → h.get? b = some u → h'.get? b = some u)
    (ho : ∀ b, H b = some (.own a) → H' b = some (.own a)) (ht : ∀ b xs, H b = some (.tup xs) → H' b = some (.tup xs)) : ObjOk P w H' h' a o := by
  induction o with
  | lst xs => obtain ⟨z, its, n, r, e⟩ := x; exact ⟨z, its, n, r, k _ _ (.inl rfl) e⟩
  | tup xs => obtain ⟨z, its, r, ob, e, c⟩ := x; exact ⟨z, its, r, ob, k _ _ (.inl rfl) e, c⟩
  | dK kvs => obtain ⟨z, y, vs, r, ob, es, ep, e, c⟩ := x; exact ⟨z, y, vs, r, ob, es, ep, k _ _ (.inl rfl) e, c⟩
  | dT kvs =>
    obtain ⟨z, y, xs, r, ob, es, ep, e, c⟩ := x
    exact ⟨z, y, xs, Paired.mapP r fun p q z => ⟨z.1, ht _ _ z.2.1, z.2.2⟩, ob, es, ep, k _ _ (.inl rfl) e, c⟩
  | set S n => obtain ⟨ob, es, ep, t, e, c⟩ := x; exact ⟨ob, es, ep, t, k _ _ (.inl rfl) e, c⟩
  | ins C dx fs =>
    obtain ⟨d, z, ne, e, mA, ⟨od, es, ep, e2, c⟩, r⟩ := x
    exact ⟨ho _ d, z, ne, k _ _ (.inl rfl) e, mA, ⟨od, es, ep, k _ _ (.inr d) e2, c⟩, r⟩
  | own y => obtain ⟨ob, e⟩ := x; exact ⟨ob, k _ _ (.inl rfl) e⟩
  | xd fs => obtain ⟨mA, ⟨od, es, ep, e, c⟩, r⟩ := x; exact ⟨mA, ⟨od, es, ep, k _ _ (.inl rfl) e, c⟩, r⟩
  | rng lo hi => obtain ⟨t, u, v, e⟩ := x; exact ⟨t, u, v, k _ _ (.inl rfl) e⟩
  | frz ob u ih => obtain ⟨e, q⟩ := x; exact ⟨k _ _ (.inl rfl) e, ih q⟩
  | tbl ps =>
    have e : h.get? a = some { cls := .none, data := .fields ps } := x
    show h'.get? a = some { cls := .none, data := .fields ps }
    exact k a _ (.inl rfl) e
  | met f y =>
    have e : h.get? a = some (PySem.W.methodObj (.ref f) (.ref y)) := x
    show h'.get? a = some (PySem.W.methodObj (.ref f) (.ref y))
    exact k a _ (.inl rfl) e
  | ext φ => obtain ⟨p, ⟨o, e⟩, st⟩ := x; exact ⟨st _ _ p fun o q => k _ _ (.inl rfl) q, ⟨o, k _ _ (.inl rfl) e⟩, st⟩
theorem HOk.lt (x : HOk P w H h) (e : H a = some o) : a < h.objs.size := (x a o e).lt
theorem HOk.fresh (x : HOk P w H h) (e : h.objs.size ≤ a) : H a = none := by
  cases q : H a with
  | none => rfl
  | some u => exact absurd (Nat.lt_of_lt_of_le (x.lt q) e) (Nat.lt_irrefl _)
theorem HOk.kept (x : HOk P w H h) (k : ∀ b u, h.get? b = some u → h'.get? b = some u) : HOk P w H h' := fun a o e =>
  (x a o e).stay (fun b u _ q => k b u q) (fun _ q => q) fun _ _ q => q
theorem HOk.laid (x : HOk P w H h) (k : ∀ b u, h.get? b = some u → h'.get? b = some u) (hp : h.objs.size ≤ a) (new : ObjOk P w (upd H a o) h' a o) : HOk P w (upd H a o) h' := fun b u e => by
  have hn := x.fresh hp
  by_cases hb : b = a
  · subst hb; rw [upd_same] at e; cases e; exact new
  · rw [upd_ne hb] at e
    exact (x b u e).stay (fun c v _ q => k c v q) (fun c q => by rw [upd_ne (ne_of_none q hn)]; exact q) fun c xs q => by rw [upd_ne (ne_of_none q hn)]; exact q
end

noncomputable def Rd (H : Hp) (a : Addr) (u : HO) : Prop := H a = some u ∨ ∃ o, H a = some (.frz o u)
theorem Rd.ok {P : Program} {w : World} {H : Hp} {h : Heap} {a : Addr} {u : HO} (r : Rd H a u) (x : HOk P w H h) : ObjOk P w H h a u := by
  rcases r with r | ⟨o, r⟩
  · exact x a u r
  · obtain ⟨_, q⟩ := x a _ r
    exact q
noncomputable def Mut : Option HO → Prop
  | some (.lst _) => True
  | some (.dK _) => True
  | some (.dT _) => True
  | some (.set _ _) => True
  | some (.ins _ _ _) => True
  | some (.ext _) => True
  | _ => False
section
variable {P : Program} {w : World} {H : Hp} {h h' : Heap} {x e : Addr} {o' : HO}
theorem HOk.write (ok : HOk P w H h) (mu : Mut (H x)) (he : e = x ∨ H e = some (.own x)) (k : ∀ b u, b ≠ e → h.get? b = some u → h'.get? b = some u) (heo : ∃ u, h'.get? e = some u)
    (new : ObjOk P w (upd H x o') h' x o') : HOk P w (upd H x o') h' := fun b u q => by
  have nown : ∀ c y, H c = some (.own y) → c ≠ x := fun c y r z => by subst z; rw [r] at mu; exact mu
  have ntup : ∀ c xs, H c = some (.tup xs) → c ≠ x := fun c xs r z => by subst z; rw [r] at mu; exact mu
  by_cases hb : b = x
  · subst hb; rw [upd_same] at q; cases q; exact new
  · rw [upd_ne hb] at q
    by_cases hbe : b = e
    · have q' : H b = some (.own x) := by
        rcases he with z | z
        · exact absurd (hbe.trans z) hb
        · rw [hbe]; exact z
      rw [q] at q'; cases q'
      obtain ⟨v, hv⟩ := heo
      exact ⟨v, by rw [hbe]; exact hv⟩
    · refine (ok b u q).stay (fun c v hc r => k c v ?_ r) (fun c r => by rw [upd_ne (nown c b r)]; exact r) fun c xs r => by rw [upd_ne (ntup c xs r)]; exact r
      rcases hc with rfl | hc
      · exact hbe
      · rintro rfl
        rcases he with z | z
        · exact nown c b hc z
        · rw [hc] at z; cases z; exact hb rfl
end

structure Un (fs ex : List Addr) (H H' : Hp) (h h' : Heap) : Prop where
  keep : ∀ b o, h.get? b = some o → H b = none → b ∉ fs → b ∉ ex → h'.get? b = some o
  slot : ∀ b o, h.get? b = some o → H b = none → b ∈ fs → b ∉ ex → ∃ sl, h'.get? b = some { o with slots := sl }
  free : ∀ b o, h.get? b = some o → H b = none → b ∉ ex → H' b = none
  there : ∀ b o, h.get? b = some o → b ∉ ex → ∃ o', h'.get? b = some o'
  tups : ∀ b xs, H b = some (.tup xs) → H' b = some (.tup xs)
  frzs : ∀ b o u, H b = some (.frz o u) → H' b = some (.frz o u)
  tbls : ∀ b ps, H b = some (.tbl ps) → ∃ more, H' b = some (.tbl (ps ++ more))
section
variable {fs fs' ex ex' : List Addr} {H H1 H2 : Hp} {h h1 h2 h' : Heap} {a x e : Addr} {o : HO}
theorem Un.any (u : Un fs ex H H1 h h1) {b : Addr} {ob : Obj} (q : h.get? b = some ob) (n : H b = none) (hx : b ∉ ex) : ∃ sl, h1.get? b = some { ob with slots := sl } := by
  by_cases hb : b ∈ fs
  · exact u.slot b ob q n hb hx
  · exact ⟨ob.slots, u.keep b ob q n hb hx⟩
theorem Un.kept (k : ∀ b u, h.get? b = some u → h'.get? b = some u) : Un fs ex H H h h' :=
  ⟨fun b ob q _ _ _ => k b ob q, fun b ob q _ _ _ => ⟨ob.slots, k b ob q⟩, fun _ _ _ n _ => n, fun b ob q _ => ⟨ob, k b ob q⟩, fun _ _ q => q, fun _ _ _ q => q, fun _ ps q => ⟨#[], by rw [q]; simp⟩⟩
theorem Un.refl : Un fs ex H H h h := Un.kept fun _ _ q => q
theorem Un.laid (k : ∀ b u, h.get? b = some u → h'.get? b = some u) (hp : h.objs.size ≤ a) (hn : H a = none) : Un fs ex H (upd H a o) h h' where
  keep := fun b u q _ _ _ => k b u q
  slot := fun b u q _ _ _ => ⟨u.slots, k b u q⟩
  free := fun b u q n _ => by rw [upd_ne (Nat.ne_of_lt (Nat.lt_of_lt_of_le (Heap.lt_size q) hp))]; exact n
  there := fun b u q _ => ⟨u, k b u q⟩
  tups := fun b xs q => by rw [upd_ne (ne_of_none q hn)]; exact q
  frzs := fun b u xs q => by rw [upd_ne (ne_of_none q hn)]; exact q
  tbls := fun b ps q => ⟨#[], by rw [upd_ne (ne_of_none q hn), q]; simp⟩
theorem Un.write (mu : Mut (H x)) (he : e = x ∨ H e = some (.own x)) (k : ∀ b u, b ≠ e → h.get? b = some u → h'.get? b = some u) (heo : ∃ u, h'.get? e = some u) : Un fs ex H (upd H x o) h h' := by
  have hx : ∀ b, H b = none → b ≠ x := fun b n z => by subst z; rw [n] at mu; exact mu
  have hb : ∀ b, H b = none → b ≠ e := fun b n z => by
    subst z
    rcases he with r | r
    · exact hx b n r
    · rw [n] at r; cases r
  have hm : ∀ b u, H b = some u → ¬ Mut (some u) → b ≠ x := fun b u q nm z => by subst z; rw [q] at mu; exact nm mu
  refine ⟨fun b u q n _ _ => k b u (hb b n) q, fun b u q n _ _ => ⟨u.slots, k b u (hb b n) q⟩, fun b u q n _ => by rw [upd_ne (hx b n)]; exact n, fun b u q _ => ?_,
    fun b xs q => by rw [upd_ne (hm b _ q fun z => z)]; exact q, fun b u xs q => by rw [upd_ne (hm b _ q fun z => z)]; exact q, fun b ps q => ⟨#[], by rw [upd_ne (hm b _ q fun z => z), q]; simp⟩⟩
  by_cases hbe : b = e
  · subst hbe; exact heo
  · exact ⟨u, k b u hbe q⟩
end

noncomputable def trk (h : Heap) (H : Hp) : List Addr := (List.range h.objs.size).filter fun a => (H a).isSome
noncomputable def hidT (h : Heap) (H : Hp) : Heap := PySem.W.hideAll h (trk h H)
theorem hidT_size (h : Heap) (H : Hp) : (hidT h H).objs.size = h.objs.size := PySem.W.hideAll_size _ _
theorem hidT_get {h : Heap} {H : Hp} {b : Addr} {o : Obj} (e : h.get? b = some o) (n : H b = none) : (hidT h H).get? b = some o :=
  PySem.W.hideAll_get _ e fun hm => by
    have q : (H b).isSome = true := (List.mem_filter.mp hm).2
    rw [n] at q; simp at q
theorem of_hidT {h : Heap} {H : Hp} {b : Addr} {o : Obj} (e : (hidT h H).get? b = some o) : h.get? b = some o ∧ H b = none := by
  have e' : h.get? b = some o := PySem.W.of_hideAll (trk h H) e
  refine ⟨e', ?_⟩
  cases q : H b with
  | none => rfl
  | some x =>
    have hm : b ∈ trk h H := List.mem_filter.mpr ⟨List.mem_range.mpr (Heap.lt_size e'), by simp [q]⟩
    have z : (hidT h H).get? b = none := PySem.W.hideAll_none (trk h H) hm
    rw [z] at e; cases e

noncomputable def allNews (g h : Heap) (L : Addr) : List (Addr × Obj) := (List.range h.objs.size).filterMap fun a => if a = L ∨ (g.get? a).isSome = true then none else (h.get? a).map fun o => (a, o)
noncomputable def rest (g h : Heap) (L d : Addr) : List (Addr × Obj) := (allNews g h L).filter fun p => decide (p.1 ≠ d)
end L2

namespace L2
open PySem PySem.Spec PyProof.Rows

structure Mod (K : PySem.W.Frag) (mg : Str → Option Value) (base : Heap) : Prop where
  kin : K.In base
  glob : base.Ns mainGlobals mg
  blt : ∃ mb, base.Ns builtinsNs mb ∧ ∀ x : Str, x ≠ "__name__" → mb x = bootBuiltins x
  nolimit : base.NoLimit

/-- the context: a def's body (or a comprehension's block) running. base: fixed through the whole law; s₀, H₀: the entry; outer: the frames whose slots others may change (a def's callers); stack: all frames that run;
   ex: iterators that were made ahead of the entry and are walked here (a comprehension's); fn: the names whose cells were made at the entry (a def: all; a comprehension's block: its own); calm: not within an except suite; pn: pins that every state bears; xe: what is wanted of an exception that leaves the code -/
structure Cx where
  prog : Program
  w : World
  K : PySem.W.Frag
  mg : Str → Option Value
  base : Heap
  A : Around
  N : List Str
  s₀ : Shared
  H₀ : Hp
  env : Env
  outer : List Env
  stack : List Env
  ex : List Addr
  fn : Str → Bool
  calm : Bool
  pn : List (Addr × Obj)
  xe : Value → Shared → Prop
noncomputable def frs (l : List Env) : List Addr := l.filterMap (·.frame)
noncomputable abbrev Cx.fs (X : Cx) : List Addr := frs X.outer

noncomputable def Vis (sc : Scope) (x : Str) : Prop := sc.names.lookup x = some .local ∨ sc.names.lookup x = some .cell ∨ sc.names.lookup x = some .free
noncomputable def Loc (sc : Scope) (x : Str) : Prop := sc.names.lookup x = some .local ∨ sc.names.lookup x = some .cell
noncomputable def Look (env : Env) (h : Heap) (m : Str → Option Value) (x : Str) (u : Value) : Prop :=
  (env.kindOf x = some .local ∧ m x = some u) ∨ ((env.kindOf x = some .cell ∨ env.kindOf x = some .free) ∧ ∃ c, env.cells.lookup x = some c ∧ h.IsCell c (some u))

structure Cx.Ok (X : Cx) : Prop where
  mod : Mod X.K X.mg X.base
  kind : X.env.scope.kind = .function
  glob : X.env.globals = mainGlobals
  blt : X.env.builtins = builtinsNs
  above : X.s₀.heap.objs.size ≤ X.env.locals
  inj : ∀ x y c, X.env.cells.lookup x = some c → X.env.cells.lookup y = some c → x = y
  has : ∀ x, (X.env.kindOf x = some .cell ∨ X.env.kindOf x = some .free) → ∃ c, X.env.cells.lookup x = some c
  cab : ∀ x c, X.fn x = true → X.env.cells.lookup x = some c → X.s₀.heap.objs.size ≤ c
  hd : X.calm = true → X.A.handled = none
  frames : X.A.frames = some X.stack
  stk : X.stack = X.outer ∨ (X.stack = X.env :: X.outer ∧ X.env.frame = some X.env.locals)
  exf : ∀ b ∈ X.ex, b ≠ X.env.locals ∧ ∀ x c, X.env.cells.lookup x = some c → c ≠ b
  bs : ∀ b o, X.base.get? b = some o → X.s₀.heap.get? b = some o ∧ X.H₀ b = none
  bsz : X.base.objs.size ≤ X.s₀.heap.objs.size
  noex : ∀ b o, X.base.get? b = some o → b ∉ X.ex
  exfs : ∀ b ∈ X.ex, b ∉ X.fs
  funs : X.s₀.heap.FunFrames X.base X.outer
  frf : ∀ b ∈ X.fs, X.H₀ b = none

structure Inv (X : Cx) (pins : List (Addr × Obj)) (σ : List (Option V)) (H : Hp) (s : Shared) : Prop where
  ok : X.Ok
  os : s.os = X.s₀.os
  bare : AllBare s.gens
  base : Un X.fs X.ex X.H₀ H X.s₀.heap s.heap
  loc : ∃ m, s.heap.Ns X.env.locals m ∧ ∀ (i : Nat) (x : Str) (v : V), X.N[i]? = some x → σ[i]? = some (some v) → Vis X.env.scope x → ∃ u, RelV v u ∧ Look X.env s.heap m x u
  cell : ∀ x c, X.env.cells.lookup x = some c → ∃ v, s.heap.IsCell c v
  free : H X.env.locals = none
  freeC : ∀ x c, X.env.cells.lookup x = some c → H c = none
  pin : ∀ p ∈ X.pn ++ pins, s.heap.get? p.1 = some p.2 ∧ H p.1 = none ∧ p.1 ≠ X.env.locals ∧ p.1 ∉ X.fs ∧ ∀ v, p.2.data ≠ .cell v
  hok : HOk X.prog X.w H s.heap
  len : σ.length = X.N.length

section
variable {X : Cx} {pins : List (Addr × Obj)} {σ : List (Option V)} {H H' : Hp} {s : Shared} {h' : Heap}

theorem Cx.Ok.nofr (ok : X.Ok) {b : Addr} {o : Obj} (e : X.base.get? b = some o) : b ∉ X.fs := fun hb => by
  have := (ok.funs.mem hb).1
  rw [e] at this; cases this
theorem Inv.bs (I : Inv X pins σ H s) : ∀ b o, X.base.get? b = some o → s.heap.get? b = some o ∧ H b = none := fun b o e =>
  ⟨I.base.keep b o (I.ok.bs b o e).1 (I.ok.bs b o e).2 (I.ok.nofr e) (I.ok.noex b o e), I.base.free b o (I.ok.bs b o e).1 (I.ok.bs b o e).2 (I.ok.noex b o e)⟩
theorem Inv.bk (I : Inv X pins σ H s) : ∀ b o, X.base.get? b = some o → s.heap.get? b = some o := fun b o e => (I.bs b o e).1
theorem Inv.mod (I : Inv X pins σ H s) : Mod X.K X.mg X.base := I.ok.mod
theorem Inv.kIn (I : Inv X pins σ H s) : X.K.In s.heap := I.ok.mod.kin.keeps I.bk
theorem Inv.fr (I : Inv X pins σ H s) : ∃ m, Fr X.base X.env.locals s.heap m :=
  let ⟨m, hn, _⟩ := I.loc
  ⟨m, hn, I.bk, Nat.le_trans I.ok.bsz I.ok.above⟩
theorem Inv.lt (I : Inv X pins σ H s) : X.env.locals < s.heap.objs.size := let ⟨_, hn, _⟩ := I.loc; hn.lt
theorem Inv.sz (I : Inv X pins σ H s) : X.s₀.heap.objs.size ≤ s.heap.objs.size := Nat.le_trans I.ok.above (Nat.le_of_lt I.lt)
theorem Inv.nofs (I : Inv X pins σ H s) {a : Addr} (h : s.heap.objs.size ≤ a) : a ∉ X.fs := fun hb => by
  obtain ⟨_, o, ho, _⟩ := I.ok.funs.mem hb
  exact absurd (Nat.lt_of_lt_of_le (Heap.lt_size ho) (Nat.le_trans I.sz h)) (Nat.lt_irrefl _)
theorem Inv.cne (I : Inv X pins σ H s) : ∀ x c, X.env.cells.lookup x = some c → c ≠ X.env.locals := fun x c e z => by
  obtain ⟨v, o, ho, hd⟩ := I.cell x c e
  obtain ⟨m, ⟨o', es, ep, ho', hd', _⟩, _⟩ := I.loc
  rw [z, ho'] at ho; cases ho; rw [hd'] at hd; cases hd
theorem Inv.funs (I : Inv X pins σ H s) : s.heap.FunFrames X.base X.outer := by
  have all : ∀ (l : List Env), (∀ b ∈ frs l, b ∈ X.fs) → X.s₀.heap.FunFrames X.base l → s.heap.FunFrames X.base l := by
    intro l
    induction l with
    | nil => intro _ _; trivial
    | cons env r ih =>
      intro hs hl
      obtain ⟨hk, ⟨L, o, hf, hn, ho, hd⟩, hr⟩ := hl
      have hL : L ∈ X.fs := hs L (by unfold frs; rw [List.filterMap_cons, hf]; exact List.mem_cons_self)
      obtain ⟨sl, e⟩ := I.base.slot L o ho (I.ok.frf L hL) hL fun z => I.ok.exfs L z hL
      exact ⟨hk, ⟨L, _, hf, hn, e, hd⟩, ih (fun b hb => hs b (by unfold frs; rw [List.filterMap_cons, hf]; exact List.mem_cons_of_mem _ hb)) hr⟩
  exact all X.outer (fun _ hb => hb) I.ok.funs

theorem Inv.stack (I : Inv X pins σ H s) : s.heap.FunFrames X.base X.stack := by
  rcases I.ok.stk with e | ⟨e, hf⟩
  · rw [e]; exact I.funs
  · rw [e]
    obtain ⟨m, hn, _⟩ := I.loc
    refine .cons (by rw [I.ok.kind]; decide) hf hn ?_ I.funs
    exact Heap.get?_none_of_le (Nat.le_trans I.ok.bsz I.ok.above)
theorem Inv.stkSub (I : Inv X pins σ H s) : ∀ b ∈ frs X.stack, b ∈ X.env.locals :: X.fs := fun b hb => by
  rcases I.ok.stk with e | ⟨e, hf⟩
  · rw [e] at hb; exact List.mem_cons_of_mem _ hb
  · rw [e] at hb
    unfold frs at hb
    rw [List.filterMap_cons, hf] at hb
    exact hb
theorem Inv.stkFree (I : Inv X pins σ H s) : ∀ b ∈ frs X.stack, H b = none := fun b hb => by
  rcases List.mem_cons.mp (I.stkSub b hb) with e | hb
  · rw [e]; exact I.free
  · obtain ⟨_, o, ho, _⟩ := I.ok.funs.mem hb
    exact I.base.free b o ho (I.ok.frf b hb) fun z => I.ok.exfs b z hb

theorem Inv.step {g' : Array GenState} {t' : Nat} {d' : Drawn} {ch : List Addr} (I : Inv X pins σ H s)
    (hch : ∀ b ∈ ch, (b ∈ X.ex ∨ X.s₀.heap.objs.size ≤ b) ∧ b ≠ X.env.locals ∧ (∀ x c, X.env.cells.lookup x = some c → c ≠ b) ∧ ∀ p ∈ X.pn ++ pins, p.1 ≠ b)
    (keep : ∀ b o, b ≠ X.env.locals → b ∉ X.fs → b ∉ ch → s.heap.get? b = some o → H b = none → h'.get? b = some o)
    (slot : ∀ b o, b ≠ X.env.locals → b ∈ X.fs → b ∉ ch → s.heap.get? b = some o → H b = none → ∃ sl, h'.get? b = some { o with slots := sl }) (free : ∀ b o, b ∉ ch → s.heap.get? b = some o → H b = none → H' b = none)
    (there : ∀ b o, b ∉ ch → s.heap.get? b = some o → ∃ o', h'.get? b = some o')
    (tups : ∀ b xs, H b = some (.tup xs) → H' b = some (.tup xs)) (frzs : ∀ b o u, H b = some (.frz o u) → H' b = some (.frz o u)) (tbls : ∀ b ps, H b = some (.tbl ps) → ∃ more, H' b = some (.tbl (ps ++ more)))
    (ns : ∀ m, s.heap.Ns X.env.locals m → h'.Ns X.env.locals m) (hok : HOk X.prog X.w H' h') (hg : AllBare g') :
    Inv X pins σ H' { s with heap := h', gens := g', drawn := d', toks := t' } := by
  have neL : ∀ b o, X.s₀.heap.get? b = some o → b ≠ X.env.locals := fun b o e => Nat.ne_of_lt (Nat.lt_of_lt_of_le (Heap.lt_size e) I.ok.above)
  have neC : ∀ b o, X.s₀.heap.get? b = some o → b ∉ X.ex → b ∉ ch := fun b o e hx hb => by
    rcases (hch b hb).1 with z | z
    · exact hx z
    · exact absurd (Nat.lt_of_lt_of_le (Heap.lt_size e) z) (Nat.lt_irrefl _)
  have cellK : ∀ x c, X.env.cells.lookup x = some c → ∀ v, s.heap.IsCell c v → h'.IsCell c v := fun x c e v ⟨o, ho, hd⟩ => by
    have nch : c ∉ ch := fun z => (hch c z).2.2.1 x c e rfl
    by_cases hc : c ∈ X.fs
    · obtain ⟨sl, q⟩ := slot c o (I.cne x c e) hc nch ho (I.freeC x c e)
      exact ⟨_, q, hd⟩
    · exact ⟨o, keep c o (I.cne x c e) hc nch ho (I.freeC x c e), hd⟩
  refine ⟨I.ok, I.os, hg, ⟨fun b o e n hb hx => ?_, fun b o e n hb hx => ?_, fun b o e n hx => ?_, fun b o e hx => ?_, fun b xs e => tups b xs (I.base.tups b xs e), fun b o xs e => frzs b o xs (I.base.frzs b o xs e), fun b ps e => ?_⟩, ?_, fun x c e => ?_, ?_, fun x c e => ?_, fun p hp => ?_, hok, I.len⟩
  · exact keep b o (neL b o e) hb (neC b o e hx) (I.base.keep b o e n hb hx) (I.base.free b o e n hx)
  · obtain ⟨sl, e1⟩ := I.base.slot b o e n hb hx
    obtain ⟨sl', e2⟩ := slot b _ (neL b o e) hb (neC b o e hx) e1 (I.base.free b o e n hx)
    exact ⟨sl', e2⟩
  · obtain ⟨o', e1⟩ := I.base.there b o e hx
    exact free b o' (neC b o e hx) e1 (I.base.free b o e n hx)
  · obtain ⟨o', e1⟩ := I.base.there b o e hx
    exact there b o' (neC b o e hx) e1
  · obtain ⟨m1, e1⟩ := I.base.tbls b ps e
    obtain ⟨m2, e2⟩ := tbls b _ e1
    exact ⟨m1 ++ m2, by rw [e2, Array.append_assoc]⟩
  · obtain ⟨m, hn, hl⟩ := I.loc
    refine ⟨m, ns m hn, fun i x v e1 e2 e3 => ?_⟩
    obtain ⟨u, r, l⟩ := hl i x v e1 e2 e3
    refine ⟨u, r, ?_⟩
    rcases l with l | ⟨k, c, e, z⟩
    · exact .inl l
    · exact .inr ⟨k, c, e, cellK x c e _ z⟩
  · obtain ⟨v, z⟩ := I.cell x c e
    exact ⟨v, cellK x c e v z⟩
  · obtain ⟨m, ⟨o, _, _, ho, _⟩, _⟩ := I.loc
    exact free _ o (fun z => (hch _ z).2.1 rfl) ho I.free
  · obtain ⟨v, o, ho, hd⟩ := I.cell x c e
    exact free c o (fun z => (hch c z).2.2.1 x c e rfl) ho (I.freeC x c e)
  · obtain ⟨e, n, ne, nf, d⟩ := I.pin p hp
    have nch : p.1 ∉ ch := fun z => (hch p.1 z).2.2.2 p hp rfl
    exact ⟨keep p.1 p.2 ne nf nch e n, free p.1 p.2 nch e n, ne, nf, d⟩
theorem Inv.un {t' : Nat} (I : Inv X pins σ H s) (u : Un X.fs [] H H' s.heap h') (hok : HOk X.prog X.w H' h') : Inv X pins σ H' { s with heap := h', toks := t' } := by
  obtain ⟨m, ⟨o, es, ep, ho, r⟩, _⟩ := id I.loc
  obtain ⟨sl, hL⟩ := u.any ho I.free (by simp)
  exact I.step (g' := s.gens) (d' := s.drawn) (ch := []) (fun _ z => nomatch z) (fun b o _ hb _ e n => u.keep b o e n hb (by simp)) (fun b o _ hb _ e n => u.slot b o e n hb (by simp)) (fun b o _ e n => u.free b o e n (by simp)) (fun b o _ e => u.there b o e (by simp)) u.tups u.frzs u.tbls (fun m' hm => by
    obtain ⟨o', es', ep', ho', r'⟩ := hm
    rw [ho] at ho'; cases ho'
    exact ⟨_, es', ep', hL, r'⟩) hok I.bare
theorem Inv.call {g' : Array GenState} {t' : Nat} {d' : Drawn} {ch : List Addr} (I : Inv X pins σ H s) (u : Un (frs X.stack) ch H H' s.heap h') (hok : HOk X.prog X.w H' h') (hg : AllBare g')
    (hch : ∀ b ∈ ch, (b ∈ X.ex ∨ X.s₀.heap.objs.size ≤ b) ∧ b ≠ X.env.locals ∧ (∀ x c, X.env.cells.lookup x = some c → c ≠ b) ∧ ∀ p ∈ X.pn ++ pins, p.1 ≠ b) :
    Inv X pins σ H' { s with heap := h', gens := g', drawn := d', toks := t' } := by
  obtain ⟨m, ⟨o, es, ep, ho, r⟩, _⟩ := id I.loc
  obtain ⟨sl, hL⟩ := u.any ho I.free fun z => (hch _ z).2.1 rfl
  exact I.step (ch := ch) hch (fun b o hL hb hc e n => u.keep b o e n (fun z => (List.mem_cons.mp (I.stkSub b z)).elim hL hb) hc) (fun b o _ _ hc e n => u.any e n hc) (fun b o hc e n => u.free b o e n hc) (fun b o hc e => u.there b o e hc) u.tups u.frzs u.tbls (fun m' hm => by
    obtain ⟨o', es', ep', ho', r'⟩ := hm
    rw [ho] at ho'; cases ho'
    exact ⟨_, es', ep', hL, r'⟩) hok hg
theorem Inv.turned {t' : Nat} {it : Addr} (I : Inv X pins σ H s) (k : ∀ b o, b ≠ it → s.heap.get? b = some o → h'.get? b = some o) (hn : H it = none) (hL : it ≠ X.env.locals)
    (h1 : it ∈ X.ex ∨ X.s₀.heap.objs.size ≤ it) (h2 : ∀ x c, X.env.cells.lookup x = some c → c ≠ it) (h3 : ∀ p ∈ X.pn ++ pins, p.1 ≠ it) : Inv X pins σ H { s with heap := h', toks := t' } := by
  have nit : ∀ b u, H b = some u → b ≠ it := fun b u e z => by rw [z, hn] at e; cases e
  refine I.step (g' := s.gens) (d' := s.drawn) (ch := [it]) (fun b hb => ?_) (fun b o _ _ hc e _ => k b o (fun z => hc (by simp [z])) e) (fun b o _ _ hc e _ => ⟨o.slots, k b o (fun z => hc (by simp [z])) e⟩) (fun _ _ _ _ n => n)
    (fun b o hc e => ⟨o, k b o (fun z => hc (by simp [z])) e⟩) (fun _ _ e => e) (fun _ _ _ e => e) (fun b ps e => ⟨#[], by rw [e]; simp⟩) (fun m hm => ?_) (fun b u e => ?_) I.bare
  · have e : b = it := by simpa using hb
    subst e
    exact ⟨h1, hL, h2, h3⟩
  · obtain ⟨o, es, ep, ho, r⟩ := hm
    exact ⟨o, es, ep, k _ o (Ne.symm hL) ho, r⟩
  · refine (I.hok b u e).stay (fun c v hc q => k c v ?_ q) (fun _ q => q) fun _ _ q => q
    rcases hc with z | z
    · rw [z]; exact nit b u e
    · exact nit c _ z
theorem Inv.tok (I : Inv X pins σ H s) (t : Nat) : Inv X pins σ H { s with toks := t } := I.un (h' := s.heap) (t' := t) Un.refl I.hok
theorem Inv.kept {t' : Nat} (I : Inv X pins σ H s) (k : ∀ b u, s.heap.get? b = some u → h'.get? b = some u) : Inv X pins σ H { s with heap := h', toks := t' } := I.un (Un.kept k) (I.hok.kept k)
theorem Inv.laid {a : Addr} {o : HO} {t' : Nat} (I : Inv X pins σ H s) (k : ∀ b u, s.heap.get? b = some u → h'.get? b = some u) (hp : s.heap.objs.size ≤ a) (new : ObjOk X.prog X.w (upd H a o) h' a o) :
    Inv X pins σ (upd H a o) { s with heap := h', toks := t' } := I.un (Un.laid k hp (I.hok.fresh hp)) (I.hok.laid k hp new)
theorem Inv.write {x e : Addr} {o : HO} {t' : Nat} (I : Inv X pins σ H s) (mu : Mut (H x)) (he : e = x ∨ H e = some (.own x)) (k : ∀ b u, b ≠ e → s.heap.get? b = some u → h'.get? b = some u) (heo : ∃ u, h'.get? e = some u)
    (new : ObjOk X.prog X.w (upd H x o) h' x o) : Inv X pins σ (upd H x o) { s with heap := h', toks := t' } := I.un (Un.write mu he k heo) (I.hok.write mu he k heo new)
theorem Inv.weak {σ' : List (Option V)} (I : Inv X pins σ H s) (hl : σ'.length = σ.length) (w : ∀ (i : Nat) v, σ'[i]? = some (some v) → σ[i]? = some (some v)) : Inv X pins σ' H s :=
  ⟨I.ok, I.os, I.bare, I.base, let ⟨m, hn, hl'⟩ := I.loc; ⟨m, hn, fun i x v e1 e2 e3 => hl' i x v e1 (w i v e2) e3⟩, I.cell, I.free, I.freeC, I.pin, I.hok, hl.trans I.len⟩
theorem Inv.pins_of {pins' : List (Addr × Obj)} (I : Inv X pins σ H s) (h : ∀ p ∈ pins', s.heap.get? p.1 = some p.2 ∧ H p.1 = none ∧ p.1 ≠ X.env.locals ∧ p.1 ∉ X.fs ∧ ∀ v, p.2.data ≠ .cell v) : Inv X pins' σ H s :=
  ⟨I.ok, I.os, I.bare, I.base, I.loc, I.cell, I.free, I.freeC, fun p hp => (List.mem_append.mp hp).elim (fun z => I.pin p (List.mem_append_left _ z)) (h p), I.hok, I.len⟩

theorem nodup_ix {N : List Str} (hN : N.Nodup) {i j : Nat} {x : Str} (a : N[i]? = some x) (b : N[j]? = some x) : i = j := by
  obtain ⟨h1, e1⟩ := List.getElem?_eq_some_iff.mp a
  obtain ⟨h2, e2⟩ := List.getElem?_eq_some_iff.mp b
  exact (List.getElem_inj hN).mp (e1.trans e2.symm)

theorem store_ok2 {M : Model} {A : Around} {E : Value → Shared → Prop} {i : Nat} {x : Str} {v : V} {u : Value} {Q : Unit → Shared → Prop} (I : Inv X pins σ H s) (hN : X.N.Nodup) (hi : X.N[i]? = some x) (hx : Loc X.env.scope x) (r : RelV v u)
    (h : ∀ s', Inv X pins (σ.set i (some v)) H s' → (∃ a, Heap.SameBut a s.heap s'.heap ∧ (a = X.env.locals ∨ X.env.cells.lookup x = some a)) → Q () s') (hf : X.fn x = true ∨ X.env.scope.names.lookup x = some .local := by first | exact .inl rfl | exact .inr rfl | assumption) : wpAny M A (storeName X.env x u) Q E s := by
  obtain ⟨m, hn, hl⟩ := id I.loc
  have hcls : (X.env.scope.kind == .class || (X.env.scope.kind == .module && X.env.locals != X.env.globals)) = false := by rw [I.ok.kind]; rfl
  have hiσ : i < σ.length := by rw [I.len]; exact (List.getElem?_eq_some_iff.mp hi).1
  have cne := I.cne
  have tracked : ∀ {a : Addr} {h' : Heap}, (∃ o, s.heap.get? a = some o ∧ H a = none) → Heap.SameBut a s.heap h' → HOk X.prog X.w H h' := fun {a h'} ha hs b ob e => by
    obtain ⟨_, _, hfree⟩ := ha
    refine (I.hok b ob e).stay (fun c w' hc q => (hs.2 c ?_).trans q) (fun _ q => q) fun _ _ q => q
    rintro rfl
    rcases hc with rfl | hc
    · rw [hfree] at e; cases e
    · rw [hfree] at hc; cases hc
  rcases hx with hk | hk
  · refine wpAny_storeName_local hk hn (fun h' hn' hs => ?_) hcls
    obtain ⟨oL, _, _, hoL, _⟩ := id hn
    refine h _ ⟨I.ok, I.os, I.bare, ⟨fun b o e n hb hx => ?_, fun b o e n hb hx => ?_, I.base.free, fun b o e hx => ?_, I.base.tups, I.base.frzs, I.base.tbls⟩, ⟨_, hn', fun j y v' e1 e2 e3 => ?_⟩, fun y c e => ?_, I.free, I.freeC, fun p hp => ?_, tracked ⟨oL, hoL, I.free⟩ hs, by simpa using I.len⟩ ⟨_, hs, .inl rfl⟩
    · exact (hs.2 b (Nat.ne_of_lt (Nat.lt_of_lt_of_le (Heap.lt_size e) I.ok.above))).trans (I.base.keep b o e n hb hx)
    · obtain ⟨sl, e1⟩ := I.base.slot b o e n hb hx
      exact ⟨sl, (hs.2 b (Nat.ne_of_lt (Nat.lt_of_lt_of_le (Heap.lt_size e) I.ok.above))).trans e1⟩
    · obtain ⟨o', e1⟩ := I.base.there b o e hx
      exact ⟨o', (hs.2 b (Nat.ne_of_lt (Nat.lt_of_lt_of_le (Heap.lt_size e) I.ok.above))).trans e1⟩
    · by_cases hj : j = i
      · subst hj
        rw [hi] at e1; cases e1
        rw [List.getElem?_set_self hiσ] at e2
        cases e2
        exact ⟨u, r, .inl ⟨hk, by simp⟩⟩
      · rw [List.getElem?_set_ne (Ne.symm hj)] at e2
        obtain ⟨u', r', q⟩ := hl j y v' e1 e2 e3
        refine ⟨u', r', ?_⟩
        rcases q with ⟨k, e⟩ | ⟨k, c, e, z⟩
        · refine .inl ⟨k, ?_⟩
          have : y ≠ x := fun e => hj (nodup_ix hN e1 (e ▸ hi))
          simp [this, e]
        · exact .inr ⟨k, c, e, z.sameBut hs (cne y c e)⟩
    · obtain ⟨w', z⟩ := I.cell y c e
      exact ⟨w', z.sameBut hs (cne y c e)⟩
    · obtain ⟨e, n, ne, nf, d⟩ := I.pin p hp
      exact ⟨(hs.2 p.1 ne).trans e, n, ne, nf, d⟩
  · have hfn : X.fn x = true := by
      rcases hf with z | z
      · exact z
      · rw [z] at hk; cases hk
    obtain ⟨c, hc⟩ := I.ok.has x (.inl hk)
    obtain ⟨w', z⟩ := I.cell x c hc
    refine wpAny_storeName_cell I.ok.kind hk hc z (fun h' hc' hs => ?_)
    obtain ⟨oc, hoc, hocd⟩ := id z
    refine h { s with heap := h' } ⟨I.ok, I.os, I.bare, ⟨fun b o e n hb hx => ?_, fun b o e n hb hx => ?_, I.base.free, fun b o e hx => ?_, I.base.tups, I.base.frzs, I.base.tbls⟩, ⟨m, hn.sameBut hs (Ne.symm (cne x c hc)), fun j y v' e1 e2 e3 => ?_⟩, fun y c' e => ?_, I.free, I.freeC, fun p hp => ?_, tracked ⟨oc, hoc, I.freeC x c hc⟩ hs, by simpa using I.len⟩ ⟨c, hs, .inr hc⟩
    · exact (hs.2 b (Nat.ne_of_lt (Nat.lt_of_lt_of_le (Heap.lt_size e) (I.ok.cab x c hfn hc)))).trans (I.base.keep b o e n hb hx)
    · obtain ⟨sl, e1⟩ := I.base.slot b o e n hb hx
      exact ⟨sl, (hs.2 b (Nat.ne_of_lt (Nat.lt_of_lt_of_le (Heap.lt_size e) (I.ok.cab x c hfn hc)))).trans e1⟩
    · obtain ⟨o', e1⟩ := I.base.there b o e hx
      exact ⟨o', (hs.2 b (Nat.ne_of_lt (Nat.lt_of_lt_of_le (Heap.lt_size e) (I.ok.cab x c hfn hc)))).trans e1⟩
    · by_cases hj : j = i
      · subst hj
        rw [hi] at e1; cases e1
        rw [List.getElem?_set_self hiσ] at e2
        cases e2
        exact ⟨u, r, .inr ⟨.inl hk, c, hc, hc'⟩⟩
      · rw [List.getElem?_set_ne (Ne.symm hj)] at e2
        obtain ⟨u', r', q⟩ := hl j y v' e1 e2 e3
        refine ⟨u', r', ?_⟩
        rcases q with q | ⟨k, c', e, z'⟩
        · exact .inl q
        · refine .inr ⟨k, c', e, z'.sameBut hs ?_⟩
          rintro rfl
          exact hj (nodup_ix hN e1 (I.ok.inj _ _ _ e hc ▸ hi))
    · by_cases hcc : c' = c
      · subst hcc; exact ⟨_, hc'⟩
      · obtain ⟨w2, z2⟩ := I.cell y c' e
        exact ⟨w2, z2.sameBut hs hcc⟩
    · obtain ⟨e, n, ne, nf, d⟩ := I.pin p hp
      refine ⟨(hs.2 p.1 ?_).trans e, n, ne, nf, d⟩
      intro q
      rw [q, hoc] at e
      have q' : oc = p.2 := Option.some.inj e
      exact d w' (by rw [← q']; exact hocd)
theorem store_ok {M : Model} {A : Around} {E : Value → Shared → Prop} {i : Nat} {x : Str} {v : V} {u : Value} {Q : Unit → Shared → Prop} (I : Inv X pins σ H s) (hN : X.N.Nodup) (hi : X.N[i]? = some x) (hx : Loc X.env.scope x) (r : RelV v u)
    (h : ∀ s', Inv X pins (σ.set i (some v)) H s' → Q () s') (hf : X.fn x = true ∨ X.env.scope.names.lookup x = some .local := by first | exact .inl rfl | exact .inr rfl | assumption) : wpAny M A (storeName X.env x u) Q E s :=
  store_ok2 I hN hi hx r (fun s' I' _ => h s' I') hf
theorem Inv.call' {s' : Shared} {ch : List Addr} (I : Inv X pins σ H s) (ho : s'.os = s.os) (u : Un (frs X.stack) ch H H' s.heap s'.heap) (hok : HOk X.prog X.w H' s'.heap) (hg : AllBare s'.gens)
    (hch : ∀ b ∈ ch, (b ∈ X.ex ∨ X.s₀.heap.objs.size ≤ b) ∧ b ≠ X.env.locals ∧ (∀ x c, X.env.cells.lookup x = some c → c ≠ b) ∧ ∀ p ∈ X.pn ++ pins, p.1 ≠ b) : Inv X pins σ H' s' := by
  obtain ⟨h', g', d', t', o'⟩ := s'
  have e : o' = s.os := ho
  subst e
  exact I.call (g' := g') (t' := t') (d' := d') u hok hg hch
end

noncomputable abbrev XK := Value → Option Addr → Hp → Prop
noncomputable abbrev St := List (Option V)
noncomputable abbrev VK := V → Hp → Prop
noncomputable abbrev TE := St → Hp → VK → Prop
noncomputable abbrev TT := St → Hp → (Bool → Hp → Prop) → Prop
noncomputable abbrev TA := St → Hp → (List V → Hp → Prop) → Prop
structure Ends where
  nx : St → Hp → Prop
  rt : VK
  bk : St → Hp → Prop := fun _ _ => False
  ct : St → Hp → Prop := fun _ _ => False
noncomputable abbrev TS := Ends → St → Hp → Prop

noncomputable def EP (X : Cx) (pins : List (Addr × Obj)) (σ : St) (Q : VK) (u : Value) (s' : Shared) : Prop := ∃ v H', Inv X pins σ H' s' ∧ RelV v u ∧ Q v H'
noncomputable def TP (X : Cx) (pins : List (Addr × Obj)) (σ : St) (Q : Bool → Hp → Prop) (b : Bool) (s' : Shared) : Prop := ∃ H', Inv X pins σ H' s' ∧ Q b H'
noncomputable def AP (X : Cx) (pins : List (Addr × Obj)) (σ : St) (Q : List V → Hp → Prop) (us : List Value) (s' : Shared) : Prop := ∃ vs H', Inv X pins σ H' s' ∧ Vals vs us ∧ Q vs H'
noncomputable def SP (X : Cx) (pins : List (Addr × Obj)) (D : Ends) (f : Flow) (s' : Shared) : Prop :=
  match f with
  | .next => ∃ σ' H', Inv X pins σ' H' s' ∧ D.nx σ' H'
  | .brk => ∃ σ' H', Inv X pins σ' H' s' ∧ D.bk σ' H'
  | .cont => ∃ σ' H', Inv X pins σ' H' s' ∧ D.ct σ' H'
  | .ret u => ∃ v σ' H', Inv X pins σ' H' s' ∧ RelV v u ∧ D.rt v H'

noncomputable def PE (X : Cx) (e : Expr) (t : TE) : Prop :=
  ∀ (pins : List (Addr × Obj)) (s : Shared) (σ : St) (H : Hp) (Q : VK), Inv X pins σ H s → t σ H Q → wpAny (model X.prog X.w) X.A (eval e X.env) (EP X pins σ Q) X.xe s
noncomputable def PT (X : Cx) (e : Expr) (t : TT) : Prop :=
  ∀ (pins : List (Addr × Obj)) (s : Shared) (σ : St) (H : Hp) (Q : Bool → Hp → Prop), Inv X pins σ H s → t σ H Q → wpAny (model X.prog X.w) X.A (isTrue e X.env (eval e X.env)) (TP X pins σ Q) X.xe s
noncomputable def PW (X : Cx) (e : Expr) (t : TT) : Prop :=
  ∀ (whole : Sem Value) (pins : List (Addr × Obj)) (s : Shared) (σ : St) (H : Hp) (Q : Bool → Hp → Prop), Inv X pins σ H s → t σ H Q → wpAny (model X.prog X.w) X.A (isTrue e X.env whole) (TP X pins σ Q) X.xe s
theorem PW.pt {X : Cx} {e : Expr} {t : TT} (h : PW X e t) : PT X e t := h _
noncomputable def PA (X : Cx) (es : List Expr) (t : TA) : Prop :=
  ∀ (pos : Pos) (pins : List (Addr × Obj)) (s : Shared) (σ : St) (H : Hp) (Q : List V → Hp → Prop), Inv X pins σ H s → t σ H Q → wpAny (model X.prog X.w) X.A (spliced (backTo pos (starEach es X.env))) (AP X pins σ Q) X.xe s
noncomputable def PS (X : Cx) (st : Stmt) (t : TS) : Prop :=
  ∀ (pins : List (Addr × Obj)) (s : Shared) (σ : St) (H : Hp) (D : Ends), Inv X pins σ H s → t D σ H → wpAny (model X.prog X.w) X.A (exec st X.env) (SP X pins D) X.xe s
noncomputable def PSs (X : Cx) (st : List Stmt) (t : TS) : Prop :=
  ∀ (pins : List (Addr × Obj)) (s : Shared) (σ : St) (H : Hp) (D : Ends), Inv X pins σ H s → t D σ H → wpAny (model X.prog X.w) X.A (execs st X.env) (SP X pins D) X.xe s
theorem thn {α : Type} {t : Sem α} {Q Q' : α → Shared → Prop} {M : Model} {A : Around} {E : Value → Shared → Prop} {s : Shared} (h : wpAny M A t Q E s) (hQ : ∀ a s, Q a s → Q' a s) : wpAny M A t Q' E s := wpAny_mono h hQ fun _ _ x => x
end L2

namespace L2
open PySem PySem.Spec PyProof.Rows
section
variable {X : Cx}

theorem bin {a b : Expr} {ta tb : TE} (ha : PE X a ta) (hb : PE X b tb) {pins : List (Addr × Obj)} {s : Shared} {σ : St} {H : Hp} {R : V → V → Hp → Prop} (I : Inv X pins σ H s) (h : ta σ H fun x H1 => tb σ H1 fun y H2 => R x y H2)
    {α : Type} {Q : α → Shared → Prop} {f : Value → Value → Sem α}
    (hf : ∀ v u s2 x y H2, Inv X pins σ H2 s2 → RelV x v → RelV y u → R x y H2 → wpAny (model X.prog X.w) X.A (f v u) Q X.xe s2) :
    wpAny (model X.prog X.w) X.A (eval a X.env) (fun v s₁ => wpAny (model X.prog X.w) X.A (eval b X.env) (fun u s₂ => wpAny (model X.prog X.w) X.A (f v u) Q X.xe s₂) X.xe s₁) X.xe s := by
  refine thn (ha pins s σ H _ I h) fun v s1 ⟨x, H1, I1, r1, q1⟩ => ?_
  refine thn (hb pins s1 σ H1 _ I1 q1) fun u s2 ⟨y, H2, I2, r2, q2⟩ => ?_
  exact hf v u s2 x y H2 I2 r1 r2 q2

noncomputable def tVar (i : Nat) : TE := fun σ H Q => ∃ v, σ[i]? = some (some v) ∧ Q v H
noncomputable def tC (v : V) : TE := fun _ H Q => Q v H
theorem pe_var {i : Nat} {x : Str} {pos : Pos} (hN : X.N[i]? = some x) (hv : Vis X.env.scope x) (hd : (x == ("__debug__" : Str)) = false := by decide) (hcd : (x == ("__classdict__" : Str)) = false := by decide) : PE X (.Name x pos) (tVar i) := by
  intro pins s σ H Q I h
  obtain ⟨v, e, h⟩ := h
  obtain ⟨m, hn, hl⟩ := I.loc
  obtain ⟨u, r, l⟩ := hl i x v hN e hv
  have fin : EP X pins σ Q u s := ⟨v, H, I, r, h⟩
  rcases l with ⟨hk, hm⟩ | ⟨hk, c, hc, hcell⟩
  · exact wpAny_Name (wpAny_loadName_local I.ok.kind hk hn hm fin) hd
  · rcases hk with hk | hk
    · exact wpAny_Name (wpAny_loadName_cell I.ok.kind hk hc hcell fin) hd
    · exact wpAny_Name (wpAny_loadName_free I.ok.kind hk hc hcell fin hcd) hd
theorem pe_int {i j pos} : PE X (.Constant (.int i) j pos) (tC (.int i)) := fun _ _ _ H _ I h => wpAny_Constant_int ⟨.int i, H, I.tok _, ⟨_, rfl⟩, h⟩
theorem pe_bl {b j pos} : PE X (.Constant (.bool b) j pos) (tC (.bl b)) := fun _ _ _ H _ I h => Constant_bool ⟨.bl b, H, I, rfl, h⟩
theorem pe_non {j pos} : PE X (.Constant .none j pos) (tC .non) := fun _ _ _ H _ I h => Constant_none ⟨.non, H, I, rfl, h⟩
theorem pe_str {x j pos} : PE X (.Constant (.str x) j pos) (tC (.str x)) := fun _ _ _ H _ I h => Calls.Constant_str ⟨.str x, H, I.tok _, ⟨_, rfl⟩, h⟩

noncomputable def Gl (X : Cx) (x : Str) : Prop := X.env.kindOf x = some .globalImplicit
theorem ld_glob {E : Value → Shared → Prop} {pins : List (Addr × Obj)} {s : Shared} {σ : St} {H : Hp} {x : Str} {u : Value} {pos : Pos} {Q : Value → Shared → Prop} (I : Inv X pins σ H s) (hg : Gl X x) (hm : X.mg x = some u) (h : Q u s)
    (hd : (x == ("__debug__" : Str)) = false := by decide) : wpAny (model X.prog X.w) X.A (eval (.Name x pos) X.env) Q E s :=
  Calls.Name_function_global I.ok.kind hg (Calls.loadGlobal_global (by rw [I.ok.glob]; exact I.mod.glob.keeps I.bk) hm h) hd
theorem ld_blt {E : Value → Shared → Prop} {pins : List (Addr × Obj)} {s : Shared} {σ : St} {H : Hp} {x : Str} {u : Value} {pos : Pos} {Q : Value → Shared → Prop} (I : Inv X pins σ H s) (hg : Gl X x) (hm : X.mg x = none) (hv : bootBuiltins x = some u) (h : Q u s)
    (hn : x ≠ "__name__" := by decide) (hd : (x == ("__debug__" : Str)) = false := by decide) : wpAny (model X.prog X.w) X.A (eval (.Name x pos) X.env) Q E s := by
  obtain ⟨mb, h1, h2⟩ := I.mod.blt
  exact Calls.Name_function_global I.ok.kind hg (Calls.loadGlobal_builtin (by rw [I.ok.glob]; exact I.mod.glob.keeps I.bk) hm (by rw [I.ok.blt]; exact h1.keeps I.bk) ((h2 x hn).trans hv) h) hd
theorem pe_glob {x : Str} {v : V} {u : Value} {pos : Pos} (hg : Gl X x) (hm : X.mg x = some u) (r : RelV v u) (hd : (x == ("__debug__" : Str)) = false := by decide) : PE X (.Name x pos) (tC v) :=
  fun _ _ _ H _ I h => ld_glob I hg hm ⟨v, H, I, r, h⟩ hd
theorem pe_bltn {x : Str} {v : V} {u : Value} {pos : Pos} (hg : Gl X x) (hm : X.mg x = none) (hv : bootBuiltins x = some u) (r : RelV v u) (hn : x ≠ "__name__" := by decide) (hd : (x == ("__debug__" : Str)) = false := by decide) : PE X (.Name x pos) (tC v) :=
  fun _ _ _ H _ I h => ld_blt I hg hm hv ⟨v, H, I, r, h⟩ hn hd

variable {a b : Expr} {ta tb : TE} {pos : Pos}
noncomputable def PC (X : Cx) (op : CmpOp) (a b : Expr) (t : TE) : Prop :=
  ∀ (pins : List (Addr × Obj)) (s : Shared) (σ : St) (H : Hp) (Q : VK), Inv X pins σ H s → t σ H Q →
    wpAny (model X.prog X.w) X.A (eval a X.env) (fun v s₁ => wpAny (model X.prog X.w) X.A (eval b X.env) (fun u s₂ => wpAny (model X.prog X.w) X.A (compareOp op v u) (EP X pins σ Q) X.xe s₂) X.xe s₁) X.xe s
theorem nobehind (b : Expr) {op : CmpOp} (h : op ≠ .In) (h2 : op ≠ .NotIn) : behindInMarks op b = false := by
  have e1 : (op == CmpOp.In) = false := by cases op <;> first | rfl | exact absurd rfl h
  have e2 : (op == CmpOp.NotIn) = false := by cases op <;> first | rfl | exact absurd rfl h2
  cases b <;> simp [behindInMarks, e1, e2]
noncomputable def tB (t : TE) : TT := fun σ H Q => t σ H fun x H1 => ∃ c, x = .bl c ∧ Q c H1
theorem pt_cmp {op : CmpOp} {t : TE} (h : PC X op a b t) (h1 : behindInMarks op b = false := by first | exact nobehind _ (by decide) (by decide) | rfl) : PT X (.Compare a [op] [b] pos) (tB t) := by
  intro pins s σ H Q I hw
  refine wpAny_isTrue_Compare1 (thn (h pins s σ H _ I hw) fun v s1 h1 => thn h1 fun u s2 h2 => thn h2 fun c s3 ⟨x, H1, I1, r1, q1⟩ => ?_) h1
  obtain ⟨d, rfl, q⟩ := q1
  cases r1
  exact wpAny_truthy_bool ⟨H1, I1, q⟩
theorem pt_val {e : Expr} {t : TE} (h : PE X e t) (he : ∀ whole, isTrue e X.env whole = (do let v ← whole; standAt e.pos; holding [v] (truthy v)) := by intro _; rfl) : PT X e (tB t) := by
  intro pins s σ H Q I hw
  refine isTrue_plain (thn (h pins s σ H _ I hw) fun v s1 ⟨x, H1, I1, r1, q1⟩ => ?_) (he _)
  obtain ⟨d, rfl, q⟩ := q1
  cases r1
  exact wpAny_truthy_bool ⟨H1, I1, q⟩

variable {tA tB' : TT} {rest : List Expr}
noncomputable def tOr (t u : TT) : TT := fun σ H Q => t σ H fun c H1 => if c = true then Q true H1 else u σ H1 Q
noncomputable def tNot (t : TT) : TT := fun σ H Q => t σ H fun c H1 => Q (!c) H1
theorem pw_or1 (ha : PT X a tA) : PW X (.BoolOp .Or [a] pos) tA := by
  intro wh pins s σ H Q I h
  refine isTrue_or (thn (ha pins s σ H Q I h) fun c s1 e => ?_)
  cases c with
  | false => exact isTrue_or_nil e
  | true => exact e
theorem pw_or (ha : PT X a tA) (hb : PW X (.BoolOp .Or (b :: rest) pos) tB') : PW X (.BoolOp .Or (a :: b :: rest) pos) (tOr tA tB') := by
  intro wh pins s σ H Q I h
  refine isTrue_or (thn (ha pins s σ H _ I h) fun c s1 ⟨H1, I1, q1⟩ => ?_)
  cases c with
  | true => exact ⟨H1, I1, q1⟩
  | false => exact hb wh pins s1 σ H1 Q I1 q1
theorem pt_not (ha : PT X a tA) : PT X (.UnaryOp .Not a pos) (tNot tA) := by
  intro pins s σ H Q I h
  exact isTrue_not (ha pins s σ H (fun c H1 => Q (!c) H1) I h)
noncomputable def tAndV (ta tb : TE) : TE := fun σ H Q => ta σ H fun x H1 => ∃ c, x = .bl c ∧ if c = true then tb σ H1 Q else Q (.bl false) H1
theorem pe_one {op} {t : TE} (h : PE X a t) : PE X (.BoolOp op [a] pos) t := fun pins s σ H Q I hw => BoolOp_one (h pins s σ H Q I hw)
theorem pe_and (ha : PE X a ta) (hb : PE X (.BoolOp .And (b :: rest) pos) tb) : PE X (.BoolOp .And (a :: b :: rest) pos) (tAndV ta tb) := by
  intro pins s σ H Q I h
  refine BoolOp_and (thn (ha pins s σ H _ I h) fun v s1 ⟨x, H1, I1, r1, q1⟩ => ?_)
  obtain ⟨c, rfl, q1⟩ := q1
  cases r1
  refine wpAny_truthy_bool ?_
  cases c with
  | true => exact hb pins s1 σ H1 Q I1 q1
  | false => exact ⟨.bl false, H1, I1, rfl, q1⟩
end
end L2

namespace L2
open PySem PySem.Spec PyProof.Rows

noncomputable def SqL (K : PySem.W.Frag) (H : Hp) (a : Addr) (xs : List V) : Prop :=
  Rd H a (.lst xs) ∨
    ∃ (o : Obj) (its : Array Value) (n : Nat), K.lookup a = some o ∧ o.cls = .type "list" ∧ o.dict = none ∧ o.data = .seq its n ∧ its.size ≤ sizeLine ∧ Vals xs its.toList
noncomputable def SqT (K : PySem.W.Frag) (H : Hp) (a : Addr) (xs : List V) : Prop :=
  Rd H a (.tup xs) ∨
    ∃ (o : Obj) (its : Array Value) (n : Nat), K.lookup a = some o ∧ o.cls = .type "tuple" ∧ o.data = .seq its n ∧ its.size ≤ sizeLine ∧ Vals xs its.toList
noncomputable def absV : Value → Option V
  | .none => some .non
  | .bool b => some (.bl b)
  | .int i _ => some (.int i)
  | .str x _ => some (.str x)
  | .bytes b _ => some (.byt b)
  | .float b _ => some (.flt b)
  | .ref a => some (.ref a)
  | .type n => some (.ty n)
  | _ => none
theorem RelV.abs {x : V} {u : Value} (r : RelV x u) : absV u = some x := by
  cases x with
  | non => cases r; rfl
  | bl _ => cases r; rfl
  | int _ => obtain ⟨t, rfl⟩ := r; rfl
  | str _ => obtain ⟨t, rfl⟩ := r; rfl
  | byt _ => obtain ⟨t, rfl⟩ := r; rfl
  | flt _ => obtain ⟨t, rfl⟩ := r; rfl
  | ref _ => cases r; rfl
  | ty _ => cases r; rfl
theorem RelV.inj {x y : V} {u : Value} (r : RelV x u) (q : RelV y u) : x = y := Option.some.inj (r.abs.symm.trans q.abs)
theorem Vals.inj : ∀ {xs ys : List V} {us : List Value}, Vals xs us → Vals ys us → xs = ys
  | _, _, _, .nil, .nil => rfl
  | _, _, _, .cons r t, .cons r' t' => by rw [r.inj r', Vals.inj t t']
section
variable {X : Cx} {pins : List (Addr × Obj)} {σ : St} {H : Hp} {s : Shared} {a : Addr} {xs ys : List V}
theorem SqL.of {K : PySem.W.Frag} (h : H a = some (.lst xs)) : SqL K H a xs := .inl (.inl h)
theorem SqT.of {K : PySem.W.Frag} (h : H a = some (.tup xs)) : SqT K H a xs := .inl (.inl h)
theorem Inv.list (I : Inv X pins σ H s) (h : SqL X.K H a xs) : ∃ its : List Value, Vals xs its ∧ PlainL s.heap a its.toArray ∧ xs.length ≤ sizeLine := by
  rcases h with h | ⟨o, its, n, hk, hc, hd, hs, hz, r⟩
  · obtain ⟨z, its, n, r, e⟩ := h.ok I.hok
    exact ⟨its, r, ⟨_, n, e, rfl, rfl, rfl⟩, z⟩
  · refine ⟨its.toList, r, ⟨o, n, I.kIn a o hk, hc, hd, by simpa using hs⟩, ?_⟩
    have e := r.length
    simp only [Array.length_toList] at e
    omega
theorem Inv.tuple (I : Inv X pins σ H s) (h : SqT X.K H a xs) : ∃ its : List Value, Vals xs its ∧ IsTup s.heap a its.toArray ∧ xs.length ≤ sizeLine := by
  rcases h with h | ⟨o, its, n, hk, hc, hs, hz, r⟩
  · obtain ⟨z, its, r, p⟩ := h.ok I.hok
    exact ⟨its, r, p, z⟩
  · refine ⟨its.toList, r, ⟨o, I.kIn a o hk, hc, n, by simpa using hs⟩, ?_⟩
    have e := r.length
    simp only [Array.length_toList] at e
    omega
theorem Inv.list_inj (I : Inv X pins σ H s) (h : SqL X.K H a xs) (h' : SqL X.K H a ys) : xs = ys := by
  obtain ⟨its, r, ⟨o, n, e, _, _, d⟩, _⟩ := I.list h
  obtain ⟨its', r', ⟨o', n', e', _, _, d'⟩, _⟩ := I.list h'
  rw [e] at e'; cases e'
  rw [d] at d'
  injection d' with d1 _
  have : its = its' := by simpa using congrArg Array.toList d1
  subst this
  exact r.inj r'
end

noncomputable abbrev Cx.wish (X : Cx) (E : Value → Shared → Prop) : Cx := { X with xe := E }
noncomputable abbrev Cx.nox (X : Cx) : Cx := X.wish fun _ _ => False
theorem Cx.Ok.wish {X : Cx} (ok : X.Ok) (E : Value → Shared → Prop) : (X.wish E).Ok :=
  ⟨ok.mod, ok.kind, ok.glob, ok.blt, ok.above, ok.inj, ok.has, ok.cab, ok.hd, ok.frames, ok.stk, ok.exf, ok.bs, ok.bsz, ok.noex, ok.exfs, ok.funs, ok.frf⟩
theorem Cx.Ok.unwish {X : Cx} {E : Value → Shared → Prop} (ok : (X.wish E).Ok) : X.Ok :=
  ⟨ok.mod, ok.kind, ok.glob, ok.blt, ok.above, ok.inj, ok.has, ok.cab, ok.hd, ok.frames, ok.stk, ok.exf, ok.bs, ok.bsz, ok.noex, ok.exfs, ok.funs, ok.frf⟩
section
variable {X : Cx} {pins : List (Addr × Obj)} {σ : St} {H : Hp} {s : Shared} {E : Value → Shared → Prop}
theorem Inv.wish (I : Inv X pins σ H s) (E : Value → Shared → Prop) : Inv (X.wish E) pins σ H s := ⟨I.ok.wish E, I.os, I.bare, I.base, I.loc, I.cell, I.free, I.freeC, I.pin, I.hok, I.len⟩
theorem Inv.unwish (I : Inv (X.wish E) pins σ H s) : Inv X pins σ H s := ⟨I.ok.unwish, I.os, I.bare, I.base, I.loc, I.cell, I.free, I.freeC, I.pin, I.hok, I.len⟩
theorem SP.unwish {D : Ends} {f : Flow} {s' : Shared} (h : SP (X.wish E) pins D f s') : SP X pins D f s' := by
  cases f with
  | next => obtain ⟨σ', H', I, q⟩ := h; exact ⟨σ', H', I.unwish, q⟩
  | brk => obtain ⟨σ', H', I, q⟩ := h; exact ⟨σ', H', I.unwish, q⟩
  | cont => obtain ⟨σ', H', I, q⟩ := h; exact ⟨σ', H', I.unwish, q⟩
  | ret u => obtain ⟨v, σ', H', I, r, q⟩ := h; exact ⟨v, σ', H', I.unwish, r, q⟩
theorem PSs.nox {st : List Stmt} {t : TS} (h : PSs X.nox st t) : PSs X st t := fun pins s σ H D I hw =>
  wpAny_mono (h pins s σ H D (I.wish _) hw) (fun _ _ q => q.unwish) fun _ _ z => False.elim z
end

section
variable {X : Cx} {st : Stmt} {rest : List Stmt} {t u : TS} {e : Expr} {te : TE} {pos : Pos}
noncomputable def tNext : TS := fun D σ H => D.nx σ H
noncomputable def tSeq (t u : TS) : TS := fun D σ H => t { D with nx := u D } σ H
theorem pss_nil : PSs X [] tNext := fun _ _ σ H _ I h => wpAny_execs_nil ⟨σ, H, I, h⟩
theorem pss_cons (h1 : PS X st t) (h2 : PSs X rest u) : PSs X (st :: rest) (tSeq t u) := by
  intro pins s σ H D I h
  refine wpAny_execs_cons (thn (h1 pins s σ H { D with nx := u D } I h) fun f s1 q => ?_)
  cases f with
  | next =>
    obtain ⟨σ', H', I', q⟩ := q
    exact h2 pins s1 σ' H' D I' q
  | ret v => exact q
  | brk => exact q
  | cont => exact q
theorem pss_one (h1 : PS X st t) : PSs X [st] t := by
  intro pins s σ H D I h
  refine wpAny_execs_cons (thn (h1 pins s σ H D I h) fun f s1 q => ?_)
  cases f with
  | next => exact wpAny_execs_nil q
  | ret v => exact q
  | brk => exact q
  | cont => exact q
theorem Inv.quiet {pins : List (Addr × Obj)} {σ : St} {H : Hp} {s : Shared} (I : Inv X pins σ H s) : interactive X.env = false := by simp [interactive, I.ok.kind]
noncomputable def tDrop (te : TE) : TS := fun D σ H => te σ H fun _ H1 => D.nx σ H1
theorem ps_expr (he : PE X e te) (hs : swapsWith e none pos.line X.env = pure false := by rfl) : PS X (.Expr e pos) (tDrop te) := by
  intro pins s σ H D I h
  exact wpAny_Expr_any (thn (he pins s σ H _ I h) fun v s1 ⟨x, H1, I1, r1, q1⟩ => ⟨σ, H1, I1, q1⟩) I.quiet hs
noncomputable def tRet (te : TE) : TS := fun D σ H => te σ H D.rt
theorem ps_ret (he : PE X e te) : PS X (.Return (some e) pos) (tRet te) := by
  intro pins s σ H D I h
  exact wpAny_Return_some (thn (he pins s σ H _ I h) fun v s1 ⟨x, H1, I1, r1, q1⟩ => ⟨x, σ, H1, I1, r1, q1⟩)
noncomputable def tIfS (c : TT) (t u : TS) : TS := fun D σ H => c σ H fun b H1 => if b = true then t D σ H1 else u D σ H1
theorem ps_if {c : Expr} {a b : List Stmt} {tc : TT} (hc : PT X c tc) (ha : PSs X a t) (hb : PSs X b u) : PS X (.If c a b pos) (tIfS tc t u) := by
  intro pins s σ H D I h
  refine wpAny_If (thn (hc pins s σ H _ I h) fun d s1 ⟨H1, I1, q1⟩ => ?_)
  cases d with
  | true => exact ha pins s1 σ H1 D I1 q1
  | false => exact hb pins s1 σ H1 D I1 q1
end

noncomputable abbrev TG := V → St → Hp → (St → Hp → Prop) → Prop
noncomputable abbrev TGs := List V → St → Hp → (St → Hp → Prop) → Prop
noncomputable def PG (X : Cx) (target : Expr) (t : TG) : Prop :=
  ∀ (pins : List (Addr × Obj)) (s : Shared) (σ : St) (H : Hp) (v : V) (u : Value) (Q : St → Hp → Prop), Inv X pins σ H s → RelV v u → t v σ H Q →
    wpAny (model X.prog X.w) X.A (assign target X.env u) (fun _ s' => ∃ σ' H', Inv X pins σ' H' s' ∧ Q σ' H') X.xe s
noncomputable def PGs (X : Cx) (ts : List Expr) (t : TGs) : Prop :=
  ∀ (pins : List (Addr × Obj)) (s : Shared) (σ : St) (H : Hp) (vs : List V) (us : List Value) (Q : St → Hp → Prop), Inv X pins σ H s → Vals vs us → t vs σ H Q →
    wpAny (model X.prog X.w) X.A (assignInOrder ((assignEach ts X.env).map (·.2)) us) (fun _ s' => ∃ σ' H', Inv X pins σ' H' s' ∧ Q σ' H') X.xe s
noncomputable abbrev TSet := V → V → V → Hp → (Hp → Prop) → Prop
noncomputable def PSet (X : Cx) (t : TSet) : Prop :=
  ∀ (pins : List (Addr × Obj)) (s : Shared) (σ : St) (H : Hp) (o i v : V) (ov iv u : Value) (Q : Hp → Prop), Inv X pins σ H s → RelV o ov → RelV i iv → RelV v u → t o i v H Q →
    wpAny (model X.prog X.w) X.A (setItem ov iv u) (fun _ s' => ∃ H', Inv X pins σ H' s' ∧ Q H') X.xe s
section
variable {X : Cx} {pos : Pos}
noncomputable def gName (i : Nat) : TG := fun v σ H Q => Q (σ.set i (some v)) H
theorem pg_name {i : Nat} {x : Str} (hN : X.N.Nodup) (hi : X.N[i]? = some x) (hx : Loc X.env.scope x) (hf : X.fn x = true ∨ X.env.scope.names.lookup x = some .local := by first | exact .inl rfl | exact .inr rfl | assumption) : PG X (.Name x pos) (gName i) := by
  intro pins s σ H v u Q I r h
  exact wpAny_assign_Name (store_ok I hN hi hx r (fun s' I' => ⟨_, H, I', h⟩) hf)
noncomputable def gNil : TGs := fun vs σ H Q => vs = [] ∧ Q σ H
noncomputable def gCons (t : TG) (u : TGs) : TGs := fun vs σ H Q => ∃ v r, vs = v :: r ∧ t v σ H fun σ' H' => u r σ' H' Q
theorem pgs_nil : PGs X [] gNil := by
  intro pins s σ H vs us Q I r h
  obtain ⟨e, h⟩ := h
  subst e
  cases r
  exact assignInOrder_nil ⟨σ, H, I, h⟩
theorem pgs_cons {e : Expr} {es : List Expr} {t : TG} {u : TGs} (h1 : PG X e t) (h2 : PGs X es u)
    (hs : (assignEach (e :: es) X.env).map (·.2) = assign e X.env :: (assignEach es X.env).map (·.2) := by rfl) : PGs X (e :: es) (gCons t u) := by
  intro pins s σ H vs us Q I r h
  obtain ⟨v, vr, e1, h⟩ := h
  subst e1
  cases r with
  | cons r rr =>
    rw [hs]
    refine assignInOrder_cons (thn (h1 pins s σ H _ _ _ I r h) fun _ s1 ⟨σ1, H1, I1, q1⟩ => ?_)
    exact h2 pins s1 σ1 H1 _ _ Q I1 rr q1
noncomputable def gTup (K : PySem.W.Frag) (n : Nat) (t : TGs) : TG := fun v σ H Q => ∃ a xs, v = .ref a ∧ SqT K H a xs ∧ xs.length = n ∧ t xs σ H Q
theorem pg_tup {es : List Expr} {k : Nat} {t : TGs} {n : Nat} (hc : X.calm = true) (h : PGs X es t)
    (hn : (assignEach es X.env).length = n := by rfl) (hst : (assignEach es X.env).findIdx? (·.1) = none := by rfl) : PG X (.Tuple es k pos) (gTup X.K n t) := by
  intro pins s σ H v u Q I r hw
  obtain ⟨a, xs, e1, hq, hl, hw⟩ := hw
  subst e1
  cases r
  obtain ⟨its, rv, ht, hz⟩ := I.tuple hq
  refine assign_Tuple_tuple (I.ok.hd hc) ht (by simp [hn, ← hl, rv.length]) hst fun h' hx => ?_
  have I1 : Inv X pins σ H { s with heap := h' } := I.kept (t' := s.toks) fun b o e => hx b o (Nat.ne_of_lt (Heap.lt_size e)) e
  exact h pins _ σ H xs _ Q I1 (by simpa using rv) hw
noncomputable def gSub (to ti : TE) (t : TSet) : TG := fun v σ H Q => to σ H fun o H1 => ti σ H1 fun i H2 => t o i v H2 fun H3 => Q σ H3
theorem pg_sub {o i : Expr} {to ti : TE} {t : TSet} (ho : PE X o to) (hi : PE X i ti) (hs : PSet X t)
    (ha : ∀ v, assign (.Subscript o i pos) X.env v = (do
      let ov ← holding [v] (eval o X.env)
      let iv ← holding [v, ov] (eval i X.env)
      standAt pos
      holding [v, ov, iv] (setItem ov iv v)
      release [v, ov, iv] []) := by intro _; rfl) : PG X (.Subscript o i pos) (gSub to ti t) := by
  intro pins s σ H v u Q I r h
  rw [ha]
  refine wpAny_bind (wpAny_holding (thn (ho pins s σ H _ I h) fun ov s1 ⟨x, H1, I1, r1, q1⟩ => ?_))
  refine wpAny_bind (wpAny_holding (thn (hi pins s1 σ H1 _ I1 q1) fun iv s2 ⟨y, H2, I2, r2, q2⟩ => ?_))
  refine wpAny_bind (wpAny_standAt (wpAny_bind (wpAny_holding (thn (hs pins s2 σ H2 x y v ov iv u _ I2 r1 r2 r q2) fun _ s3 ⟨H3, I3, q3⟩ => ?_))))
  exact wpAny_release ⟨σ, H3, I3, q3⟩
noncomputable def tAsg (te : TE) (g : TG) : TS := fun D σ H => te σ H fun x H1 => g x σ H1 D.nx
theorem ps_asg {tg e : Expr} {te : TE} {g : TG} (he : PE X e te) (hg : PG X tg g) (hs : swapsWithSole [tg] e pos.line X.env = pure false := by rfl) (hw : swappedStores [tg] e X.env = pure none := by rfl)
    (h1 : (assignEach [tg] X.env).map (·.2) = [assign tg X.env] := by rfl) : PS X (.Assign [tg] e pos) (tAsg te g) := by
  intro pins s σ H D I h
  refine wpAny_Assign_stores (thn (he pins s σ H _ I h) fun v s1 ⟨x, H1, I1, r1, q1⟩ => ?_) hs hw
  rw [h1]
  exact thn (hg pins s1 σ H1 x v _ I1 r1 q1) fun _ s2 q => q
theorem ps_set {i : Nat} {x : Str} {e : Expr} {te : TE} {pos' : Pos} (hN : X.N.Nodup) (hi : X.N[i]? = some x) (hx : Loc X.env.scope x) (he : PE X e te) (hs : swapsWith e (some (.Name x pos')) pos.line X.env = pure false := by rfl) (hf : X.fn x = true ∨ X.env.scope.names.lookup x = some .local := by first | exact .inl rfl | exact .inr rfl | assumption) :
    PS X (.Assign [.Name x pos'] e pos) (tAsg te (gName i)) := by
  intro pins s σ H D I h
  refine wpAny_Assign_Name (thn (he pins s σ H _ I h) fun v s1 ⟨y, H1, I1, r1, q1⟩ => ?_) hs
  exact store_ok I1 hN hi hx r1 (fun s2 I2 => ⟨_, H1, I2, q1⟩) hf
end

section
variable {X : Cx} {pos : Pos}
noncomputable def tWhile (c : TT) (tb : TS) : TS := fun D σ H => ∃ W : Nat → St → Hp → Prop, (∃ m, W m σ H) ∧ ∀ m σ H, W m σ H →
  c σ H fun b H1 => if b = true then ∃ N : St → Hp → Prop, (∀ σ' H', N σ' H' → ∃ m', m' < m ∧ W m' σ' H') ∧ tb { D with nx := N, ct := N, bk := D.nx } σ H1 else D.nx σ H1
theorem ps_while {c : Expr} {body : List Stmt} {tc : TT} {tb : TS} (hp : PassesOwn (model X.prog X.w) X.A X.env X.xe) (hc : PT X c tc) (hb : PSs X body tb) : PS X (.While c body [] pos) (tWhile tc tb) := by
  intro pins s σ H D I h
  obtain ⟨W, ⟨m0, w0⟩, turn⟩ := h
  refine wpAny_While (codeAny_whileLoop (fun n s' => ∃ σ' H', Inv X pins σ' H' s' ∧ W n σ' H') ?_ m0 ⟨σ, H, I, w0⟩)
  rintro n s1 ⟨σ1, H1, I1, w1⟩
  refine wpAny_passesOwn hp (thn (hc pins s1 σ1 H1 _ I1 (turn n σ1 H1 w1)) fun b s2 ⟨H2, I2, q2⟩ => ?_)
  cases b with
  | true =>
    obtain ⟨N, hN, q2⟩ := q2
    rw [if_pos rfl]
    refine wpAny_passesOwn hp (thn (hb pins s2 σ1 H2 _ I2 q2) fun f s3 q3 => ?_)
    cases f with
    | next =>
      obtain ⟨σ3, H3, I3, n3⟩ := q3
      obtain ⟨m', hm, w3⟩ := hN σ3 H3 n3
      exact ⟨m', hm, σ3, H3, I3, w3⟩
    | cont =>
      obtain ⟨σ3, H3, I3, n3⟩ := q3
      obtain ⟨m', hm, w3⟩ := hN σ3 H3 n3
      exact ⟨m', hm, σ3, H3, I3, w3⟩
    | brk => exact q3
    | ret v => exact q3
  | false =>
    rw [if_neg Bool.false_ne_true]
    exact wpAny_execs_nil ⟨σ1, H2, I2, q2⟩
end

structure It where
  go : Nat → Hp → Prop
  yld : Nat → Hp → V → Hp → Prop
  stop : Nat → Hp → Prop
noncomputable def FpOk (X : Cx) (pins : List (Addr × Obj)) (H : Hp) (b : Addr) : Prop :=
  H b = none ∧ b ≠ X.env.locals ∧ b ∉ X.fs ∧ (b ∈ X.ex ∨ X.s₀.heap.objs.size ≤ b) ∧ (∀ x c, X.env.cells.lookup x = some c → c ≠ b) ∧ ∀ p ∈ X.pn ++ pins, p.1 ≠ b
theorem Inv.fpOk {X : Cx} {pins : List (Addr × Obj)} {σ : St} {H H' : Hp} {s : Shared} {b : Addr} (I : Inv X pins σ H s) (hb : s.heap.objs.size ≤ b) (hn : H' b = none) : FpOk X pins H' b := by
  refine ⟨hn, Nat.ne_of_gt (Nat.lt_of_lt_of_le I.lt hb), I.nofs hb, .inr (Nat.le_trans I.sz hb), fun x c e z => ?_, fun p hp z => ?_⟩
  · obtain ⟨v, q⟩ := I.cell x c e
    exact absurd (Nat.lt_of_lt_of_le q.lt (by rw [z]; exact hb)) (Nat.lt_irrefl _)
  · exact absurd (Nat.lt_of_lt_of_le (Heap.lt_size (I.pin p hp).1) (by rw [z]; exact hb)) (Nat.lt_irrefl _)
structure Turn (P : Program) (w : World) (K : PySem.W.Frag) (tg : Expr) (J : It) (fp : List Addr) (it : Addr) (tn : Nat → Heap → Prop) : Prop where
  mem : it ∈ fp
  obj : ∀ i h, tn i h → ∀ b ∈ fp, ∃ o, h.get? b = some o ∧ ∀ v, o.data ≠ .cell v
  keep : ∀ i h h', tn i h → (∀ b ∈ fp, ∀ o, h.get? b = some o → h'.get? b = some o) → tn i h'
  item : ∀ (X : Cx), X.prog = P → X.w = w → X.K = K → X.calm = true → ∀ (i : Nat) (pins : List (Addr × Obj)) (s : Shared) (σ : St) (H : Hp) (E : Value → Shared → Prop), Inv X pins σ H s → (∀ b ∈ fp, FpOk X pins H b) → tn i s.heap → J.go i H →
    wpAny (model P w) X.A (pyNext (.ref it)) (fun r s1 => ∃ u, r = some u ∧
      wpAny (model P w) X.A (letOwnedTupleGo tg (.ref it) u) (fun _ s2 => ∃ x H', Inv X pins σ H' s2 ∧ RelV x u ∧ J.yld i H x H' ∧ tn (i + 1) s2.heap ∧ ∀ b ∈ fp, H' b = none) E s1) E s
  done : ∀ (X : Cx), X.prog = P → X.w = w → X.K = K → X.calm = true → ∀ (i : Nat) (pins : List (Addr × Obj)) (s : Shared) (σ : St) (H : Hp) (E : Value → Shared → Prop), Inv X pins σ H s → (∀ b ∈ fp, FpOk X pins H b) → tn i s.heap → J.stop i H →
    wpAny (model P w) X.A (pyNext (.ref it)) (fun r s1 => r = none ∧ Inv X pins σ H s1) E s
  self : ∀ (A : Around) (i : Nat) (s : Shared) (Q : Value → Shared → Prop) (E : Value → Shared → Prop), tn i s.heap → Q (.ref it) s → wpAny (model P w) A (pyIter (.ref it)) Q E s
noncomputable abbrev TI := St → Hp → (It → Hp → Prop) → Prop
noncomputable def PIE (X : Cx) (pins : List (Addr × Obj)) (σ : St) (tg : Expr) (R : It → Hp → Prop) (itv : Value) (s2 : Shared) : Prop :=
  ∃ (it : Addr) (fp : List Addr) (tn : Nat → Heap → Prop) (J : It) (H' : Hp), itv = .ref it ∧ Inv X pins σ H' s2 ∧ Turn X.prog X.w X.K tg J fp it tn ∧ tn 0 s2.heap ∧ (∀ b ∈ fp, FpOk X pins H' b) ∧ R J H'
noncomputable def PI (X : Cx) (tg iter : Expr) (wi : TI) : Prop :=
  ∀ (pins : List (Addr × Obj)) (s : Shared) (σ : St) (H : Hp) (R : It → Hp → Prop), Inv X pins σ H s → wi σ H R →
    wpAny (model X.prog X.w) X.A (eval iter X.env) (fun v s1 => wpAny (model X.prog X.w) X.A (pyIter v) (PIE X pins σ tg R) X.xe s1) X.xe s

theorem go_of {M : Model} {A : Around} {E : Value → Shared → Prop} {s : Shared} {tg : Expr} {it : Addr} {u : Value} {o : Obj} {n : String} {vs : Array Value} {Q : Unit → Shared → Prop} (ho : s.heap.get? it = some o) (hc : o.cls = .type n) (hd : o.data = .fields vs)
    (hn : ["enumerate", "zip", "dict_itemiterator", "dict_reverseitemiterator", "odict_iterator", "itertools.zip_longest", "itertools.pairwise"].contains n = false) (hQ : Q () s) : wpAny M A (letOwnedTupleGo tg (.ref it) u) Q E s := by
  unfold letOwnedTupleGo
  cases tg <;> first
    | exact wpAny_pure hQ
    | (cases u <;> first
        | exact wpAny_pure hQ
        | (refine wpAny_bind (wpAny_load ho ?_)
           rw [hc, hd]
           show wpAny M A (if (["enumerate", "zip", "dict_itemiterator", "dict_reverseitemiterator", "odict_iterator", "itertools.zip_longest", "itertools.pairwise"].contains n && vs[0]? == some (rawInt _)) = true then _ else _) Q E s
           rw [if_neg (by intro h; rw [hn, Bool.false_and] at h; cases h)]
           exact wpAny_pure hQ))

noncomputable def Itl (K : PySem.W.Frag) (a : Addr) : It :=
  ⟨fun i H => ∃ xs x, SqL K H a xs ∧ xs[i]? = some x, fun i H x H' => H' = H ∧ ∀ xs, SqL K H a xs → xs[i]? = some x, fun i H => ∃ xs, SqL K H a xs ∧ xs.length ≤ i⟩
noncomputable def Itr (lo : Int) (n : Nat) : It := ⟨fun i _ => i < n, fun i H x H' => H' = H ∧ x = .int (lo + i), fun i _ => n ≤ i⟩
theorem turn_list {P : Program} {w : World} {K : PySem.W.Frag} {tg : Expr} (a it : Addr) : Turn P w K tg (Itl K a) [it] it (fun i h => h.IsListIter it a i) where
  mem := by simp
  obj := fun i h st b hb => by
    have e : b = it := by simpa using hb
    subst e
    obtain ⟨o, e, c, d⟩ := st
    exact ⟨o, e, fun v z => by rw [d] at z; cases z⟩
  keep := fun i h h' st k => st.at fun o e => k it (by simp) o e
  item := by
    intro X hP hw hK hc i pins s σ H E I hf st hg
    subst hP hw hK
    obtain ⟨xs, x, hq, hx⟩ := hg
    obtain ⟨its, rv, p, hz⟩ := I.list hq
    obtain ⟨u, hu, ru⟩ := rv.get hx
    obtain ⟨f0, f1, f2, f3, f4, f5⟩ := hf it (by simp)
    refine wpAny_pyNext_list_item st p.isList (x := u) (by simpa using hu) fun h' st' sb => ?_
    have I1 : Inv X pins σ H { s with heap := h' } := I.turned (t' := s.toks) (fun b o hb e => (sb.2 b hb).trans e) f0 f1 f3 f4 f5
    obtain ⟨o, e, c, d⟩ := id st'
    exact ⟨u, rfl, go_of (s := { s with heap := h' }) e c d (by decide) ⟨x, H, I1, ru, ⟨rfl, fun ys hy => by rw [I.list_inj hy hq]; exact hx⟩, st', fun b hb => (hf b hb).1⟩⟩
  done := by
    intro X hP hw hK hc i pins s σ H E I hf st hg
    subst hP hw hK
    obtain ⟨xs, hq, hx⟩ := hg
    obtain ⟨its, rv, p, hz⟩ := I.list hq
    obtain ⟨f0, f1, f2, f3, f4, f5⟩ := hf it (by simp)
    have hl := rv.length
    exact wpAny_pyNext_list_end (I.ok.hd hc) st p.isList (by simp; omega) fun h' eb => ⟨rfl, I.turned (t' := s.toks) (fun b o hb e => eb b o hb e) f0 f1 f3 f4 f5⟩
  self := fun _ _ _ _ _ st h => wpAny_pyIter_listiter st h
theorem turn_range {P : Program} {w : World} {K : PySem.W.Frag} {tg : Expr} (it : Addr) (lo : Int) (n : Nat) : Turn P w K tg (Itr lo n) [it] it (fun i h => IsRangeIter h it (lo + (i : Nat) * 1) ((n : Int) - (i : Nat)) 1) where
  mem := by simp
  obj := fun i h st b hb => by
    have e : b = it := by simpa using hb
    subst e
    exact ⟨_, st, fun v z => by
      have z' : Data.fields _ = Data.cell v := z
      cases z'⟩
  keep := fun i h h' st k => k it (by simp) _ st
  item := by
    intro X hP hw hK hc i pins s σ H E I hf st hg
    subst hP hw hK
    obtain ⟨f0, f1, f2, f3, f4, f5⟩ := hf it (by simp)
    have W := Walks.range (prog := X.prog) (w := X.w) (I.ok.hd hc) it lo 1 n
    refine W.item i s _ _ hg st fun v h' tk hv st' kk => ?_
    obtain ⟨t, rfl⟩ := hv
    have I1 : Inv X pins σ H { s with heap := h', toks := tk } := I.turned (fun b o hb e => kk b o (by simpa using hb) e) f0 f1 f3 f4 f5
    refine ⟨_, rfl, go_of (s := { s with heap := h', toks := tk }) (n := "range_iterator") st' rfl rfl (by decide) ⟨.int (lo + i), H, I1, ⟨t, ?_⟩, ⟨rfl, rfl⟩, st', fun b hb => (hf b hb).1⟩⟩
    rw [Int.mul_one]
  done := by
    intro X hP hw hK hc i pins s σ H E I hf st hg
    subst hP hw hK
    obtain ⟨f0, f1, f2, f3, f4, f5⟩ := hf it (by simp)
    exact wpAny_pyNext_range_end (I.ok.hd hc) st (by have : n ≤ i := hg; omega) fun h' eb => ⟨rfl, I.turned (t' := s.toks) (fun b o hb e => eb b o hb e) f0 f1 f3 f4 f5⟩
  self := fun _ _ _ _ _ st h => wpAny_pyIter_rangeiter st h
end L2

namespace L2
open PySem PySem.Spec PyProof.Rows
section
variable {X : Cx} {tg : Expr}
noncomputable def iList (K : PySem.W.Frag) (tl : TE) : TI := fun σ H R => tl σ H fun x H1 => ∃ a, x = .ref a ∧ (∃ xs, SqL K H1 a xs) ∧ R (Itl K a) H1
theorem pi_list {l : Expr} {tl : TE} (hl : PE X l tl) : PI X tg l (iList X.K tl) := by
  intro pins s σ H R I h
  refine thn (hl pins s σ H _ I h) fun v s1 ⟨x, H1, I1, r1, q1⟩ => ?_
  obtain ⟨a, e, ⟨xs, hq⟩, q⟩ := q1
  subst e
  cases r1
  obtain ⟨its, rv, p, hz⟩ := I1.list hq
  refine wpAny_pyIter_list p.isList ?_
  refine ⟨s1.heap.objs.size, [s1.heap.objs.size], _, _, H1, rfl, I1.kept (t' := s1.toks) fun b o e => Heap.get?_push_of_some _ e, turn_list a _, ⟨_, Heap.get?_push_size _ rfl, rfl, rfl⟩, fun b hb => ?_, q⟩
  have e : b = s1.heap.objs.size := by simpa using hb
  subst e
  exact I1.fpOk (Nat.le_refl _) (I1.hok.fresh (Nat.le_refl _))
theorem range_it {pins : List (Addr × Obj)} {σ : St} {H : Hp} {s : Shared} {R : It → Hp → Prop} {E : Value → Shared → Prop} {lo hi : Int} {t u v : Tok} {tk : Nat} (I : Inv X pins σ H s) (h1 : -(2 ^ 62) ≤ lo) (h2 : lo < 2 ^ 62) (h3 : -(2 ^ 62) ≤ hi) (h4 : hi < 2 ^ 62)
    (q : R (Itr lo (hi - lo).toNat) H) : wpAny (model X.prog X.w) X.A (pyIter (.ref s.heap.objs.size)) (PIE X pins σ tg R) E { s with heap := s.heap.push { cls := .type "range", data := .fields #[.int lo t, .int hi u, .int 1 v] }, toks := tk } := by
  refine wpAny_pyIter_range (IsRange.new ..) (small_one h1 h2 h3 h4) ?_
  have I1 : Inv X pins σ H { s with heap := s.heap.push { cls := .type "range", data := .fields #[.int lo t, .int hi u, .int 1 v] }, toks := tk } := I.kept fun b o e => Heap.get?_push_of_some _ e
  refine ⟨(s.heap.push { cls := .type "range", data := .fields #[.int lo t, .int hi u, .int 1 v] }).objs.size, [(s.heap.push { cls := .type "range", data := .fields #[.int lo t, .int hi u, .int 1 v] }).objs.size], _, _, H, rfl,
    I1.kept (t' := tk) fun b o e => Heap.get?_push_of_some _ e, turn_range _ lo (hi - lo).toNat, ?_, fun b hb => ?_, q⟩
  · have e1 : lo + ((0 : Nat) : Int) * 1 = lo := by simp
    have e2 : (((hi - lo).toNat : Nat) : Int) - ((0 : Nat) : Int) = Builtin.Range.rangeSize lo hi 1 := by rw [rangeSize_one]; split <;> omega
    show IsRangeIter _ _ (lo + ((0 : Nat) : Int) * 1) ((((hi - lo).toNat : Nat) : Int) - ((0 : Nat) : Int)) 1
    rw [e1, e2]
    exact Heap.get?_push_size _ rfl
  · have e : b = (s.heap.push { cls := .type "range", data := .fields #[.int lo t, .int hi u, .int 1 v] }).objs.size := by simpa using hb
    subst e
    exact I1.fpOk (Nat.le_refl _) (I1.hok.fresh (Nat.le_refl _))
noncomputable def iRng1 (ta : TA) : TI := fun σ H R => ta σ H fun vs H1 => ∃ j : Int, vs = [.int j] ∧ -(2 ^ 62) ≤ j ∧ j < 2 ^ 62 ∧ R (Itr 0 j.toNat) H1
noncomputable def iRng2 (ta : TA) : TI := fun σ H R => ta σ H fun vs H1 => ∃ i j : Int, vs = [.int i, .int j] ∧ (-(2 ^ 62) ≤ i ∧ i < 2 ^ 62 ∧ -(2 ^ 62) ≤ j ∧ j < 2 ^ 62) ∧ R (Itr i (j - i).toNat) H1
theorem pi_range1 {a : Expr} {ta : TA} {p pos : Pos} (hg : Gl X "range") (hm : X.mg "range" = none) (ha : PA X [a] ta) (hs : starEach [a] X.env = [(false, eval a X.env)] := by rfl) : PI X tg (.Call (.Name "range" p) [a] [] pos) (iRng1 ta) := by
  intro pins s σ H R I h
  refine Call_ (ld_blt I hg hm boot_range (PyProof.Rows.callWith_type1 (thn (ha pos pins s σ H _ I h) fun us s1 ⟨vs, H1, I1, r1, q1⟩ => ?_) hs rfl))
  obtain ⟨j, e, q1, q2, q⟩ := q1
  subst e
  cases r1 with
  | cons r rr =>
    cases rr
    obtain ⟨t, rfl⟩ := r
    exact call_range_1 (range_it I1 (by omega) (by omega) q1 q2 (by simpa using q))
theorem pi_range2 {a b : Expr} {ta : TA} {p pos : Pos} (hg : Gl X "range") (hm : X.mg "range" = none) (ha : PA X [a, b] ta) (hs : starEach [a, b] X.env = [(false, eval a X.env), (false, eval b X.env)] := by rfl) (hs2 : starEach [b] X.env = [(false, eval b X.env)] := by rfl) :
    PI X tg (.Call (.Name "range" p) [a, b] [] pos) (iRng2 ta) := by
  intro pins s σ H R I h
  refine Call_ (ld_blt I hg hm boot_range (PyProof.Rows.callWith_type1 (thn (ha pos pins s σ H _ I h) fun us s1 ⟨vs, H1, I1, r1, q1⟩ => ?_) (by rw [hs, hs2]) (by rw [hs2]; rfl)))
  obtain ⟨i, j, e, ⟨q1, q2, q3, q4⟩, q⟩ := q1
  subst e
  cases r1 with
  | cons r rr =>
    cases rr with
    | cons r' rr =>
      cases rr
      obtain ⟨t, rfl⟩ := r
      obtain ⟨t', rfl⟩ := r'
      exact call_range_2 (range_it I1 q1 q2 q3 q4 q)

noncomputable def tFor (wi : TI) (g : TG) (tb : TS) : TS := fun D σ H => wi σ H fun J H1 => ∃ W : Nat → Nat → St → Hp → Prop, (∃ m, W 0 m σ H1) ∧ ∀ i m σ H, W i m σ H →
  (J.stop i H ∧ D.nx σ H) ∨ (J.go i H ∧ ∃ N : St → Hp → Prop, (∀ σ' H', N σ' H' → ∃ m', m' < m ∧ W (i + 1) m' σ' H') ∧ ∀ x H', J.yld i H x H' → g x σ H' fun σ2 H2 => tb { D with nx := N, ct := N, bk := D.nx } σ2 H2)
noncomputable def pinsAt (fp : List Addr) (h : Heap) : List (Addr × Obj) := fp.filterMap fun b => (h.get? b).map fun o => (b, o)
theorem mem_pinsAt {fp : List Addr} {h : Heap} {b : Addr} {o : Obj} (hb : b ∈ fp) (e : h.get? b = some o) : (b, o) ∈ pinsAt fp h := List.mem_filterMap.mpr ⟨b, hb, by rw [e]; rfl⟩
theorem of_pinsAt {fp : List Addr} {h : Heap} {p : Addr × Obj} (hp : p ∈ pinsAt fp h) : p.1 ∈ fp ∧ h.get? p.1 = some p.2 := by
  obtain ⟨b, hb, e⟩ := List.mem_filterMap.mp hp
  cases q : h.get? b with
  | none => rw [q] at e; cases e
  | some o =>
    rw [q] at e
    have e' : (b, o) = p := Option.some.inj e
    subst e'
    exact ⟨hb, q⟩
theorem Inv.pinned {pins : List (Addr × Obj)} {σ : St} {H : Hp} {s : Shared} {fp : List Addr} (I : Inv X pins σ H s) (hf : ∀ b ∈ fp, FpOk X pins H b) (ho : ∀ b ∈ fp, ∃ o, s.heap.get? b = some o ∧ ∀ v, o.data ≠ .cell v) : Inv X (pins ++ pinsAt fp s.heap) σ H s :=
  I.pins_of fun p hp => (List.mem_append.mp hp).elim (fun z => I.pin p (List.mem_append_right _ z)) fun z => by
    obtain ⟨hb, e⟩ := of_pinsAt z
    obtain ⟨f0, f1, f2, _⟩ := hf p.1 hb
    obtain ⟨o, e', d⟩ := ho p.1 hb
    rw [e] at e'; cases e'
    exact ⟨e, f0, f1, f2, d⟩
theorem Inv.unpinned {pins pl : List (Addr × Obj)} {σ : St} {H : Hp} {s : Shared} (I : Inv X (pins ++ pl) σ H s) : Inv X pins σ H s := I.pins_of fun p hp => I.pin p (List.mem_append_right _ (List.mem_append_left _ hp))
theorem ps_for {iter : Expr} {body : List Stmt} {wi : TI} {g : TG} {tb : TS} {pos : Pos} (hp : PassesOwn (model X.prog X.w) X.A X.env X.xe) (hc : X.calm = true) (hi : PI X tg iter wi) (hg : PG X tg g) (hb : PSs X body tb)
    (hs : ∀ x, foldedSetIterable iter X.env x = pure x := by intro _; rfl) : PS X (.For tg iter body [] pos) (tFor wi g tb) := by
  intro pins s σ H D I h
  refine wpAny_For (thn (hi pins s σ H _ I h) fun v s1 h1 => thn h1 fun itv s2 h2 => ?_) hs
  obtain ⟨it, fp, tn, J, H2, e, I2, T, st2, f2, W, ⟨m0, w0⟩, turn⟩ := h2
  subst e
  -- what stays true of the iterator's objects through the loop
  have stat : ∀ {H' : Hp}, (∀ b ∈ fp, H' b = none) → ∀ b ∈ fp, FpOk X pins H' b := fun hn b hb => ⟨hn b hb, (f2 b hb).2⟩
  refine codeAny_forLoop_any (fun n s' => ∃ i σ' H', Inv X pins σ' H' s' ∧ tn i s'.heap ∧ (∀ b ∈ fp, H' b = none) ∧ W i n σ' H') ?_ m0 ⟨0, σ, H2, I2, st2, fun b hb => (f2 b hb).1, w0⟩
  rintro n s3 ⟨i, σ3, H3, I3, st3, fr3, w3⟩
  rcases turn i n σ3 H3 w3 with ⟨stop, qn⟩ | ⟨go, N, hN, step⟩
  · refine wpAny_passesOwn hp (thn (T.done X rfl rfl rfl hc i pins s3 σ3 H3 X.xe I3 (stat fr3) st3 stop) fun r s4 ⟨hr, I4⟩ => ?_)
    subst hr
    exact wpAny_execs_nil ⟨σ3, H3, I4, qn⟩
  · refine wpAny_passesOwn hp (thn (T.item X rfl rfl rfl hc i pins s3 σ3 H3 X.xe I3 (stat fr3) st3 go) fun r s4 ⟨u, hr, h4⟩ => ?_)
    subst hr
    refine wpAny_passesOwn hp (thn h4 fun _ s5 ⟨x, H5, I5, r5, y5, st5, fr5⟩ => ?_)
    have I5' := I5.pinned (stat fr5) (T.obj _ _ st5)
    refine wpAny_passesOwn hp (thn (hg _ s5 σ3 H5 x u _ I5' r5 (step x H5 y5)) fun _ s6 ⟨σ6, H6, I6, q6⟩ => ?_)
    refine wpAny_passesOwn hp (thn (hb _ s6 σ6 H6 _ I6 q6) fun f s7 q7 => ?_)
    have again : ∀ {σ7 : St} {H7 : Hp}, Inv X (pins ++ pinsAt fp s5.heap) σ7 H7 s7 → N σ7 H7 → ∃ m, m < n ∧ ∃ i σ' H', Inv X pins σ' H' s7 ∧ tn i s7.heap ∧ (∀ b ∈ fp, H' b = none) ∧ W i m σ' H' := fun {σ7 H7} I7 n7 => by
      obtain ⟨m', hm, w7⟩ := hN σ7 H7 n7
      refine ⟨m', hm, i + 1, σ7, H7, I7.unpinned, T.keep _ _ _ st5 fun b hb o e => (I7.pin (b, o) (List.mem_append_right _ (List.mem_append_right _ (mem_pinsAt hb e)))).1, fun b hb => ?_, w7⟩
      obtain ⟨o, e, d⟩ := T.obj _ _ st5 b hb
      exact (I7.pin (b, o) (List.mem_append_right _ (List.mem_append_right _ (mem_pinsAt hb e)))).2.1
    cases f with
    | next => obtain ⟨σ7, H7, I7, n7⟩ := q7; exact again I7 n7
    | cont => obtain ⟨σ7, H7, I7, n7⟩ := q7; exact again I7 n7
    | brk => obtain ⟨σ7, H7, I7, q7⟩ := q7; exact ⟨σ7, H7, I7.unpinned, q7⟩
    | ret v => obtain ⟨x7, σ7, H7, I7, r7, q7⟩ := q7; exact ⟨x7, σ7, H7, I7.unpinned, r7, q7⟩
end

theorem for_list {K : PySem.W.Frag} {a : Addr} {xs : List V} {g : TG} {tb : TS} {D : Ends} {σ : St} {H : Hp} (Pv : Nat → St → Hp → Prop) (h0 : Pv 0 σ H) (hl : ∀ i σ H, i ≤ xs.length → Pv i σ H → SqL K H a xs)
    (hs : ∀ i x σ H, xs[i]? = some x → Pv i σ H → g x σ H fun σ2 H2 => tb { D with nx := Pv (i + 1), ct := Pv (i + 1), bk := D.nx } σ2 H2) (hd : ∀ σ H, Pv xs.length σ H → D.nx σ H) :
    ∃ W : Nat → Nat → St → Hp → Prop, (∃ m, W 0 m σ H) ∧ ∀ i m σ H, W i m σ H →
      ((Itl K a).stop i H ∧ D.nx σ H) ∨ ((Itl K a).go i H ∧ ∃ N : St → Hp → Prop, (∀ σ' H', N σ' H' → ∃ m', m' < m ∧ W (i + 1) m' σ' H') ∧ ∀ x H', (Itl K a).yld i H x H' → g x σ H' fun σ2 H2 => tb { D with nx := N, ct := N, bk := D.nx } σ2 H2) := by
  refine ⟨fun i m σ H => m = xs.length - i ∧ i ≤ xs.length ∧ Pv i σ H, ⟨xs.length, by simp, Nat.zero_le _, h0⟩, ?_⟩
  rintro i m σ H ⟨rfl, hi, p⟩
  have q := hl i σ H hi p
  by_cases hlt : i < xs.length
  · refine .inr ⟨⟨xs, xs[i], q, by simp [hlt]⟩, Pv (i + 1), fun σ' H' p' => ⟨xs.length - (i + 1), by omega, rfl, hlt, p'⟩, fun x H' y => ?_⟩
    obtain ⟨e, y⟩ := y
    subst e
    exact hs i x σ _ (y xs q) p
  · have e : i = xs.length := by omega
    subst e
    exact .inl ⟨⟨xs, q, Nat.le_refl _⟩, hd σ H p⟩
theorem for_range {lo : Int} {n : Nat} {g : TG} {tb : TS} {D : Ends} {σ : St} {H : Hp} (Pv : Nat → St → Hp → Prop) (h0 : Pv 0 σ H)
    (hs : ∀ i σ H, i < n → Pv i σ H → g (.int (lo + i)) σ H fun σ2 H2 => tb { D with nx := Pv (i + 1), ct := Pv (i + 1), bk := D.nx } σ2 H2) (hd : ∀ σ H, Pv n σ H → D.nx σ H) :
    ∃ W : Nat → Nat → St → Hp → Prop, (∃ m, W 0 m σ H) ∧ ∀ i m σ H, W i m σ H →
      ((Itr lo n).stop i H ∧ D.nx σ H) ∨ ((Itr lo n).go i H ∧ ∃ N : St → Hp → Prop, (∀ σ' H', N σ' H' → ∃ m', m' < m ∧ W (i + 1) m' σ' H') ∧ ∀ x H', (Itr lo n).yld i H x H' → g x σ H' fun σ2 H2 => tb { D with nx := N, ct := N, bk := D.nx } σ2 H2) := by
  refine ⟨fun i m σ H => m = n - i ∧ i ≤ n ∧ Pv i σ H, ⟨n, by simp, Nat.zero_le _, h0⟩, ?_⟩
  rintro i m σ H ⟨rfl, hi, p⟩
  by_cases hlt : i < n
  · refine .inr ⟨hlt, Pv (i + 1), fun σ' H' p' => ⟨n - (i + 1), by omega, rfl, hlt, p'⟩, fun x H' y => ?_⟩
    obtain ⟨e, y⟩ := y
    subst e y
    exact hs i σ _ hlt p
  · have e : i = n := by omega
    subst e
    exact .inl ⟨Nat.le_refl _, hd σ H p⟩
theorem while_by {c : TT} {tb : TS} {D : Ends} {σ : St} {H : Hp} (Pv : St → Hp → Prop) (μ : St → Hp → Nat) (h0 : Pv σ H)
    (hs : ∀ σ H, Pv σ H → c σ H fun b H1 => if b = true then tb { D with nx := fun σ' H' => Pv σ' H' ∧ μ σ' H' < μ σ H, ct := fun σ' H' => Pv σ' H' ∧ μ σ' H' < μ σ H, bk := D.nx } σ H1 else D.nx σ H1)
    (mono : ∀ σ H Q Q', (∀ b H1, Q b H1 → Q' b H1) → c σ H Q → c σ H Q') : tWhile c tb D σ H := by
  refine ⟨fun m σ H => m = μ σ H ∧ Pv σ H, ⟨_, rfl, h0⟩, ?_⟩
  rintro m σ H ⟨rfl, p⟩
  refine mono σ H _ _ (fun b H1 q => ?_) (hs σ H p)
  cases b with
  | true => exact ⟨_, fun σ' H' ⟨p', l⟩ => ⟨_, l, rfl, p'⟩, q⟩
  | false => exact q
end L2

namespace L2
open PySem PySem.Spec PyProof.Rows

noncomputable abbrev R2 := V → V → Hp → VK → Prop
noncomputable def OpR (X : Cx) (f : Value → Value → Sem Value) (r : R2) : Prop :=
  ∀ (pins : List (Addr × Obj)) (s : Shared) (σ : St) (H : Hp) (x y : V) (v u : Value) (Q : VK), Inv X pins σ H s → RelV x v → RelV y u → r x y H Q →
    wpAny (model X.prog X.w) X.A (f v u) (EP X pins σ Q) X.xe s
noncomputable def UnR (X : Cx) (f : Value → Sem Value) (r : V → Hp → VK → Prop) : Prop :=
  ∀ (pins : List (Addr × Obj)) (s : Shared) (σ : St) (H : Hp) (x : V) (v : Value) (Q : VK), Inv X pins σ H s → RelV x v → r x H Q →
    wpAny (model X.prog X.w) X.A (f v) (EP X pins σ Q) X.xe s
noncomputable def CallR (X : Cx) (f : Value) (r : List V → Hp → VK → Prop) : Prop :=
  ∀ (pins : List (Addr × Obj)) (s : Shared) (σ : St) (H : Hp) (xs : List V) (us : List Value) (Q : VK), Inv X pins σ H s → Vals xs us → r xs H Q →
    wpAny (model X.prog X.w) X.A (call f us) (EP X pins σ Q) X.xe s
noncomputable def tOp (r : R2) (ta tb : TE) : TE := fun σ H Q => ta σ H fun x H1 => tb σ H1 fun y H2 => r x y H2 Q
noncomputable def tUn (r : V → Hp → VK → Prop) (ta : TE) : TE := fun σ H Q => ta σ H fun x H1 => r x H1 Q
noncomputable def rI (C : Int → Int → Prop) (g : Int → Int → V) : R2 := fun x y H Q => ∃ i j, x = .int i ∧ y = .int j ∧ C i j ∧ Q (g i j) H
noncomputable def rI0 (g : Int → Int → V) : R2 := fun x y H Q => ∃ i j, x = .int i ∧ y = .int j ∧ Q (g i j) H
noncomputable def rU (g : Int → V) : V → Hp → VK → Prop := fun x H Q => ∃ i, x = .int i ∧ Q (g i) H

section
variable {X : Cx} {a b c : Expr} {ta tb tc : TE} {pos : Pos}

theorem binT (ha : PE X a ta) (hb : PE X b tb) {pins : List (Addr × Obj)} {s : Shared} {σ : St} {H : Hp} {R : V → V → Hp → Prop} (I : Inv X pins σ H s)
    (h : ta σ H fun x H1 => tb σ H1 fun y H2 => R x y H2) {Q : Value → Shared → Prop} {f : Value → Value → Sem Value}
    (hf : ∀ v u s2 x y H2, Inv X pins σ H2 s2 → RelV x v → RelV y u → R x y H2 → wpAny (model X.prog X.w) X.A (f v u) Q X.xe s2) :
    wpAny (model X.prog X.w) X.A (eval a X.env) (fun v s₁ => wpAny (model X.prog X.w) X.A (eval b X.env) (fun u s₂ => wpAny (model X.prog X.w) X.A (f v u) Q X.xe s₂) X.xe s₁) X.xe s := by
  refine thn (ha pins s σ H _ I h) fun v s1 ⟨x, H1, I1, r1, q1⟩ => ?_
  refine thn (hb pins s1 σ H1 _ I1 q1) fun u s2 ⟨y, H2, I2, r2, q2⟩ => ?_
  exact hf v u s2 x y H2 I2 r1 r2 q2

theorem pe_op {op : Operator} {r : R2} (ho : OpR X (binaryOp op) r) (ha : PE X a ta) (hb : PE X b tb) : PE X (.BinOp a op b pos) (tOp r ta tb) := by
  intro pins s σ H Q I h
  exact wpAny_BinOp (binT ha hb I h fun v u s2 x y H2 I2 rx ry q => ho pins s2 σ H2 x y v u Q I2 rx ry q)
theorem pe_un {op : UnaryOp} {r : V → Hp → VK → Prop} (ho : UnR X (unaryOp op) r) (ha : PE X a ta) : PE X (.UnaryOp op a pos) (tUn r ta) := by
  intro pins s σ H Q I h
  exact UnaryOp_ (thn (ha pins s σ H _ I h) fun v s1 ⟨x, H1, I1, r1, q1⟩ => ho pins s1 σ H1 x v Q I1 r1 q1)
theorem opI {f : Value → Value → Sem Value} {C : Int → Int → Prop} {g : Int → Int → Int}
    (rule : ∀ (i j : Int) (t u : Tok) (s : Shared) (Q : Value → Shared → Prop) (E : Value → Shared → Prop), C i j → Q (.int (g i j) s.toks) { s with toks := s.toks + 1 } → wpAny (model X.prog X.w) X.A (f (.int i t) (.int j u)) Q E s) :
    OpR X f (rI C fun i j => .int (g i j)) := by
  intro pins s σ H x y v u Q I rx ry h
  obtain ⟨i, j, rfl, rfl, hc, q⟩ := h
  obtain ⟨t, rfl⟩ := rx
  obtain ⟨t', rfl⟩ := ry
  exact rule i j t t' s _ _ hc ⟨.int (g i j), H, I.tok _, ⟨_, rfl⟩, q⟩
theorem opI0 {f : Value → Value → Sem Value} {g : Int → Int → Int}
    (rule : ∀ (i j : Int) (t u : Tok) (s : Shared) (Q : Value → Shared → Prop) (E : Value → Shared → Prop), Q (.int (g i j) s.toks) { s with toks := s.toks + 1 } → wpAny (model X.prog X.w) X.A (f (.int i t) (.int j u)) Q E s) :
    OpR X f (rI0 fun i j => .int (g i j)) := by
  intro pins s σ H x y v u Q I rx ry h
  obtain ⟨i, j, rfl, rfl, q⟩ := h
  obtain ⟨t, rfl⟩ := rx
  obtain ⟨t', rfl⟩ := ry
  exact rule i j t t' s _ _ ⟨.int (g i j), H, I.tok _, ⟨_, rfl⟩, q⟩
theorem opB0 {f : Value → Value → Sem Value} {g : Int → Int → Bool}
    (rule : ∀ (i j : Int) (t u : Tok) (s : Shared) (Q : Value → Shared → Prop) (E : Value → Shared → Prop), Q (.bool (g i j)) s → wpAny (model X.prog X.w) X.A (f (.int i t) (.int j u)) Q E s) :
    OpR X f (rI0 fun i j => .bl (g i j)) := by
  intro pins s σ H x y v u Q I rx ry h
  obtain ⟨i, j, rfl, rfl, q⟩ := h
  obtain ⟨t, rfl⟩ := rx
  obtain ⟨t', rfl⟩ := ry
  exact rule i j t t' s _ _ ⟨.bl (g i j), H, I, rfl, q⟩

noncomputable def CDiv (i j : Int) : Prop := 0 < j ∧ j < 1073741824
noncomputable def CPow (i j : Int) : Prop := 0 ≤ j ∧ j ≤ 1000000 ∧ i.natAbs < 2 ^ 64
noncomputable def CMul (i j : Int) : Prop := (-(2 ^ 64) < i ∧ i < 2 ^ 64) ∨ (-(2 ^ 64) < j ∧ j < 2 ^ 64)
theorem CMul.ok {i j : Int} (h : CMul i j) : IntMulOk i j := by
  rcases h with ⟨h1, h2⟩ | ⟨h1, h2⟩
  · exact .of_left (intBits_le_64 h1 h2)
  · exact .of_right (intBits_le_64 h1 h2)
theorem two_pow_nn (k : Nat) : (0 : Int) ≤ 2 ^ k := by
  rw [two_pow_cast]
  exact Int.natCast_nonneg _

theorem op_add : OpR X (binaryOp .Add) (rI0 fun i j => .int (i + j)) := opI0 fun _ _ _ _ _ _ _ q => add_int q
theorem op_sub : OpR X (binaryOp .Sub) (rI0 fun i j => .int (i - j)) := opI0 fun _ _ _ _ _ _ _ q => sub_int q
theorem op_mul : OpR X (binaryOp .Mult) (rI CMul fun i j => .int (i * j)) := opI fun _ _ _ _ _ _ _ hc q => mul_int q hc.ok
theorem op_fdiv : OpR X (binaryOp .FloorDiv) (rI CDiv fun i j => .int (i / j)) := opI fun i j _ _ _ _ _ hc q => by
  have h1 : (0 : Int) < j := hc.1
  have h2 : j < 1073741824 := hc.2
  exact floordiv_int (by omega) (by rw [Int.fdiv_eq_ediv_of_nonneg i (by omega)]; exact q) (.inl (PyProof.noPylong_small (by omega)))
theorem op_mod : OpR X (binaryOp .Mod) (rI (fun _ j => 0 < j) fun i j => .int (i % j)) := opI fun i j _ _ _ _ _ hc q => by
  have h1 : (0 : Int) < j := hc
  exact mod_int' (by omega) (by rw [Int.fmod_eq_emod_of_nonneg i (by omega)]; exact q)
theorem op_pow : OpR X (binaryOp .Pow) (rI CPow fun i j => .int (i ^ j.toNat)) := opI fun _ _ _ _ _ _ _ hc q => pow_int_small hc.1 hc.2.1 hc.2.2 q
theorem op_shl : OpR X (binaryOp .LShift) (rI CPow fun i j => .int (i * 2 ^ j.toNat)) := opI fun _ _ _ _ _ _ _ hc q => lshift_int_small hc.1 hc.2.1 hc.2.2 q
theorem op_shr : OpR X (binaryOp .RShift) (rI (fun _ j => 0 ≤ j) fun i j => .int (i / 2 ^ j.toNat)) := opI fun i j _ _ _ _ _ hc q =>
  rshift_int hc (by rw [Int.fdiv_eq_ediv_of_nonneg i (two_pow_nn _)]; exact q)
theorem op_and : OpR X (binaryOp .BitAnd) (rI0 fun i j => .int (Builtin.bitAnd i j)) := opI0 fun _ _ _ _ _ _ _ q => and_int q
theorem op_or : OpR X (binaryOp .BitOr) (rI0 fun i j => .int (Builtin.bitOr i j)) := opI0 fun _ _ _ _ _ _ _ q => or_int q
theorem unI {f : Value → Sem Value} {g : Int → Int}
    (rule : ∀ (i : Int) (t : Tok) (s : Shared) (Q : Value → Shared → Prop) (E : Value → Shared → Prop), Q (.int (g i) s.toks) { s with toks := s.toks + 1 } → wpAny (model X.prog X.w) X.A (f (.int i t)) Q E s) :
    UnR X f (rU fun i => .int (g i)) := by
  intro pins s σ H x v Q I rx h
  obtain ⟨i, rfl, q⟩ := h
  obtain ⟨t, rfl⟩ := rx
  exact rule i t s _ _ ⟨.int (g i), H, I.tok _, ⟨_, rfl⟩, q⟩
theorem un_neg : UnR X (unaryOp .USub) (rU fun i => .int (-i)) := unI fun _ _ _ _ _ q => neg_int q
end

noncomputable def scal : V → V → Bool
  | .non, .non => true | .non, .int _ => true | .int _, .non => true | .non, .bl _ => true | .bl _, .non => true | .non, .str _ => true | .str _, .non => true
  | .int _, .int _ => true | .bl _, .bl _ => true | .str _, .str _ => true | .byt _, .byt _ => true
  | .int _, .str _ => true | .str _, .int _ => true | .bl _, .str _ => true | .str _, .bl _ => true
  | _, _ => false
noncomputable def rEq : R2 := fun x y H Q => scal x y = true ∧ Q (.bl (decide (x = y))) H
noncomputable def rNe : R2 := fun x y H Q => scal x y = true ∧ Q (.bl (!decide (x = y))) H

theorem dec_int {i j : Int} : decide (V.int i = V.int j) = (i == j) := by
  rw [Bool.eq_iff_iff]
  simp
theorem dec_bl {i j : Bool} : decide (V.bl i = V.bl j) = (i == j) := by
  rw [Bool.eq_iff_iff]
  simp
theorem dec_str {i j : Str} : decide (V.str i = V.str j) = (i == j) := by
  rw [Bool.eq_iff_iff]
  simp
theorem dec_byt {i j : Array UInt8} : decide (V.byt i = V.byt j) = (i.toList == j.toList) := by
  rw [Bool.eq_iff_iff]
  cases i
  cases j
  simp

section
variable {X : Cx} {a b c : Expr} {ta tb tc : TE} {pos : Pos}
theorem fin_bl {pins : List (Addr × Obj)} {σ : St} {H : Hp} {s : Shared} {Q : VK} {k k' : Bool} (I : Inv X pins σ H s) (q : Q (.bl k) H) (e : k = k') : EP X pins σ Q (.bool k') s := by
  subst e
  exact ⟨.bl k, H, I, rfl, q⟩
theorem op_eq : OpR X (compareOp .Eq) rEq := by
  intro pins s σ H x y v u Q I rx ry h
  obtain ⟨hs, q⟩ := h
  cases x with
  | non =>
    cases rx
    cases y with
    | non => cases ry; exact PySem.EqNone.eq_none_none (fin_bl I q (by simp))
    | bl j => cases ry; exact PySem.EqNone.eq_none_bool (fin_bl I q (by simp))
    | int j => obtain ⟨t', rfl⟩ := ry; exact PySem.EqNone.eq_none_int (fin_bl I q (by simp))
    | str j => obtain ⟨t', rfl⟩ := ry; exact PySem.EqNone.eq_none_str (fin_bl I q (by simp))
    | _ => exact absurd (show false = true from hs) Bool.false_ne_true
  | bl i =>
    cases rx
    cases y with
    | non => cases ry; exact PySem.EqNone.eq_bool_none (fin_bl I q (by simp))
    | bl j => cases ry; exact eq_bool (fin_bl I q dec_bl)
    | str j => obtain ⟨t', rfl⟩ := ry; exact PySem.EqMixed.eq_bool_str (fin_bl I q (by simp))
    | _ => exact absurd (show false = true from hs) Bool.false_ne_true
  | int i =>
    obtain ⟨t, rfl⟩ := rx
    cases y with
    | non => cases ry; exact PySem.EqNone.eq_int_none (fin_bl I q (by simp))
    | int j => obtain ⟨t', rfl⟩ := ry; exact eq_int (fin_bl I q dec_int)
    | str j => obtain ⟨t', rfl⟩ := ry; exact PySem.EqMixed.eq_int_str (fin_bl I q (by simp))
    | _ => exact absurd (show false = true from hs) Bool.false_ne_true
  | str i =>
    obtain ⟨t, rfl⟩ := rx
    cases y with
    | non => cases ry; exact PySem.EqNone.eq_str_none (fin_bl I q (by simp))
    | bl j => cases ry; exact PySem.EqMixed.eq_str_bool (fin_bl I q (by simp))
    | int j => obtain ⟨t', rfl⟩ := ry; exact PySem.EqMixed.eq_str_int (fin_bl I q (by simp))
    | str j => obtain ⟨t', rfl⟩ := ry; exact eq_str (fin_bl I q dec_str)
    | _ => exact absurd (show false = true from hs) Bool.false_ne_true
  | byt i =>
    obtain ⟨t, rfl⟩ := rx
    cases y with
    | byt j => obtain ⟨t', rfl⟩ := ry; exact PySem.W.eq_bytes (fin_bl I q dec_byt)
    | _ => exact absurd (show false = true from hs) Bool.false_ne_true
  | _ => cases y <;> exact absurd (show false = true from hs) Bool.false_ne_true
theorem op_ne : OpR X (compareOp .NotEq) rNe := by
  intro pins s σ H x y v u Q I rx ry h
  obtain ⟨hs, q⟩ := h
  cases x with
  | non =>
    cases rx
    cases y with
    | non => cases ry; exact PySem.EqNone.ne_none_none (fin_bl I q (by simp))
    | bl j => cases ry; exact PySem.EqNone.ne_none_bool (fin_bl I q (by simp))
    | int j => obtain ⟨t', rfl⟩ := ry; exact PySem.EqNone.ne_none_int (fin_bl I q (by simp))
    | str j => obtain ⟨t', rfl⟩ := ry; exact PySem.EqNone.ne_none_str (fin_bl I q (by simp))
    | _ => exact absurd (show false = true from hs) Bool.false_ne_true
  | bl i =>
    cases rx
    cases y with
    | non => cases ry; exact PySem.EqNone.ne_bool_none (fin_bl I q (by simp))
    | bl j => cases ry; exact ne_bool (fin_bl I q (congrArg not dec_bl))
    | str j => obtain ⟨t', rfl⟩ := ry; exact PySem.EqMixed.ne_bool_str (fin_bl I q (by simp))
    | _ => exact absurd (show false = true from hs) Bool.false_ne_true
  | int i =>
    obtain ⟨t, rfl⟩ := rx
    cases y with
    | non => cases ry; exact PySem.EqNone.ne_int_none (fin_bl I q (by simp))
    | int j => obtain ⟨t', rfl⟩ := ry; exact ne_int (fin_bl I q (congrArg not dec_int))
    | str j => obtain ⟨t', rfl⟩ := ry; exact PySem.EqMixed.ne_int_str (fin_bl I q (by simp))
    | _ => exact absurd (show false = true from hs) Bool.false_ne_true
  | str i =>
    obtain ⟨t, rfl⟩ := rx
    cases y with
    | non => cases ry; exact PySem.EqNone.ne_str_none (fin_bl I q (by simp))
    | bl j => cases ry; exact PySem.EqMixed.ne_str_bool (fin_bl I q (by simp))
    | int j => obtain ⟨t', rfl⟩ := ry; exact PySem.EqMixed.ne_str_int (fin_bl I q (by simp))
    | str j => obtain ⟨t', rfl⟩ := ry; exact ne_str (fin_bl I q (congrArg not dec_str))
    | _ => exact absurd (show false = true from hs) Bool.false_ne_true
  | byt i =>
    obtain ⟨t, rfl⟩ := rx
    cases y with
    | byt j => obtain ⟨t', rfl⟩ := ry; exact PySem.W.ne_bytes (fin_bl I q (congrArg not dec_byt))
    | _ => exact absurd (show false = true from hs) Bool.false_ne_true
  | _ => cases y <;> exact absurd (show false = true from hs) Bool.false_ne_true

theorem op_lt : OpR X (compareOp .Lt) (rI0 fun i j => .bl (decide (i < j))) := opB0 fun _ _ _ _ _ _ _ q => lt_int q
theorem op_le : OpR X (compareOp .LtE) (rI0 fun i j => .bl (decide (i ≤ j))) := opB0 fun _ _ _ _ _ _ _ q => le_int q
theorem op_ge : OpR X (compareOp .GtE) (rI0 fun i j => .bl (decide (j ≤ i))) := opB0 fun _ _ _ _ _ _ _ q => ge_int q
theorem op_isN : OpR X (compareOp .Is) (fun x y H Q => y = .non ∧ Q (.bl (decide (x = .non))) H) := by
  intro pins s σ H x y v u Q I rx ry h
  obtain ⟨rfl, q⟩ := h
  cases ry
  refine is_none_gen (fin_bl I q ?_)
  cases x <;> first
    | (cases rx; rfl)
    | (obtain ⟨t, rfl⟩ := rx; rfl)
theorem op_notN : OpR X (compareOp .IsNot) (fun x y H Q => y = .non ∧ Q (.bl (!decide (x = .non))) H) := by
  intro pins s σ H x y v u Q I rx ry h
  obtain ⟨rfl, q⟩ := h
  cases ry
  refine isnot_none_gen (fin_bl I q ?_)
  cases x <;> first
    | (cases rx; rfl)
    | (obtain ⟨t, rfl⟩ := rx; rfl)

theorem nomark (b : Expr) {op : CmpOp} (h : op ≠ .In := by decide) (h2 : op ≠ .NotIn := by decide) : behindInMarks op b = false := by
  have e1 : (op == CmpOp.In) = false := by cases op <;> first | rfl | exact absurd rfl h
  have e2 : (op == CmpOp.NotIn) = false := by cases op <;> first | rfl | exact absurd rfl h2
  cases b <;> simp [behindInMarks, e1, e2]
theorem pe_cmpR {op : CmpOp} {r : R2} (ho : OpR X (compareOp op) r) (ha : PE X a ta) (hb : PE X b tb) (hm : behindInMarks op b = false) : PE X (.Compare a [op] [b] pos) (tOp r ta tb) := by
  intro pins s σ H Q I h
  exact wpAny_Compare1 (binT ha hb I h fun v u s2 x y H2 I2 rx ry q => ho pins s2 σ H2 x y v u Q I2 rx ry q) hm
noncomputable def tTest (t : TE) : TT := fun σ H Q => t σ H fun x H' => ∃ k, x = .bl k ∧ Q k H'
theorem pt_cmpR {op : CmpOp} {r : R2} (ho : OpR X (compareOp op) r) (ha : PE X a ta) (hb : PE X b tb) (hm : behindInMarks op b = false) : PT X (.Compare a [op] [b] pos) (tTest (tOp r ta tb)) := by
  intro pins s σ H Q I h
  refine wpAny_isTrue_Compare1 (thn (ha pins s σ H _ I h) fun v s1 ⟨x, H1, I1, r1, q1⟩ => thn (hb pins s1 σ H1 _ I1 q1) fun u s2 ⟨y, H2, I2, r2, q2⟩ =>
    thn (ho pins s2 σ H2 x y v u _ I2 r1 r2 q2) fun c s3 ⟨z, H3, I3, r3, k, e, q3⟩ => ?_) hm
  subst e
  cases r3
  exact wpAny_truthy_bool ⟨H3, I3, q3⟩
theorem line63 : (sizeLine : Nat) < 2 ^ 63 := by rw [sizeLine_eq]; decide
theorem vals1 {x : V} {us : List Value} (r : Vals [x] us) : ∃ u, us = [u] ∧ RelV x u := by
  cases r with
  | cons r1 r2 => cases r2; exact ⟨_, rfl, r1⟩
theorem vals2 {x y : V} {us : List Value} (r : Vals [x, y] us) : ∃ u w', us = [u, w'] ∧ RelV x u ∧ RelV y w' := by
  cases r with
  | cons r1 r2 =>
    cases r2 with
    | cons r3 r4 => cases r4; exact ⟨_, _, rfl, r1, r3⟩
theorem call_abs : CallR X (.builtin "abs") (fun xs H Q => ∃ i, xs = [.int i] ∧ Q (.int (if i < 0 then -i else i)) H) := by
  intro pins s σ H xs us Q I r h
  obtain ⟨i, rfl, q⟩ := h
  obtain ⟨u, rfl, t, rfl⟩ := vals1 r
  exact call_abs_int fun u tk => ⟨.int (if i < 0 then -i else i), H, I.tok _, ⟨_, rfl⟩, q⟩
theorem call_min2 (hc : X.calm = true) : CallR X (.builtin "min") (fun xs H Q => ∃ i j, xs = [.int i, .int j] ∧ Q (.int (if j < i then j else i)) H) := by
  intro pins s σ H xs us Q I r h
  obtain ⟨i, j, rfl, q⟩ := h
  obtain ⟨u, w', rfl, ⟨t, rfl⟩, ⟨t', rfl⟩⟩ := vals2 r
  refine min_two_ints (I.ok.hd hc) fun h' tk k => ⟨_, H, I.kept k, ?_, q⟩
  by_cases hj : j < i
  · rw [if_pos hj, if_pos hj]; exact ⟨_, rfl⟩
  · rw [if_neg hj, if_neg hj]; exact ⟨_, rfl⟩
theorem call_int1 : CallR X (.type "int") (fun xs H Q => (∃ i, xs = [.int i] ∧ Q (.int i) H) ∨ ∃ k, xs = [.bl k] ∧ Q (.int (if k then 1 else 0)) H) := by
  intro pins s σ H xs us Q I r h
  rcases h with ⟨i, rfl, q⟩ | ⟨k, rfl, q⟩
  · obtain ⟨u, rfl, t, rfl⟩ := vals1 r
    exact call_int_int ⟨.int i, H, I, ⟨_, rfl⟩, q⟩
  · obtain ⟨u, rfl, r1⟩ := vals1 r
    cases r1
    exact call_int_bool ⟨.int (if k then 1 else 0), H, I.tok _, ⟨_, rfl⟩, q⟩
end
end L2

namespace L2
open PySem PySem.Spec PyProof.Rows

structure ObjM (h : Heap) (x dx C : Addr) (mA : Str → Option Value) : Prop where
  obj : h.get? x = some (PySem.W.instObj C dx)
  ns : h.Ns1 dx mA
  ne : dx ≠ x

section
variable {prog : Program} {w : World} {A : Around} {E : Value → Shared → Prop} {s : Shared} {K : PySem.W.Frag} {x dx C f : Addr} {mA : Str → Option Value} {name : Str} {v : Value}

end

noncomputable def putF (f : Str) (v : V) : List (Str × V) → List (Str × V)
  | [] => [(f, v)]
  | (g, x) :: r => if g = f then (g, v) :: r else (g, x) :: putF f v r
section
variable {P : Program} {w : World} {H H' : Hp} {h h' : Heap} {a C dx : Addr} {fs fs' : List (Str × V)}
end

structure Cls (K : PySem.W.Frag) (C : Addr) : Prop where
  pg : PySem.W.plainGet K C Str.empty = true
  hd : PySem.W.hasDictIn K C = true
  po : PySem.W.plainOver K C = true
  sa : PySem.W.findIn K (.ref C) "__setattr__" = some (some (.builtin "object.__setattr__"))
structure Con (K : PySem.W.Frag) (C : Addr) (f : Str) (v : V) (u : Value) : Prop where
  at_ : PySem.W.findIn K (.ref C) f = some (some u)
  rel : RelV v u
  get : PySem.W.specialIn K u "__get__" = some none
  cp : PySem.W.copiedNames.contains f = false
structure Meth (K : PySem.W.Frag) (C : Addr) (m : Str) (f : Addr) : Prop where
  at_ : PySem.W.findIn K (.ref C) m = some (some (.ref f))
  fn : PySem.W.isFn K (.ref f) = true
  kp : PySem.W.keepIn K (.ref f) = true

section
variable {X : Cx} {pins : List (Addr × Obj)} {σ : St} {H : Hp} {s : Shared} {a C dx : Addr} {fs : List (Str × V)} {f : Str} {v : V} {A : Around} {E : Value → Shared → Prop}

end

section
variable {X : Cx} {o e value : Expr} {f : Str} {pos pos' tpos : Pos} {ta tv : TE}
end

section
variable {X : Cx} {pins : List (Addr × Obj)} {σ : St} {H : Hp} {s : Shared} {A : Around} {E : Value → Shared → Prop} {Q : Value → Shared → Prop} {c : Value} {b : Bool}
inductive TyOf (K : PySem.W.Frag) (H : Hp) : V → Value → Prop where
  | non : TyOf K H .non (.type "NoneType")
  | bl (x : Bool) : TyOf K H (.bl x) (.type "bool")
  | int (i : Int) : TyOf K H (.int i) (.type "int")
  | str (x : Str) : TyOf K H (.str x) (.type "str")
  | flt (x : UInt64) : TyOf K H (.flt x) (.type "float")
  | lst {a : Addr} {xs : List V} (e : H a = some (.lst xs)) : TyOf K H (.ref a) (.type "list")
  | frz {a : Addr} {o : Obj} {xs : List V} (e : H a = some (.frz o (.lst xs))) : TyOf K H (.ref a) (.type "list")
  | tup {a : Addr} {xs : List V} (e : H a = some (.tup xs)) : TyOf K H (.ref a) (.type "tuple")
  | dK {a : Addr} {kvs : List (Key × V)} (e : H a = some (.dK kvs)) : TyOf K H (.ref a) (.type "dict")
  | dT {a : Addr} {kvs : List (List Key × V)} (e : H a = some (.dT kvs)) : TyOf K H (.ref a) (.type "dict")
  | ins {a C dx : Addr} {fs : List (Str × V)} (e : H a = some (.ins C dx fs)) (cl : Cls K C) (ha : PySem.W.findIn K (.ref C) "__class__" = some (some (.builtin "object.__class__")))
      (hn : PySem.W.specialIn K (.builtin "object.__class__") "__get__" = some (some (.builtin "getset_descriptor.__get__"))) (htk : PySem.W.takesIn K (.builtin "object.__class__") = some true)
      (hm : PySem.W.mroIn K C (.type "object") = some true) : TyOf K H (.ref a) (.ref C)
end
end L2

namespace L2
open PySem PySem.Spec PyProof.Rows

structure Room (k : Nat) (A : Around) : Prop where
  hd : A.handled = none
  dp : A.depth + 3 * k + 5 < recursionLimit
  un : A.units + 16 * k + 200 < cLine
  gd : A.guards = some []
theorem Room.mono {j k : Nat} {A : Around} (r : Room k A) (h : j ≤ k) : Room j A := ⟨r.hd, by have := r.dp; omega, by have := r.un; omega, r.gd⟩
theorem Room.deeper {k : Nat} {A : Around} (r : Room (k + 1) A) (env : Env) : Room k (A.deeper env) :=
  ⟨r.hd, by have := r.dp; show A.depth + 1 + 3 * k + 5 < _; omega, by have := r.un; show A.units + 3 + 16 * k + 200 < _; omega, r.gd⟩
theorem Room.depth {k : Nat} {A : Around} (r : Room k A) : A.depth < recursionLimit := by have := r.dp; omega
theorem Room.units {k : Nat} {A : Around} (r : Room k A) : A.units + 64 < cLine := by have := r.un; omega
noncomputable def tNil : TA := fun _ H Q => Q [] H
noncomputable def tCons (ta : TE) (tr : TA) : TA := fun σ H Q => ta σ H fun x H1 => tr σ H1 fun xs H2 => Q (x :: xs) H2
section
variable {X : Cx} {e : Expr} {es : List Expr} {te : TE} {t : TA} {pos : Pos}
theorem pa_nil : PA X [] tNil := fun _ _ _ _ H Q I h => Calls.spliced_nil ⟨[], H, I, .nil, h⟩
theorem pa_cons (ha : PE X e te) (hr : PA X es t) (hs : starEach (e :: es) X.env = (false, eval e X.env) :: starEach es X.env := by rfl) : PA X (e :: es) (tCons te t) := by
  intro pos pins s σ H Q I h
  rw [hs]
  show wpAny _ _ (spliced ((false, eval e X.env) :: backTo pos (starEach es X.env))) _ _ s
  refine Calls.spliced_cons (thn (ha pins s σ H _ I h) fun u s1 ⟨x, H1, I1, r1, q1⟩ => ?_)
  exact thn (hr pos pins s1 σ H1 _ I1 q1) fun us s2 ⟨xs, H2, I2, r2, q2⟩ => ⟨x :: xs, H2, I2, .cons r1 r2, q2⟩

noncomputable def tTup (t : TA) : TE := fun σ H Q => t σ H fun xs H1 => xs.length ≤ sizeLine ∧ ∀ p, H1 p = none → Q (.ref p) (upd H1 p (.tup xs))
noncomputable def tLst (t : TA) : TE := fun σ H Q => t σ H fun xs H1 => xs.length ≤ sizeLine ∧ ∀ p, H1 p = none → Q (.ref p) (upd H1 p (.lst xs))
theorem pe_tup {x1} (h : PA X es t) : PE X (.Tuple es x1 pos) (tTup t) := by
  intro pins s σ H Q I hq
  refine wpAny_Tuple_spliced (thn (h pos pins s σ H _ I hq) fun us s1 ⟨xs, H1, I1, r, z, q⟩ => ⟨by rw [← r.length]; exact z, ?_⟩)
  have hf : H1 s1.heap.objs.size = none := I1.hok.fresh (Nat.le_refl _)
  refine ⟨.ref s1.heap.objs.size, upd H1 s1.heap.objs.size (.tup xs), I1.laid (t' := s1.toks) (fun b u e => Heap.get?_push_of_some _ e) (Nat.le_refl _) ?_, rfl, q _ hf⟩
  exact ⟨z, us, r, ⟨_, Heap.get?_push_size _ rfl, rfl, _, rfl⟩⟩
theorem pe_lst (h : PA X es t) : PE X (.List es pos) (tLst t) := by
  intro pins s σ H Q I hq
  refine wpAny_List_spliced (thn (h pos pins s σ H _ I hq) fun us s1 ⟨xs, H1, I1, r, z, q⟩ => ⟨by rw [← r.length]; exact z, ?_⟩)
  have hf : H1 s1.heap.objs.size = none := I1.hok.fresh (Nat.le_refl _)
  refine ⟨.ref s1.heap.objs.size, upd H1 s1.heap.objs.size (.lst xs), I1.laid (t' := s1.toks) (fun b u e => Heap.get?_push_of_some _ e) (Nat.le_refl _) ?_, rfl, q _ hf⟩
  exact ⟨z, us, 0, r, Heap.get?_push_size _ rfl⟩
end

noncomputable abbrev Sp := List V → Hp → VK → XK → Prop
noncomputable abbrev CXT := List Env → Hp → Shared → XK → Value → Shared → Prop

structure Env0 (P : Program) (w : World) (K : PySem.W.Frag) (mg : Str → Option Value) (base : Heap) (A : Around) (outer : List Env) (s : Shared) (H : Hp) : Prop where
  frames : A.frames = some outer
  mod : Mod K mg base
  bs : ∀ b o, base.get? b = some o → s.heap.get? b = some o ∧ H b = none
  bsz : base.objs.size ≤ s.heap.objs.size
  funs : s.heap.FunFrames base outer
  frf : ∀ b ∈ frs outer, H b = none
  hok : HOk P w H s.heap
  bare : AllBare s.gens
noncomputable def CE (outer : List Env) (P : Program) (w : World) (H : Hp) (s : Shared) (Q : VK) (u : Value) (s' : Shared) : Prop :=
  ∃ v H', s'.os = s.os ∧ AllBare s'.gens ∧ Un (frs outer) [] H H' s.heap s'.heap ∧ HOk P w H' s'.heap ∧ RelV v u ∧ Q v H'
noncomputable def CR (CX : CXT) (outer : List Env) (P : Program) (w : World) (H : Hp) (s : Shared) (Q : VK) (E : XK) (r : Result) (s' : Shared) : Prop :=
  match r with
  | .ok (.ret u) => CE outer P w H s Q u s'
  | .ok _ => False
  | .error e => CX outer H s E e s'
structure FnOk (P : Program) (w : World) (K : PySem.W.Frag) (mg : Str → Option Value) (base : Heap) (CX : CXT) (k : Nat) (f : Addr) (fd : FuncData) (ps : List Str) (sp : Sp) : Prop where
  len : ∀ vs H Q E, sp vs H Q E → vs.length = ps.length
  run : ∀ (A : Around) (outer : List Env) (s : Shared) (H : Hp) (args : Args) (us : List Value) (vs : List V) (Q : VK) (E : XK), Room k A → Env0 P w K mg base A outer s H → BindsTo s fd args (ps.zip us) → Vals vs us → sp vs H Q E →
    codeAny (model P w) A (.call (.ref f) args) (CR CX outer P w H s Q E) s
theorem FnOk.mono {P : Program} {w : World} {K : PySem.W.Frag} {mg : Str → Option Value} {base : Heap} {CX : CXT} {j k : Nat} {f : Addr} {fd : FuncData} {ps : List Str} {sp : Sp} (F : FnOk P w K mg base CX j f fd ps sp) (h : j ≤ k) :
    FnOk P w K mg base CX k f fd ps sp := ⟨F.len, fun A outer s H args us vs Q E hr => F.run A outer s H args us vs Q E (hr.mono h)⟩
section
variable {X : Cx} {pins : List (Addr × Obj)} {σ : St} {H : Hp} {s s' : Shared}
theorem Inv.env0 (I : Inv X pins σ H s) : Env0 X.prog X.w X.K X.mg X.base X.A X.stack s H :=
  ⟨I.ok.frames, I.ok.mod, I.bs, Nat.le_trans I.ok.bsz I.sz, I.stack, I.stkFree, I.hok, I.bare⟩
theorem Inv.after {Q : VK} {u : Value} (I : Inv X pins σ H s) (h : CE X.stack X.prog X.w H s Q u s') : EP X pins σ Q u s' := by
  obtain ⟨v, H', os, bare, un, hok, r, q⟩ := h
  obtain ⟨hh, g, d, t, os'⟩ := s'
  obtain rfl : os' = s.os := os
  exact ⟨v, H', I.call (h' := hh) (g' := g) (d' := d) (t' := t) (ch := []) un hok bare (fun b z => absurd z (by simp)), r, q⟩
end

noncomputable def tCall (sp : Sp) (dvs : List V) (E : XK) (t : TA) : TE := fun σ H Q => t σ H fun vs H1 => sp (vs ++ dvs) H1 Q E
noncomputable def Binds (K : PySem.W.Frag) (fd : FuncData) (ps : List Str) (ds : List Value) : Prop :=
  ∀ (s : Shared) (us : List Value), K.In s.heap → (us ++ ds).length = ps.length → BindsTo s fd ⟨us, []⟩ (ps.zip (us ++ ds))
theorem Binds.all {K : PySem.W.Frag} {fd : FuncData} {ps : List Str} (h : ∀ us : List Value, us.length = ps.length → bindArgs fd ⟨us, []⟩ = pure (ps.zip us)) : Binds K fd ps [] := fun s us _ hl => by
  rw [List.append_nil] at hl ⊢
  exact .of_eq (h us hl)

noncomputable def Passes (CX : CXT) (X : Cx) (E : XK) : Prop := ∀ (pins : List (Addr × Obj)) (σ : St) (H : Hp) (s : Shared) (e : Value) (s' : Shared), Inv X pins σ H s → CX X.stack H s E e s' → X.xe e s'

section
variable {X : Cx} {CX : CXT} {k : Nat} {f C : Addr} {fd : FuncData} {ps : List Str} {sp : Sp} {dvs : List V} {ds : List Value} {E : XK} {x m : Str} {p pos apos : Pos} {e o : Expr} {es : List Expr} {ta : TE} {t : TA}

theorem run_fn {pins : List (Addr × Obj)} {σ : St} {H : Hp} {s : Shared} {Q : VK} {us : List Value} {vs : List V} (F : FnOk X.prog X.w X.K X.mg X.base CX k f fd ps sp) (hr : Room k X.A) (hb : Binds X.K fd ps ds) (hd : Vals dvs ds) (hx : Passes CX X E)
    (I : Inv X pins σ H s) (r : Vals vs us) (h : sp (vs ++ dvs) H Q E) : wpAny (model X.prog X.w) X.A (call (.ref f) us) (EP X pins σ Q) X.xe s := by
  have r2 : Vals (vs ++ dvs) (us ++ ds) := r.append hd
  have hl : (us ++ ds).length = ps.length := by rw [← r2.length]; exact F.len _ _ _ _ h
  refine wpAny_call (codeAny_mono (F.run X.A X.stack s H ⟨us, []⟩ (us ++ ds) (vs ++ dvs) Q E hr I.env0 (hb s us I.kIn hl) r2 h) fun r s' hq => ?_)
  cases r with
  | error e => exact hx pins σ H s e s' I hq
  | ok fl =>
    cases fl with
    | ret u => exact I.after hq
    | next => exact False.elim hq
    | brk => exact False.elim hq
    | cont => exact False.elim hq

theorem pe_call (F : FnOk X.prog X.w X.K X.mg X.base CX k f fd ps sp) (hr : Room k X.A) (hg : Gl X x) (hm : X.mg x = some (.ref f)) (hk : PySem.W.keepIn X.K (.ref f) = true) (hb : Binds X.K fd ps ds) (hd : Vals dvs ds) (hx : Passes CX X E)
    (ha : PA X (e :: es) t) (hdb : (x == ("__debug__" : Str)) = false := by decide) (he : starEach (e :: es) X.env = (false, eval e X.env) :: starEach es X.env := by rfl) (hpl : (backTo pos (starEach es X.env)).any (·.1) = false := by rfl) :
    PE X (.Call (.Name x p) (e :: es) [] pos) (tCall sp dvs E t) := by
  intro pins s σ H Q I h
  refine wpAny_Call_Name_kw (ld_glob I hg hm ?_ hdb)
  refine PySem.W.callWith_K (h₀ := X.base) I.ok.mod.kin hk (thn (ha pos pins s σ H _ I h) fun us s1 ⟨vs, H1, I1, r, q⟩ => ⟨I1.kIn, ?_⟩) he hpl
  exact run_fn F hr hb hd hx I1 r q
structure Mk (K : PySem.W.Frag) (C f : Addr) : Prop where
  makes : PySem.W.makesIn K C = true
  init : PySem.W.findIn K (.ref C) "__init__" = some (some (.ref f))
  fn : PySem.W.isFn K (.ref f) = true
  kp : PySem.W.keepIn K (.ref C) = true

end

section
variable {X : Cx} {CX : CXT} {k : Nat} {f C : Addr} {fd : FuncData} {ps ks : List Str} {sp : Sp} {E : XK} {x m : Str} {p pos apos kpos : Pos} {e o : Expr} {es : List Expr} {kws : List Keyword} {te ta : TE} {t tk : TA} {nm : Option Str}
structure KBinds (K : PySem.W.Frag) (fd : FuncData) (ps ks : List Str) (g : List Value → List Value → List Value) (gV : List V → List V → List V) : Prop where
  to : ∀ (s : Shared) (us ws : List Value), K.In s.heap → (g us ws).length = ps.length → BindsTo s fd ⟨us, ks.zip ws⟩ (ps.zip (g us ws))
  rel : ∀ {vs : List V} {us : List Value} {zs : List V} {ws : List Value}, Vals vs us → Vals zs ws → Vals (gV vs zs) (g us ws)
variable {g : List Value → List Value → List Value} {gV : List V → List V → List V}
end

structure FnScope (N P : List Str) (sc : Scope) : Prop where
  kind : sc.kind = .function
  co : sc.isCoroutine = false
  gen : sc.isGenerator = false
  nd : N.Nodup
  pre : N.take P.length = P
  par : ∀ x ∈ P, sc.names.lookup x = some .local ∨ sc.names.lookup x = some .cell
  nofree : ∀ y ∈ sc.names, y.2 ≠ .free

theorem bindL_out {kindOf : Str → Option NameKind} {x : Str} : ∀ {binds : List (Str × Value)} {m : Str → Option Value}, (∀ v, (x, v) ∉ binds) → bindL kindOf binds m x = m x
  | [], _, _ => rfl
  | (n, v) :: r, m, h => by
    unfold bindL
    rw [bindL_out fun w hw => h w (List.mem_cons_of_mem _ hw)]
    split
    · have : x ≠ n := by rintro rfl; exact h v List.mem_cons_self
      simp [this]
    · rfl
theorem bindC_out {kindOf : Str → Option NameKind} {x : Str} : ∀ {binds : List (Str × Value)} {m : Str → Option Value}, (∀ v, (x, v) ∉ binds) → bindC kindOf binds m x = m x
  | [], _, _ => rfl
  | (n, v) :: r, m, h => by
    unfold bindC
    rw [bindC_out fun w hw => h w (List.mem_cons_of_mem _ hw)]
    split
    · rfl
    · have : x ≠ n := by rintro rfl; exact h v List.mem_cons_self
      simp [this]
theorem bindL_get {kindOf : Str → Option NameKind} {x : Str} {v : Value} : ∀ {P : List Str} {vs : List Value} {i : Nat} {m : Str → Option Value}, P.Nodup → P[i]? = some x → vs[i]? = some v → kindOf x = some .local →
    bindL kindOf (P.zip vs) m x = some v
  | [], _, _, _, _, h, _, _ => by simp at h
  | _ :: _, [], _, _, _, _, h, _ => by simp at h
  | p :: P, w :: vs, 0, m, nd, h1, h2, hk => by
    simp at h1 h2; subst h1; subst h2
    show bindL kindOf ((p, w) :: P.zip vs) m p = _
    unfold bindL
    rw [bindL_out fun v hv => (List.nodup_cons.mp nd).1 (List.of_mem_zip hv).1, if_pos hk]
    simp
  | p :: P, w :: vs, i + 1, m, nd, h1, h2, hk => by
    show bindL kindOf ((p, w) :: P.zip vs) m x = _
    unfold bindL
    exact bindL_get (i := i) (List.nodup_cons.mp nd).2 (by simpa using h1) (by simpa using h2) hk
theorem bindC_get {kindOf : Str → Option NameKind} {x : Str} {v : Value} : ∀ {P : List Str} {vs : List Value} {i : Nat} {m : Str → Option Value}, P.Nodup → P[i]? = some x → vs[i]? = some v → kindOf x ≠ some .local →
    bindC kindOf (P.zip vs) m x = some v
  | [], _, _, _, _, h, _, _ => by simp at h
  | _ :: _, [], _, _, _, _, h, _ => by simp at h
  | p :: P, w :: vs, 0, m, nd, h1, h2, hk => by
    simp at h1 h2; subst h1; subst h2
    show bindC kindOf ((p, w) :: P.zip vs) m p = _
    unfold bindC
    rw [bindC_out fun v hv => (List.nodup_cons.mp nd).1 (List.of_mem_zip hv).1, if_neg hk]
    simp
  | p :: P, w :: vs, i + 1, m, nd, h1, h2, hk => by
    show bindC kindOf ((p, w) :: P.zip vs) m x = _
    unfold bindC
    exact bindC_get (i := i) (List.nodup_cons.mp nd).2 (by simpa using h1) (by simpa using h2) hk

noncomputable def start (N : List Str) (vs : List V) : St := vs.map some ++ List.replicate (N.length - vs.length) none

noncomputable def cxOf (CX : CXT) (P : Program) (w : World) (K : PySem.W.Frag) (mg : Str → Option Value) (base : Heap) (N : List Str) (qual : Str) (scope : Scope) (f : Addr) (cd : Value) (A : Around) (outer : List Env) (s : Shared) (H : Hp) (E : XK) : Cx where
  prog := P
  w := w
  K := K
  mg := mg
  base := base
  A := A.deeper (envOfC qual scope s.heap.objs.size f cd)
  N := N
  s₀ := s
  H₀ := H
  env := envOfC qual scope s.heap.objs.size f cd
  outer := outer
  stack := envOfC qual scope s.heap.objs.size f cd :: outer
  ex := []
  calm := true
  fn := fun _ => true
  pn := []
  xe := fun e s' => wpAny (model P w) (A.deeper (envOfC qual scope s.heap.objs.size f cd)) (leaving (envOfC qual scope s.heap.objs.size f cd) e) (fun _ s'' => CX outer H s E e s'') (fun e' s'' => CX outer H s E e' s'') s'

theorem cell_has {sc : Scope} {n : Nat} {x : Str} (h : sc.names.lookup x = some .cell) : ∃ c, (cellsFrom n sc.names []).lookup x = some c := by
  have q := PySem.W.cellsFrom_some sc.names n [] (.inl h)
  exact Option.isSome_iff_exists.mp q

theorem inv_start {CX : CXT} {P : Program} {w : World} {K : PySem.W.Frag} {mg : Str → Option Value} {base : Heap} {N ps : List Str} {qual : Str} {scope : Scope} {f : Addr} {cd : Value} {A : Around} {outer : List Env} {s s1 : Shared} {H : Hp} {E : XK} {us : List Value} {vs : List V}
    (S : FnScope N ps scope) (hd : A.handled = none) (e0 : Env0 P w K mg base A outer s H) (hl : vs.length = ps.length) (r : Vals vs us)
    (x : InCallC s s.heap.objs.size (bindL (envOfC qual scope s.heap.objs.size f cd).kindOf (ps.zip us) fun _ => none) (cellsFrom (s.heap.objs.size + 1) scope.names []) (bindC (envOfC qual scope s.heap.objs.size f cd).kindOf (ps.zip us) fun _ => none) s1) :
    Inv (cxOf CX P w K mg base N qual scope f cd A outer s H E) [] (start N vs) H s1 := by
  have hpl : ps.length ≤ N.length := by have := congrArg List.length S.pre; rw [List.length_take] at this; omega
  obtain ⟨h1, tk, rfl, hk⟩ := x.done
  have noA : ∀ b : Addr, b ∉ (cxOf CX P w K mg base N qual scope f cd A outer s H E).ex := fun b z => absurd (show b ∈ ([] : List Addr) from z) (by simp)
  refine ⟨⟨e0.mod, S.kind, rfl, rfl, Nat.le_refl _, fun y z c h1 h2 => ?_, fun y hy => ?_, fun y c _ h => ?_, fun _ => hd, Around.frames_deeper e0.frames, .inr ⟨rfl, rfl⟩, fun b z => absurd z (noA b), e0.bs, e0.bsz, fun b _ _ => noA b, fun b z => absurd z (noA b), e0.funs, e0.frf⟩,
    rfl, e0.bare, Un.kept hk, ⟨_, x.toInCall.ns, fun i y v h1 h2 h3 => ?_⟩, fun y c h => ⟨_, x.cell y c h⟩, e0.hok.fresh (Nat.le_refl _), fun y c h => ?_, fun p hp => absurd (show p ∈ ([] : List (Addr × Obj)) from hp) (by simp), e0.hok.kept hk, ?_⟩
  · exact name_of_addr x.apart (PySem.mem_of_lookup h1) (PySem.mem_of_lookup h2)
  · have hy : scope.names.lookup y = some .cell ∨ scope.names.lookup y = some .free := hy
    rcases hy with hy | hy
    · exact cell_has hy
    · exact absurd rfl (S.nofree _ (PySem.mem_of_lookup hy))
  · exact Nat.le_of_lt (x.above y c (PySem.mem_of_lookup h))
  · have hi : i < vs.length := by
      unfold start at h2
      by_cases hi : i < vs.length
      · exact hi
      · rw [List.getElem?_append_right (by simpa using hi)] at h2
        rw [List.getElem?_replicate] at h2
        split at h2 <;> cases h2
    have ha : vs[i]? = some v := by
      unfold start at h2
      rw [List.getElem?_append_left (by simpa using hi), List.getElem?_map] at h2
      cases e : vs[i]? with
      | none => rw [e] at h2; cases h2
      | some a => rw [e] at h2; cases h2; rfl
    obtain ⟨u, hu, rv⟩ := r.get ha
    have hp : ps[i]? = some y := by
      rw [← S.pre, List.getElem?_take_of_lt (by omega)]; exact h1
    have ndP : ps.Nodup := by rw [← S.pre]; exact S.nd.sublist (List.take_sublist _ _)
    refine ⟨u, rv, ?_⟩
    rcases S.par y (List.mem_of_getElem? hp) with k | k
    · exact .inl ⟨k, bindL_get ndP hp hu k⟩
    · obtain ⟨c, e⟩ := cell_has (n := s.heap.objs.size + 1) k
      refine .inr ⟨.inl k, c, e, ?_⟩
      have q := x.cell y c e
      rw [bindC_get ndP hp hu (by show scope.names.lookup y ≠ _; rw [k]; decide)] at q
      exact q
  · exact e0.hok.fresh (Nat.le_of_lt (x.above y c (PySem.mem_of_lookup h)))
  · unfold start
    show _ = N.length
    rw [List.length_append, List.length_map, List.length_replicate]
    omega

theorem fn_of {CX : CXT} {P : Program} {w : World} {K : PySem.W.Frag} {mg : Str → Option Value} {base : Heap} {k : Nat} {f : Addr} {name qual : Str} {params : Arguments} {body : List Stmt} {scope : Scope} {dV kV doc pm cdv ct oc : Value} {an od : Option Addr}
    {osl : Array (Option Value)} {N ps : List Str} {sp : Sp} (lk : K.lookup f = some ⟨oc, od, .func (PySem.W.fnOf name qual params body scope dV kV doc pm an cdv ct), osl⟩) (hcd : PySem.W.codeIn K cdv qual = true) (S : FnScope N ps scope)
    (len : ∀ vs H Q E, sp vs H Q E → vs.length = ps.length)
    (hbody : ∀ (A : Around) (outer : List Env) (s : Shared) (H : Hp) (vs : List V) (Q : VK) (E : XK), Room k (A.deeper (envOfC qual scope s.heap.objs.size f cdv)) → sp vs H Q E →
      ∃ t, PSs (cxOf CX P w K mg base N qual scope f cdv A outer s H E) body t ∧ t { nx := fun _ H' => Q .non H', rt := Q } (start N vs) H) :
    FnOk P w K mg base CX (k + 1) f (PySem.W.fnOf name qual params body scope dV kV doc pm an cdv ct) ps sp := by
  refine ⟨len, fun A outer s H args us vs Q E hr e0 hb r hsp => ?_⟩
  have hl := len _ _ _ _ hsp
  have KX : K.In s.heap := e0.mod.kin.keeps fun b o e => (e0.bs b o e).1
  have lim : s.heap.NoLimit := e0.mod.nolimit.keeps fun b o e => (e0.bs b o e).1
  have hkind : ∀ y ∈ ps.zip us, scope.names.lookup y.1 = some .local ∨ (scope.names.lookup y.1 = some .cell ∧ ((cellsFrom (s.heap.objs.size + 1) scope.names []).lookup y.1).isSome = true) := fun ⟨n, v⟩ hy => by
    rcases S.par n (List.of_mem_zip hy).1 with q | q
    · exact .inl q
    · exact .inr ⟨q, PySem.W.cellsFrom_some _ _ _ (.inl q)⟩
  refine codeAny_call_function hr.depth (KX _ _ lk) rfl S.co S.gen rfl (PySem.W.codeRec_of KX hcd) (hb _ _ _ _ ?_)
  refine wpAny_newFunctionEnv_cells S.kind hkind fun env he s1 x => ?_
  subst he
  refine ⟨lim.keeps x.toInCall.keep, codeAny_func ?_⟩
  obtain ⟨t, ht, hq⟩ := hbody A outer s H vs Q E (hr.deeper _) hsp
  have I : Inv (cxOf CX P w K mg base N qual scope f cdv A outer s H E) [] (start N vs) H s1 := inv_start S hr.hd e0 hl r x
  refine wpAny_mono (ht [] s1 (start N vs) H _ I hq) (fun fl s' hs => ?_) fun e s' hs => hs
  have fin : ∀ {σ' : St} {H' : Hp} {v : V} {u : Value}, Inv (cxOf CX P w K mg base N qual scope f cdv A outer s H E) [] σ' H' s' → RelV v u → Q v H' → CE outer P w H s Q u s' :=
    fun {σ' H' v u} J rv q => ⟨v, H', J.os, J.bare, J.base, J.hok, rv, q⟩
  cases fl with
  | ret u =>
    obtain ⟨v, σ', H', J, rv, q⟩ := hs
    exact fin J rv q
  | next =>
    obtain ⟨σ', H', J, q⟩ := hs
    exact fin (v := V.non) (u := Value.none) J rfl q
  | brk =>
    obtain ⟨_, _, _, q⟩ := hs
    exact False.elim q
  | cont =>
    obtain ⟨_, _, _, q⟩ := hs
    exact False.elim q
end L2

namespace L2
open PySem PySem.Spec PyProof.Rows
section
variable {X : Cx} {x : Str} {p pos : Pos} {e : Expr} {es : List Expr} {t : TA} {id T : String} {r : List V → Hp → VK → Prop}

noncomputable def tCB (r : List V → Hp → VK → Prop) (t : TA) : TE := fun σ H Q => t σ H fun vs H1 => r vs H1 Q
theorem pe_callB (hc : CallR X (.builtin id) r) (hg : Gl X x) (hm : X.mg x = none) (hv : bootBuiltins x = some (.builtin id)) (ha : PA X (e :: es) t) (hn : x ≠ "__name__" := by decide) (hdb : (x == ("__debug__" : Str)) = false := by decide)
    (he : starEach (e :: es) X.env = (false, eval e X.env) :: starEach es X.env := by rfl) (hpl : (backTo pos (starEach es X.env)).any (·.1) = false := by rfl) : PE X (.Call (.Name x p) (e :: es) [] pos) (tCB r t) := by
  intro pins s σ H Q I h
  refine wpAny_Call_Name_kw (ld_blt I hg hm hv ?_ hn hdb)
  exact PyProof.Rows.callWith_builtin1 (thn (ha pos pins s σ H _ I h) fun us s1 ⟨vs, H1, I1, r1, q1⟩ => hc pins s1 σ H1 vs us Q I1 r1 q1) he hpl
theorem pe_callTy (hc : CallR X (.type T) r) (hg : Gl X x) (hm : X.mg x = none) (hv : bootBuiltins x = some (.type T)) (ha : PA X (e :: es) t) (hn : x ≠ "__name__" := by decide) (hdb : (x == ("__debug__" : Str)) = false := by decide)
    (he : starEach (e :: es) X.env = (false, eval e X.env) :: starEach es X.env := by rfl) (hpl : (backTo pos (starEach es X.env)).any (·.1) = false := by rfl) : PE X (.Call (.Name x p) (e :: es) [] pos) (tCB r t) := by
  intro pins s σ H Q I h
  refine wpAny_Call_Name_kw (ld_blt I hg hm hv ?_ hn hdb)
  exact PyProof.Rows.callWith_type1 (thn (ha pos pins s σ H _ I h) fun us s1 ⟨vs, H1, I1, r1, q1⟩ => hc pins s1 σ H1 vs us Q I1 r1 q1) he hpl
end
end L2

namespace HT
open PySem PyProof.Rows

noncomputable def lexLt : List Int → List Int → Bool
  | [], [] => false
  | [], _ :: _ => true
  | _ :: _, [] => false
  | x :: xs, y :: ys => if x = y then lexLt xs ys else decide (x < y)
section
open PySem.SeqAt
open PySem.AutoSeq1 (wpAny_loadPart')
open PySem.MeetsSeq PySem.MeetsSeq2 PySem.MeetsSeq3

end

section
variable {prog : Program} {w : World} {A : Around} {E : Value → Shared → Prop} {s : Shared}

noncomputable def sIx (n d : Nat) : Option Int → Nat
  | none => d
  | some v => if v < 0 then (v + (n : Int)).toNat else min v.toNat n
theorem sIx_nat (n d k : Nat) : sIx n d (some (k : Int)) = min k n := by
  show (if (k : Int) < 0 then ((k : Int) + (n : Int)).toNat else min (k : Int).toNat n) = min k n
  rw [if_neg (by omega), Int.toNat_natCast]
end
end HT

namespace L2
open PySem PySem.Spec PyProof.Rows

noncomputable abbrev TO := St → Hp → (Option Int → Hp → Prop) → Prop
noncomputable def PO (X : Cx) (e : Option Expr) (t : TO) : Prop :=
  ∀ (pins : List (Addr × Obj)) (s : Shared) (σ : St) (H : Hp) (Q : Option Int → Hp → Prop), Inv X pins σ H s → t σ H Q →
    wpAny (model X.prog X.w) X.A (evalPart e X.env) (fun u s' => ∃ o H', Inv X pins σ H' s' ∧ IsPart u o ∧ Q o H') X.xe s
noncomputable def tNoPart : TO := fun _ H Q => Q none H
noncomputable def tPart (t : TE) : TO := fun σ H Q => t σ H fun x H1 => ∃ i, x = .int i ∧ Q (some i) H1

theorem intsAre_of {ns : List Int} : ∀ {us : List Value}, Vals (ns.map V.int) us → IntsAre us ns := by
  induction ns with
  | nil => intro us r; rw [List.map_nil] at r; cases r; exact .nil
  | cons n ns ih =>
    intro us r
    rw [List.map_cons] at r
    cases r with
    | cons r1 r2 =>
      obtain ⟨t, e⟩ := r1
      subst e
      exact .cons n t (ih r2)

section
variable {X : Cx} {e : Expr} {te : TE} {lo hi : Option Expr} {tl th : TO} {pos p2 : Pos}

theorem po_none : PO X none tNoPart := by
  intro pins s σ H Q I h
  rw [evalPart_none]
  exact wpAny_pure ⟨none, H, I, .none, h⟩
theorem po_some (h : PE X e te) : PO X (some e) (tPart te) := by
  intro pins s σ H Q I hw
  rw [evalPart_some]
  refine thn (h pins s σ H _ I hw) fun u s1 ⟨x, H1, I1, r1, q1⟩ => ?_
  obtain ⟨i, rfl, q⟩ := q1
  obtain ⟨t, rfl⟩ := r1
  exact ⟨some i, H1, I1, .int i t, q⟩

noncomputable def SlR (X : Cx) (r : V → Option Int → Option Int → Hp → VK → Prop) : Prop :=
  ∀ (pins : List (Addr × Obj)) (s : Shared) (σ : St) (H : Hp) (x : V) (v vl vu : Value) (lo hi : Option Int) (sl : Addr) (Q : VK), Inv X pins σ H s → RelV x v → s.heap.IsSliceOf sl vl vu .none → IsPart vl lo → IsPart vu hi → r x lo hi H Q →
    ∃ T id, typeLookup (.type T) "__getitem__" = pure (some (.builtin id)) ∧ s.TypeIs v T ∧ wpAny (model X.prog X.w) X.A (getItem v (.ref sl)) (EP X pins σ Q) X.xe s
noncomputable def tSl (r : V → Option Int → Option Int → Hp → VK → Prop) (te : TE) (tl th : TO) : TE := fun σ H Q => te σ H fun x H1 => tl σ H1 fun l H2 => th σ H2 fun u H3 => r x l u H3 Q
theorem pe_slice {r : V → Option Int → Option Int → Hp → VK → Prop} (hr : SlR X r) (he : PE X e te) (hl : PO X lo tl) (hu : PO X hi th) : PE X (.Subscript e (.Slice lo hi none p2) pos) (tSl r te tl th) := by
  intro pins s σ H Q I h
  refine Subscript_ (thn (he pins s σ H _ I h) fun v s1 ⟨x, H1, I1, r1, q1⟩ => ?_)
  refine wpAny_Slice (thn (hl pins s1 σ H1 _ I1 q1) fun vl s2 ⟨l, H2, I2, pl, q2⟩ => thn (hu pins s2 σ H2 _ I2 q2) fun vu s3 ⟨u, H3, I3, pu, q3⟩ => ?_)
  rw [evalPart_none]
  refine wpAny_pure ?_
  have I4 : Inv X pins σ H3 { s3 with heap := s3.heap.push { cls := .type "slice", data := .fields #[vl, vu, .none] } } := I3.kept (t' := s3.toks) fun b ob q => Heap.get?_push_of_some _ q
  obtain ⟨T, id, hT, ht, hg⟩ := hr pins { s3 with heap := s3.heap.push { cls := .type "slice", data := .fields #[vl, vu, .none] } } σ H3 x v vl vu l u s3.heap.objs.size Q I4 r1 (Heap.IsSliceOf.new ..) pl pu q3
  show wpAny (model X.prog X.w) X.A (subscriptTail e (.Slice lo hi none p2) v (.ref s3.heap.objs.size)) (EP X pins σ Q) X.xe { s3 with heap := s3.heap.push { cls := .type "slice", data := .fields #[vl, vu, .none] } }
  exact tail_any (ops := [.ref s3.heap.objs.size, v]) ht hT hg (by with_unfolding_all rfl)

noncomputable def cutV (xs : List V) (lo hi : Option Int) : List V := (xs.drop (HT.sIx xs.length 0 lo)).take (HT.sIx xs.length xs.length hi - HT.sIx xs.length 0 lo)
theorem cutV_length (xs : List V) (lo hi : Option Int) : (cutV xs lo hi).length ≤ xs.length := by
  unfold cutV
  rw [List.length_take, List.length_drop]
  omega
end
end L2

namespace L2
open PySem PySem.Spec PyProof.Rows

noncomputable def ixN (n : Nat) (i : Int) : Option Nat := if 0 ≤ i then (if i < n then some i.toNat else none) else if -(n : Int) ≤ i then some (i + n).toNat else none
noncomputable def atI {α : Type} (xs : List α) (i : Int) : Option α := (ixN xs.length i).bind fun j => xs[j]?
theorem ixN_seq {n : Nat} {i : Int} {j : Nat} (h : ixN n i = some j) : seqIndex? i n = some j ∧ j < n ∧ -(n : Int) ≤ i ∧ i < n := by
  unfold ixN at h
  by_cases h0 : 0 ≤ i
  · rw [if_pos h0] at h
    by_cases h1 : i < n
    · rw [if_pos h1] at h
      have e : i.toNat = j := Option.some.inj h
      exact ⟨by rw [seqIndex_of h0 h1, e], by omega, by omega, h1⟩
    · rw [if_neg h1] at h; cases h
  · rw [if_neg h0] at h
    by_cases h1 : -(n : Int) ≤ i
    · rw [if_pos h1] at h
      have e : (i + n).toNat = j := Option.some.inj h
      exact ⟨by rw [seqIndex_neg (by omega) h1, e], by omega, h1, by omega⟩
    · rw [if_neg h1] at h; cases h
theorem atI_get {α : Type} {xs : List α} {i : Int} {v : α} (h : atI xs i = some v) : ∃ j, seqIndex? i xs.length = some j ∧ xs[j]? = some v ∧ j < xs.length ∧ -(xs.length : Int) ≤ i ∧ i < xs.length := by
  unfold atI at h
  cases e : ixN xs.length i with
  | none => rw [e] at h; cases h
  | some j =>
    rw [e] at h
    obtain ⟨h1, h2, h3, h4⟩ := ixN_seq e
    exact ⟨j, h1, h, h2, h3, h4⟩
theorem atI_nat {α : Type} {xs : List α} {j : Nat} {v : α} (h : xs[j]? = some v) : atI xs (j : Int) = some v := by
  have hj : j < xs.length := (List.getElem?_eq_some_iff.mp h).1
  have e : ixN xs.length (j : Int) = some j := by
    unfold ixN
    rw [if_pos (by omega), if_pos (by omega)]; simp
  unfold atI; rw [e]; exact h
noncomputable def PlainIx (b : Expr) : Prop := ∀ o i, subscripted b false o i = operate [o, i] (getItem o i)
noncomputable def IxR (X : Cx) (r : R2) : Prop :=
  ∀ (value slice : Expr) (pins : List (Addr × Obj)) (s : Shared) (σ : St) (H : Hp) (x y : V) (v u : Value) (Q : VK), Inv X pins σ H s → RelV x v → RelV y u → r x y H Q →
    subscripted slice false v u = operate [v, u] (getItem v u) → wpAny (model X.prog X.w) X.A (subscriptTail value slice v u) (EP X pins σ Q) X.xe s
noncomputable def MtR (X : Cx) (id : String) (r : V → List V → Hp → VK → Prop) : Prop :=
  ∀ (pins : List (Addr × Obj)) (s : Shared) (σ : St) (H : Hp) (x : V) (xs : List V) (v : Value) (us : List Value) (Q : VK), Inv X pins σ H s → RelV x v → Vals xs us → r x xs H Q →
    wpAny (model X.prog X.w) X.A (call (.builtin id) (v :: us)) (EP X pins σ Q) X.xe s
section
variable {X : Cx} {a b : Expr} {ta tb : TE} {pos : Pos}
theorem pe_ix {r : R2} (hr : IxR X r) (ha : PE X a ta) (hb : PE X b tb) (hs : PlainIx b) : PE X (.Subscript a b pos) (tOp r ta tb) := by
  intro pins s σ H Q I h
  exact Subscript_ (binT ha hb I h fun v u s2 x y H2 I2 rx ry q => hr a b pins s2 σ H2 x y v u Q I2 rx ry q (hs _ _))

noncomputable def rIxL (K : PySem.W.Frag) : R2 := fun x y H Q => ∃ p xs i v, x = .ref p ∧ y = .int i ∧ SqL K H p xs ∧ atI xs i = some v ∧ Q v H
noncomputable def rIxS : R2 := fun x y H Q => ∃ z i c, x = .str z ∧ y = .int i ∧ z.length ≤ sizeLine ∧ atI z.cps.toList i = some c ∧ Q (.str ⟨#[c]⟩) H
theorem ix_list : IxR X (rIxL X.K) := by
  intro value slice pins s σ H x y v u Q I rx ry h hs
  obtain ⟨p, xs, i, z, rfl, rfl, hq, he, q⟩ := h
  cases rx
  obtain ⟨t, rfl⟩ := ry
  obtain ⟨its, r, pl, hz⟩ := I.list hq
  obtain ⟨j, h1, h2, h3, h4, h5⟩ := atI_get he
  obtain ⟨w, ew, rw'⟩ := r.get h2
  have hl := r.length
  have hn := line63
  have fin : EP X pins σ Q w s := ⟨z, H, I, rw', q⟩
  by_cases h0 : 0 ≤ i
  · have hj : i.toNat = j := by
      rw [seqIndex_of h0 h5] at h1
      exact Option.some.inj h1
    exact item_listR pl.isList h0 (by omega) (by rw [hj]; simpa using ew) fin hs
  · have hj : (i + (its.toArray.size : Int)).toNat = j := by
      rw [seqIndex_neg (by omega) h4] at h1
      rw [List.size_toArray, ← hl]
      exact Option.some.inj h1
    exact subscriptTail_builtinR (x := w) pl.isList.typeIs slot_list_getitem.lookup
      (wpAny_getItem_list_neg (Q := fun r s' => r = w ∧ EP X pins σ Q r s') pl.isList (by omega) (by rw [List.size_toArray] <;> omega) (by omega) (by rw [hj]; simpa using ew) ⟨rfl, fin⟩) hs
theorem ix_str : IxR X rIxS := by
  intro value slice pins s σ H x y v u Q I rx ry h hs
  obtain ⟨z, i, c, rfl, rfl, hz, he, q⟩ := h
  obtain ⟨t, rfl⟩ := rx
  obtain ⟨t', rfl⟩ := ry
  obtain ⟨j, h1, h2, h3, h4, h5⟩ := atI_get he
  have hl : z.cps.toList.length = z.length := by simp [Str.length]
  rw [hl] at h1 h4 h5
  have hn := line63
  exact tail_any (typeIs_str s z t) slot_str_getitem.lookup (getItem_str (c := c) (by
    have e1 : decide (i < -(2 ^ 63 : Int)) = false := decide_eq_false (by omega)
    have e2 : decide (i ≥ 2 ^ 63) = false := decide_eq_false (by omega)
    rw [e1, e2, Bool.or_false]) (by rw [h1]; simpa using h2) ⟨.str ⟨#[c]⟩, H, I.tok _, ⟨_, rfl⟩, q⟩) hs
theorem mapSeq_set (its : List Value) (n j : Nat) (u : Value) : Obj.mapSeq (·.setIfInBounds j u) { cls := .type "list", data := .seq its.toArray n } = { cls := .type "list", data := .seq (its.set j u).toArray n } := by
  simp [Obj.mapSeq]
theorem Inv.lst {pins : List (Addr × Obj)} {σ : St} {H : Hp} {s : Shared} {p : Addr} {xs : List V} (I : Inv X pins σ H s) (h : H p = some (.lst xs)) :
    ∃ (its : List Value) (n : Nat), Vals xs its ∧ s.heap.get? p = some { cls := .type "list", data := .seq its.toArray n } ∧ xs.length ≤ sizeLine := by
  obtain ⟨z, its, n, r, e⟩ := I.hok p _ h
  exact ⟨its, n, r, e, z⟩
theorem Inv.lstUpd {pins : List (Addr × Obj)} {σ : St} {H : Hp} {s : Shared} {p : Addr} {xs ys : List V} {its its' : List Value} {n n' : Nat} {f : Obj → Obj} (I : Inv X pins σ H s) (h : H p = some (.lst xs))
    (ho : s.heap.get? p = some { cls := .type "list", data := .seq its.toArray n }) (hf : f { cls := .type "list", data := .seq its.toArray n } = { cls := .type "list", data := .seq its'.toArray n' }) (r : Vals ys its') (hz : ys.length ≤ sizeLine) (t : Nat) :
    Inv X pins σ (upd H p (.lst ys)) { s with heap := s.heap.update p f, toks := t } := by
  have e : (s.heap.update p f).get? p = some { cls := .type "list", data := .seq its'.toArray n' } := by
    rw [Heap.get?_update_self f ho (by rw [hf] <;> rfl), hf]
  refine I.write (x := p) (e := p) (by rw [h]; trivial) (.inl rfl) (fun b u hb q => (Heap.get?_update_other _ _ (Ne.symm hb)).trans q) ⟨_, e⟩ ?_
  exact ⟨hz, its', n', r, e⟩
noncomputable def rSetL : V → V → V → Hp → (Hp → Prop) → Prop := fun o i v H Q => ∃ p xs k j, o = .ref p ∧ i = .int k ∧ H p = some (.lst xs) ∧ ixN xs.length k = some j ∧ Q (upd H p (.lst (xs.set j v)))
theorem set_list : PSet X rSetL := by
  intro pins s σ H o i v ov iv u Q I ro ri rv h
  obtain ⟨p, xs, k, j, rfl, rfl, hp, hj, q⟩ := h
  cases ro
  obtain ⟨t, rfl⟩ := ri
  obtain ⟨its, n, r, ho, hz⟩ := I.lst hp
  obtain ⟨h1, h2, h3, h4⟩ := ixN_seq hj
  have hl := r.length
  have hn := line63
  have I' : Inv X pins σ (upd H p (.lst (xs.set j v))) { s with heap := s.heap.update p (Obj.mapSeq (·.setIfInBounds j u)) } :=
    I.lstUpd hp ho (mapSeq_set its n j u) (r.set rv j) (by rw [List.length_set]; exact hz) s.toks
  by_cases h0 : 0 ≤ k
  · have hk : k.toNat = j := by
      rw [seqIndex_of h0 h4] at h1
      exact Option.some.inj h1
    exact PySem.W.ki_setAt ho h0 (by omega) (by rw [List.size_toArray, ← hl]; exact h4) (by rw [hk]; exact ⟨_, I', q⟩)
  · have hk : (k + (its.toArray.size : Int)).toNat = j := by
      rw [seqIndex_neg (by omega) h3] at h1
      rw [List.size_toArray, ← hl]
      exact Option.some.inj h1
    exact PySem.W.ki_setBack ho (by omega) (by rw [List.size_toArray, ← hl]; exact h3) (by omega) (by rw [hk]; exact ⟨_, I', q⟩)

theorem slice_bounds (lo hi : Option Int) (n : Nat) : (sliceBounds lo hi none n).1 = ((HT.sIx n 0 lo : Nat) : Int) ∧ (sliceBounds lo hi none n).2.1 = ((HT.sIx n n hi : Nat) : Int) ∧ (sliceBounds lo hi none n).2.2 = 1 := by
  refine ⟨?_, ?_, rfl⟩
  · cases lo with
    | none => simp [sliceBounds, HT.sIx]
    | some i =>
      simp only [sliceBounds, HT.sIx, Option.getD_none, show (1 : Int) > 0 by decide, if_true]
      by_cases h : i < 0
      · simp only [h, if_true] <;> omega
      · simp only [h, if_false] <;> omega
  · cases hi with
    | none => simp [sliceBounds, HT.sIx]
    | some i =>
      simp only [sliceBounds, HT.sIx, Option.getD_none, show (1 : Int) > 0 by decide, if_true]
      by_cases h : i < 0
      · simp only [h, if_true] <;> omega
      · simp only [h, if_false] <;> omega
theorem slicePick_cut (its : List Value) (lo hi : Option Int) : slicePick its.toArray lo hi none = ((its.drop (HT.sIx its.length 0 lo)).take (HT.sIx its.length its.length hi - HT.sIx its.length 0 lo)).toArray := by
  obtain ⟨h1, h2, h3⟩ := slice_bounds lo hi its.toArray.size
  unfold slicePick
  rw [h1, h2, h3]
  simp only [sliceRange_one, pick_run, List.size_toArray] <;> rfl
noncomputable def rSlL (K : PySem.W.Frag) : V → Option Int → Option Int → Hp → VK → Prop := fun x lo hi H Q => ∃ a xs, x = .ref a ∧ SqL K H a xs ∧ ∀ p, H p = none → Q (.ref p) (upd H p (.lst (cutV xs lo hi)))
theorem sl_list : SlR X (rSlL X.K) := by
  intro pins s σ H x v vl vu lo hi sl Q I rx hs pl pu h
  obtain ⟨a, xs, rfl, hx, q⟩ := h
  cases rx
  obtain ⟨its, r, ht, hz⟩ := I.list hx
  have hlen := r.length
  refine ⟨"list", _, slot_list_getitem.lookup, ht.isList.typeIs, ?_⟩
  refine wpAny_getItem_list_slice ht.isList hs pl pu .none (by simp) ?_ (by rw [List.size_toArray] <;> omega)
  rw [slicePick_cut, ← hlen]
  refine ⟨.ref s.heap.objs.size, _, I.laid (t' := s.toks) (o := .lst (cutV xs lo hi)) (fun b ob q => Heap.get?_push_of_some _ q) (Nat.le_refl _) ?_, rfl, q _ (I.hok.fresh (Nat.le_refl _))⟩
  exact ⟨Nat.le_trans (cutV_length xs lo hi) hz, _, 0, (r.drop (HT.sIx xs.length 0 lo)).take (HT.sIx xs.length xs.length hi - HT.sIx xs.length 0 lo), Heap.get?_push_size _ rfl⟩

noncomputable def flatV : V → Bool
  | .non => true
  | .bl _ => true
  | .int _ => true
  | .str _ => true
  | _ => false
noncomputable def eqV : V → V → Bool
  | .non, .non => true
  | .bl a, .bl b => a == b
  | .bl a, .int b => (if a then 1 else 0) == b
  | .int a, .bl b => a == (if b then 1 else 0)
  | .int a, .int b => a == b
  | .str a, .str b => a == b
  | _, _ => false
theorem eqAt_V {A : Around} {s : Shared} {y x : V} {u v : Value} (ry : RelV y u) (rx : RelV x v) (fy : flatV y = true) (fx : flatV x = true) : SeqAt.EqAt A s u v (eqV y x) := by
  cases y with
  | non =>
    cases ry
    cases x with
    | non => cases rx; exact SeqAt.EqAt.same _
    | bl b => cases rx; exact SeqAt.EqAt.none_bool b
    | int b => obtain ⟨t, rfl⟩ := rx; exact SeqAt.EqAt.none_int b t
    | str b => obtain ⟨t, rfl⟩ := rx; exact SeqAt.EqAt.none_str b t
    | _ => exact absurd (show false = true from fx) Bool.false_ne_true
  | bl a =>
    cases ry
    cases x with
    | non => cases rx; exact SeqAt.EqAt.bool_none a
    | bl b => cases rx; exact SeqAt.EqAt.bool_bool a b
    | int b => obtain ⟨t, rfl⟩ := rx; exact SeqAt.EqAt.bool_int a b t
    | str b => obtain ⟨t, rfl⟩ := rx; exact SeqAt.EqAt.bool_str a b t
    | _ => exact absurd (show false = true from fx) Bool.false_ne_true
  | int a =>
    obtain ⟨t', rfl⟩ := ry
    cases x with
    | non => cases rx; exact SeqAt.EqAt.int_none a t'
    | bl b => cases rx; exact SeqAt.EqAt.int_bool a t' b
    | int b => obtain ⟨t, rfl⟩ := rx; exact SeqAt.EqAt.int_int a t' b t
    | str b => obtain ⟨t, rfl⟩ := rx; exact SeqAt.EqAt.int_str a t' b t
    | _ => exact absurd (show false = true from fx) Bool.false_ne_true
  | str a =>
    obtain ⟨t', rfl⟩ := ry
    cases x with
    | non => cases rx; exact SeqAt.EqAt.str_none a t'
    | bl b => cases rx; exact SeqAt.EqAt.str_bool a t' b
    | int b => obtain ⟨t, rfl⟩ := rx; exact SeqAt.EqAt.str_int a t' b t
    | str b => obtain ⟨t, rfl⟩ := rx; exact SeqAt.EqAt.str_str a t' b t
    | _ => exact absurd (show false = true from fx) Bool.false_ne_true
  | _ => exact absurd (show false = true from fy) Bool.false_ne_true
noncomputable def eqU (x : V) (u : Value) : Bool := match u with
  | .none => eqV .non x
  | .bool b => eqV (.bl b) x
  | .int i _ => eqV (.int i) x
  | .str z _ => eqV (.str z) x
  | _ => false
theorem eqU_of {x y : V} {u : Value} (r : RelV y u) (f : flatV y = true) : eqU x u = eqV y x := by
  cases y with
  | non => cases r; rfl
  | bl b => cases r; rfl
  | int i => obtain ⟨t, rfl⟩ := r; rfl
  | str z => obtain ⟨t, rfl⟩ := r; rfl
  | _ => exact absurd (show false = true from f) Bool.false_ne_true
theorem any_eqU {x : V} : ∀ {xs : List V} {us : List Value}, Vals xs us → xs.all flatV = true → us.any (eqU x) = xs.any fun y => eqV y x
  | _, _, .nil, _ => rfl
  | y :: xs, u :: us, .cons r t, f => by
    rw [List.all_cons, Bool.and_eq_true] at f
    rw [List.any_cons, List.any_cons, eqU_of r f.1, any_eqU t f.2]
theorem mem_eqAt {A : Around} {s : Shared} {x : V} {v : Value} (rx : RelV x v) (fx : flatV x = true) : ∀ {xs : List V} {us : List Value}, Vals xs us → xs.all flatV = true → ∀ u ∈ us, SeqAt.EqAt A s u v (eqU x u)
  | _, _, .nil, _ => fun u hu => by cases hu
  | y :: xs, u :: us, .cons r t, f => fun u' hu => by
    rw [List.all_cons, Bool.and_eq_true] at f
    rcases List.mem_cons.mp hu with rfl | hu
    · rw [eqU_of r f.1]; exact eqAt_V r rx f.1 fx
    · exact mem_eqAt rx fx t f.2 u' hu
noncomputable def inV (x : V) (xs : List V) : Bool := xs.any fun y => eqV y x
noncomputable def rIn (K : PySem.W.Frag) (neg : Bool) : R2 := fun x y H Q => ∃ p xs, y = .ref p ∧ (SqL K H p xs ∨ SqT K H p xs) ∧ flatV x = true ∧ xs.all flatV = true ∧ Q (.bl (if neg then !inV x xs else inV x xs)) H
theorem op_in_seq : OpR X (compareOp .In) (rIn X.K false) := by
  intro pins s σ H x y v u Q I rx ry h
  obtain ⟨p, xs, rfl, hq, fx, fs, q⟩ := h
  cases ry
  rcases hq with hq | hq
  · obtain ⟨its, r, pl, hz⟩ := I.list hq
    refine SeqAt.in_listAt (eqU x) pl.isList (fun w hw => mem_eqAt rx fx r fs w (by simpa using hw)) ⟨.bl _, H, I, rfl, ?_⟩
    rw [show its.toArray.any (eqU x) = its.any (eqU x) by simp, any_eqU r fs]
    exact q
  · obtain ⟨its, r, pl, hz⟩ := I.tuple hq
    refine SeqAt.in_tupleAt (eqU x) pl (fun w hw => mem_eqAt rx fx r fs w (by simpa using hw)) ⟨.bl _, H, I, rfl, ?_⟩
    rw [show its.toArray.any (eqU x) = its.any (eqU x) by simp, any_eqU r fs]
    exact q
theorem op_notIn_seq : OpR X (compareOp .NotIn) (rIn X.K true) := by
  intro pins s σ H x y v u Q I rx ry h
  obtain ⟨p, xs, rfl, hq, fx, fs, q⟩ := h
  cases ry
  rcases hq with hq | hq
  · obtain ⟨its, r, pl, hz⟩ := I.list hq
    refine SeqAt.notIn_listAt (eqU x) pl.isList (fun w hw => mem_eqAt rx fx r fs w (by simpa using hw)) ⟨.bl _, H, I, rfl, ?_⟩
    rw [show its.toArray.any (eqU x) = its.any (eqU x) by simp, any_eqU r fs]
    exact q
  · obtain ⟨its, r, pl, hz⟩ := I.tuple hq
    refine SeqAt.notIn_tupleAt (eqU x) pl (fun w hw => mem_eqAt rx fx r fs w (by simpa using hw)) ⟨.bl _, H, I, rfl, ?_⟩
    rw [show its.toArray.any (eqU x) = its.any (eqU x) by simp, any_eqU r fs]
    exact q
theorem call_len_seq : CallR X (.builtin "len") (fun xs H Q => ∃ p ys, xs = [.ref p] ∧ (SqL X.K H p ys ∨ SqT X.K H p ys) ∧ Q (.int ys.length) H) := by
  intro pins s σ H xs us Q I r h
  obtain ⟨p, ys, rfl, hq, q⟩ := h
  obtain ⟨u, rfl, rx⟩ := vals1 r
  cases rx
  have hn := line63
  rcases hq with hq | hq
  · obtain ⟨its, r', pl, hz⟩ := I.list hq
    have hlen := r'.length
    exact Calls.call_len_list pl.isList (by simp only [List.size_toArray] <;> omega) ⟨.int ys.length, H, I.tok _, ⟨s.toks + 1, by rw [List.size_toArray, hlen]⟩, q⟩
  · obtain ⟨its, r', pl, hz⟩ := I.tuple hq
    have hlen := r'.length
    exact len_tuple pl (by simp only [List.size_toArray] <;> omega) ⟨.int ys.length, H, I.tok _, ⟨s.toks + 1, by rw [List.size_toArray, hlen]⟩, q⟩
theorem call_len_str : CallR X (.builtin "len") (fun xs H Q => ∃ z, xs = [.str z] ∧ z.length ≤ sizeLine ∧ Q (.int z.length) H) := by
  intro pins s σ H xs us Q I r h
  obtain ⟨z, rfl, hz, q⟩ := h
  obtain ⟨u, rfl, t, rfl⟩ := vals1 r
  have hn := line63
  exact len_str (by omega) ⟨.int z.length, H, I.tok _, ⟨_, rfl⟩, q⟩
theorem call_list_of : CallR X (.type "list") (fun xs H Q => ∃ p ys, xs = [.ref p] ∧ (SqL X.K H p ys ∨ SqT X.K H p ys) ∧ ∀ l, H l = none → Q (.ref l) (upd H l (.lst ys))) := by
  intro pins s σ H xs us Q I r h
  obtain ⟨p, ys, rfl, hq, q⟩ := h
  obtain ⟨u, rfl, rx⟩ := vals1 r
  cases rx
  have fin : ∀ (its : List Value), Vals ys its → ys.length ≤ sizeLine → ∀ (h' : Heap) (c' : Nat), (∀ b o', s.heap.get? b = some o' → h'.get? b = some o') →
      h'.get? s.heap.objs.size = some { cls := .type "list", dict := none, data := .seq its.toArray c', slots := #[] } → EP X pins σ Q (.ref s.heap.objs.size) { s with heap := h' } := fun its r' hz h' c' kp e =>
    ⟨.ref s.heap.objs.size, _, I.laid (t' := s.toks) kp (Nat.le_refl _) (show ObjOk X.prog X.w _ h' _ (.lst ys) from ⟨hz, its, c', r', e⟩), rfl, q _ (I.hok.fresh (Nat.le_refl _))⟩
  rcases hq with hq | hq
  · obtain ⟨its, r', pl, hz⟩ := I.list hq
    have hlen := r'.length
    obtain ⟨o, ho, hc, n, hd⟩ := pl.isList
    exact call_list_seq p (.inl rfl) ho hc hd (fun h' c' kp e => fin its r' hz h' c' kp e) (by simp only [List.size_toArray] <;> omega)
  · obtain ⟨its, r', pl, hz⟩ := I.tuple hq
    have hlen := r'.length
    obtain ⟨o, ho, hc, n, hd⟩ := pl
    exact call_list_seq p (.inr rfl) ho hc hd (fun h' c' kp e => fin its r' hz h' c' kp e) (by simp only [List.size_toArray] <;> omega)
noncomputable def tyV (K : PySem.W.Frag) (T : String) (x : V) (H : Hp) : Prop := match x with
  | .str _ => T = "str"
  | .int _ => T = "int"
  | .ref p => (T = "list" ∧ ∃ xs, SqL K H p xs) ∨ (T = "tuple" ∧ ∃ o, K.lookup p = some o ∧ o.cls = .type "tuple" ∧ o.dict = none) ∨
      (T = "dict" ∧ ((∃ kvs, H p = some (.dK kvs)) ∨ ∃ kvs, H p = some (.dT kvs))) ∨ (T = "set" ∧ ∃ S n, H p = some (.set S n))
  | _ => False
theorem tyV_is {pins : List (Addr × Obj)} {σ : St} {H : Hp} {s : Shared} {T : String} {x : V} {v : Value} (I : Inv X pins σ H s) (r : RelV x v) (ty : tyV X.K T x H) :
    s.TypeIs v T ∧ ∀ a, v = .ref a → ∃ ob, s.heap.get? a = some ob ∧ ob.dict = none := by
  cases x with
  | str z =>
    obtain ⟨t, rfl⟩ := r
    cases (show T = "str" from ty)
    exact ⟨typeIs_str s z t, fun _ e => nomatch e⟩
  | int i =>
    obtain ⟨t, rfl⟩ := r
    cases (show T = "int" from ty)
    exact ⟨typeIs_int s i t, fun _ e => nomatch e⟩
  | ref p =>
    cases r
    rcases ty with ⟨rfl, xs, hq⟩ | ⟨rfl, o, hk, hc, hd⟩ | ⟨rfl, hk⟩ | ⟨rfl, S, n, hk⟩
    · obtain ⟨its, _, pl, _⟩ := I.list hq
      refine ⟨pl.isList.typeIs, fun a e => ?_⟩
      cases e
      obtain ⟨o, n, e, c, hd, _⟩ := pl
      exact ⟨o, e, hd⟩
    · refine ⟨⟨o, I.kIn p o hk, hc⟩, fun a e => ?_⟩
      cases e
      exact ⟨o, I.kIn _ o hk, hd⟩
    · have z : ∃ o, s.heap.get? p = some o ∧ o.ExactDict := by
        rcases hk with ⟨kvs, hk⟩ | ⟨kvs, hk⟩
        · obtain ⟨_, _, _, _, o, _, _, e, ex, _⟩ := I.hok p _ hk
          exact ⟨o, e, ex⟩
        · obtain ⟨_, _, _, _, o, _, _, e, ex, _⟩ := I.hok p _ hk
          exact ⟨o, e, ex⟩
      obtain ⟨o, e, ex⟩ := z
      refine ⟨⟨o, e, ex.1⟩, fun a e2 => ?_⟩
      cases e2
      exact ⟨o, e, ex.2.1⟩
    · obtain ⟨o, _, _, _, e, ex, _⟩ := I.hok p _ hk
      refine ⟨⟨o, e, ex.1⟩, fun a e2 => ?_⟩
      cases e2
      exact ⟨o, e, ex.2.1⟩
  | _ => exact False.elim ty
noncomputable def tBM0 (K : PySem.W.Frag) (T : String) (r : V → List V → Hp → VK → Prop) (to : TE) : TE := fun σ H Q => to σ H fun x H1 => tyV K T x H1 ∧ r x [] H1 Q
noncomputable def tBM (K : PySem.W.Frag) (T : String) (r : V → List V → Hp → VK → Prop) (to : TE) (t : TA) : TE := fun σ H Q => to σ H fun x H1 => tyV K T x H1 ∧ t σ H1 fun xs H2 => r x xs H2 Q
variable {o e : Expr} {es : List Expr} {to : TE} {t : TA} {name : Str} {apos cpos : Pos} {T id : String} {r : V → List V → Hp → VK → Prop}
theorem pe_bm0 (pa : PlainAttrs T) (slot : Slot T name id) (hty : typeOf (.builtin id) = pure (.type "method_descriptor")) (hm : MtR X id r) (ho : PE X o to)
    (hbase : attributeBase o name X.env (eval o X.env) = eval o X.env := by rfl) (hline : (apos.endLine == cpos.line) = true := by rfl) : PE X (.Call (.Attribute o name apos) [] [] cpos) (tBM0 X.K T r to) := by
  intro pins s σ H Q I h
  refine wpAny_Call_method0_late hbase hline (thn (ho pins s σ H _ I h) fun v s1 ⟨x, H1, I1, r1, ty, q1⟩ => ?_)
  obtain ⟨h1, h2⟩ := tyV_is I1 r1 ty
  exact ⟨T, id, pa, slot, hty, h1, h2, Calls.callWith_builtin rfl (PySem.evalArgs_none (hm pins s1 σ H1 x [] v [] Q I1 r1 .nil q1))⟩
theorem pe_bm (pa : PlainAttrs T) (slot : Slot T name id) (hty : typeOf (.builtin id) = pure (.type "method_descriptor")) (hm : MtR X id r) (ho : PE X o to) (ha : PA X (e :: es) t)
    (hbase : attributeBase o name X.env (eval o X.env) = eval o X.env := by rfl)
    (hfew : ((backTo cpos (starEach (e :: es) X.env)).all (fun x => !x.1) && (backToKw cpos (keywordEach [] X.env)).all (fun x => x.1.isSome)
      && decide ((e :: es).length + ([] : List Keyword).length + (if ([] : List Keyword).isEmpty then 0 else 1) < 30)) = true := by rfl)
    (hline : (apos.endLine == cpos.line) = true := by rfl) (hs : starEach (e :: es) X.env = (false, eval e X.env) :: starEach es X.env := by rfl) (hplain : (backTo cpos (starEach es X.env)).any (·.1) = false := by rfl) :
    PE X (.Call (.Attribute o name apos) (e :: es) [] cpos) (tBM X.K T r to t) := by
  intro pins s σ H Q I h
  refine wpAny_Call_method_late hbase hfew hline rfl (thn (ho pins s σ H _ I h) fun v s1 ⟨x, H1, I1, r1, ty, q1⟩ => ?_)
  obtain ⟨h1, h2⟩ := tyV_is I1 r1 ty
  refine ⟨T, id, pa, slot, hty, h1, h2, ?_⟩
  have hA := ha cpos pins s1 σ H1 _ I1 q1
  rw [hs] at hA ⊢
  refine Calls.callWith_builtin (by show (false || (backTo cpos (starEach es X.env)).any (·.1)) = false; rw [hplain] <;> rfl) (Calls.evalArgs_plain ?_)
  exact thn hA fun us s2 ⟨vs, H2, I2, r2, q2⟩ => hm pins s2 σ H2 x vs v us Q I2 r1 r2 q2
/- xs.append(e), list.index on a module's tuple .. are MtR facts of 06m -/
end
end L2

namespace L2
open PySem PySem.Spec PyProof.Rows

noncomputable def MtM (X : Cx) (id : String) (r : V → List V → Hp → VK → Prop) : Prop :=
  ∀ (pins : List (Addr × Obj)) (s : Shared) (σ : St) (H : Hp) (x : V) (xs : List V) (v : Value) (us : List Value) (Q : VK), Inv X pins σ H s → RelV x v → Vals xs us → r x xs H Q →
    wpAny (model X.prog X.w) X.A (call (.builtin id) (v :: us)) (EP X pins σ Q) X.xe s

theorem Vals.one : ∀ {x : V} {us : List Value}, Vals [x] us → ∃ u, us = [u] ∧ RelV x u
  | _, _, .cons r .nil => ⟨_, rfl, r⟩
theorem Vals.eraseIdx : ∀ {xs : List V} {us : List Value} (i : Nat), Vals xs us → Vals (xs.eraseIdx i) (us.eraseIdx i)
  | _, _, _, .nil => .nil
  | _, _, 0, .cons _ t => t
  | _, _, i + 1, .cons r t => .cons r (Vals.eraseIdx i t)
theorem len_erase {α : Type} : ∀ (l : List α) (i : Nat), (l.eraseIdx i).length ≤ l.length
  | [], _ => Nat.le_refl _
  | _ :: _, 0 => Nat.le_succ _
  | _ :: r, i + 1 => Nat.succ_le_succ (len_erase r i)
section
variable {X : Cx} {pins : List (Addr × Obj)} {σ : St} {H : Hp} {s : Shared} {l b : Addr} {xs ys zs : List V}

theorem Inv.lset {its its' : List Value} {n : Nat} {f : Array Value → Array Value} {t' : Nat} (I : Inv X pins σ H s) (hH : H l = some (.lst xs))
    (e : s.heap.get? l = some { cls := .type "list", data := .seq its.toArray n }) (hf : f its.toArray = its'.toArray) (hv : Vals ys its') (hz : ys.length ≤ sizeLine) :
    Inv X pins σ (upd H l (.lst ys)) { s with heap := s.heap.update l (Obj.mapSeq f), toks := t' } := by
  have q := PySem.IsL.update e f
  rw [hf] at q
  refine I.write (x := l) (e := l) (by rw [hH]; exact trivial) (.inl rfl) (fun b' u hb hu => (Heap.get?_update_other s.heap (Obj.mapSeq f) (Ne.symm hb)).trans hu) ⟨_, q⟩ ?_
  exact ⟨hz, its', _, hv, q⟩
theorem Inv.lnew {its : List Value} {t' : Nat} (I : Inv X pins σ H s) (hv : Vals ys its) (hz : ys.length ≤ sizeLine) :
    Inv X pins σ (upd H s.heap.objs.size (.lst ys)) { s with heap := s.heap.push { cls := .type "list", data := .seq its.toArray }, toks := t' } :=
  I.laid (fun _ _ q => Heap.get?_push_of_some _ q) (Nat.le_refl _) ⟨hz, its, 0, hv, Heap.get?_push_size _ rfl⟩
theorem Inv.fresh (I : Inv X pins σ H s) : H s.heap.objs.size = none := I.hok.fresh (Nat.le_refl _)
theorem Inv.lstM (I : Inv X pins σ H s) (hH : H l = some (.lst xs)) : xs.length ≤ sizeLine ∧ ∃ (its : List Value) (n : Nat), Vals xs its ∧ xs.length = its.length ∧ s.heap.get? l = some { cls := .type "list", data := .seq its.toArray n } := by
  obtain ⟨z, its, n, r, e⟩ := I.hok l _ hH
  exact ⟨z, its, n, r, r.length, e⟩

theorem notLongL {n : Nat} (h : n ≤ sizeLine) : Builtin.List.listTooLong n = false := by
  unfold Builtin.List.listTooLong
  exact decide_eq_false (by omega)
end

section
variable {X : Cx}

noncomputable def rAppend : V → List V → Hp → VK → Prop := fun x vs H Q => ∃ l xs y, x = .ref l ∧ vs = [y] ∧ H l = some (.lst xs) ∧ xs.length < sizeLine ∧ Q .non (upd H l (.lst (xs ++ [y])))
theorem mt_append : MtM X "list.append" rAppend := by
  intro pins s σ H x vs v us Q I rx rv h
  obtain ⟨l, xs, y, rfl, rfl, hH, hz, q⟩ := h
  cases rx
  obtain ⟨u, rfl, ru⟩ := rv.one
  obtain ⟨z, its, n, r, hl, e⟩ := I.lstM hH
  refine call_meets F.slot_list_append ⟨_, e, rfl⟩ F.entry_list_append (F.args_list_append_2 _ _) (PySem.list_append l its.toArray n u (by rw [List.size_toArray]; omega)) ⟨e, ?_⟩
  refine ⟨.non, _, I.lset (its' := its ++ [u]) hH e (by simp) (r.append (.cons ru .nil)) ?_, rfl, q⟩
  rw [List.length_append, List.length_singleton]
  omega

noncomputable def rExtend : V → List V → Hp → VK → Prop := fun x vs H Q => ∃ l b xs zs, x = .ref l ∧ vs = [.ref b] ∧ H l = some (.lst xs) ∧ H b = some (.lst zs) ∧ xs.length + zs.length ≤ sizeLine ∧ Q .non (upd H l (.lst (xs ++ zs)))
theorem mt_extend : MtM X "list.extend" rExtend := by
  intro pins s σ H x vs v us Q I rx rv h
  obtain ⟨l, b, xs, zs, rfl, rfl, hH, hB, hz, q⟩ := h
  cases rx
  obtain ⟨u, rfl, ru⟩ := rv.one
  cases ru
  obtain ⟨z, its, n, r, hl, e⟩ := I.lstM hH
  obtain ⟨z2, its2, n2, r2, hl2, e2⟩ := I.lstM hB
  have hsz : its.toArray.size + its2.toArray.size ≤ sizeLine := by rw [List.size_toArray, List.size_toArray]; omega
  have hlong : ¬ (!its.toArray.isEmpty && Builtin.List.listTooLong (its.toArray.size + its2.toArray.size)) = true := by
    rw [notLongL hsz, Bool.and_false]
    exact Bool.false_ne_true
  refine call_meets F.slot_list_extend ⟨_, e, rfl⟩ F.entry_list_extend (F.args_list_extend_2 _ _)
    (AutoSeq1.list_extend_list_list_0 l its.toArray n b its2.toArray n2 hlong (by rw [List.size_toArray]; omega) (by omega)) ⟨e, e2, ?_⟩
  refine ⟨.non, _, I.lset (its' := its ++ its2) hH e (by simp) (r.append r2) ?_, rfl, q⟩
  rw [List.length_append]
  omega

noncomputable def rPopAt : V → List V → Hp → VK → Prop := fun x vs H Q => ∃ l xs i k y, x = .ref l ∧ vs = [.int i] ∧ H l = some (.lst xs) ∧ -(2 ^ 63) ≤ i ∧ i < 2 ^ 63 ∧ seqIndex? i xs.length = some k ∧ xs[k]? = some y ∧ Q y (upd H l (.lst (xs.eraseIdx k)))
theorem mt_popAt : MtM X "list.pop" rPopAt := by
  intro pins s σ H x vs v us Q I rx rv h
  obtain ⟨l, xs, i, k, y, rfl, rfl, hH, h1, h2, hk, hy, q⟩ := h
  cases rx
  obtain ⟨u, rfl, ru⟩ := rv.one
  obtain ⟨t, rfl⟩ := ru
  obtain ⟨z, its, n, r, hl, e⟩ := I.lstM hH
  obtain ⟨w, hw, rw'⟩ := r.get hy
  refine call_meets F.slot_list_pop ⟨_, e, rfl⟩ F.entry_list_pop (F.args_list_pop_2 _ _)
    (MeetsSeq.list_pop_at l its.toArray n i t k w (fitsIndex_both h1 h2) (by rw [List.size_toArray, ← hl]; exact hk) (by rw [← Array.getElem?_toList]; exact hw) (by rw [List.size_toArray]; omega)) ⟨e, ?_⟩
  refine ⟨y, _, I.lset (its' := its.eraseIdx k) hH e ?_ (r.eraseIdx k) ?_, rw', q⟩
  · show its.toArray.eraseIdxIfInBounds k = (its.eraseIdx k).toArray
    rw [List.eraseIdxIfInBounds_toArray]
  · have := len_erase xs k
    omega

noncomputable def rCat : R2 := fun x y H Q => ∃ l b xs zs, x = .ref l ∧ y = .ref b ∧ H l = some (.lst xs) ∧ H b = some (.lst zs) ∧ xs.length + zs.length ≤ sizeLine ∧ ∀ p, H p = none → Q (.ref p) (upd H p (.lst (xs ++ zs)))
theorem op_cat : OpR X (binaryOp .Add) rCat := by
  intro pins s σ H x y v u Q I rx ry h
  obtain ⟨l, b, xs, zs, rfl, rfl, hH, hB, hz, q⟩ := h
  cases rx
  cases ry
  obtain ⟨z, its, n, r, hl, e⟩ := I.lstM hH
  obtain ⟨z2, its2, n2, r2, hl2, e2⟩ := I.lstM hB
  refine PySem.P.add_list e e2 ?_ (by rw [List.size_toArray, List.size_toArray]; omega)
  have ea : its.toArray ++ its2.toArray = (its ++ its2).toArray := by simp
  rw [ea]
  exact ⟨.ref _, _, I.lnew (t' := s.toks) (r.append r2) (by rw [List.length_append]; omega), rfl, q _ I.fresh⟩
end

section
variable {prog : Program} {w : World} {A : Around} {E : Value → Shared → Prop} {s : Shared}
end

section
variable {X : Cx}
end
end L2

namespace Att
open PySem PySem.W PySem.Calls PyProof.Rows

theorem ints_of_wellAll {P : Params} {h : Heap} : ∀ (ns : List Int) (vs : List Value), WellAll P h vs (ns.map WData.int) → IntsAre vs ns := by
  intro ns
  induction ns with
  | nil =>
    intro vs w
    rw [List.map_nil] at w
    cases w
    exact .nil
  | cons n ns ih =>
    intro vs w
    rw [List.map_cons] at w
    cases w with
    | cons a b =>
      cases a
      exact .cons _ _ (ih _ b)

theorem script_of {l : OpenLaw} {n : Nat} (hn : l.most = some n) {P : Params} {h : Heap} {args : List WData} {vals : List Value}
    (hpre : l.row.toRowW.claim.pre args = true) (hwl : WellAll P h vals args) :
    ∃ a vs ns, vals = [Value.ref a] ∧ args = [WData.list (ns.map WData.int)] ∧ h.get? a = some { cls := .type "list", data := .seq vs.toArray } ∧ IntsAre vs ns ∧ ns.length ≤ n := by
  have hsh : WShape.hasAll [] args [.list .int] = true := (pre_splitW hpre).1
  have hc : l.pre.holds [] { args := args } = true := (pre_splitW hpre).2
  obtain ⟨d, r, rfl, h1, h2⟩ := hasAllW_cons hsh
  obtain rfl := hasAllW_nil h2
  obtain ⟨xs, rfl, h3⟩ := hasW_list h1
  obtain ⟨ns, rfl⟩ := items_int h3
  have hlen : ns.length ≤ n := by
    unfold OpenLaw.pre at hc
    have h4 : (WTm.not (.lt (.lit (.int (n : Int))) (.len (.arg 0)))).holds [] { args := [.list (ns.map .int)] } = true := by
      have h4 := (holds_andW hc).1
      rw [hn] at h4
      exact h4
    have h5 := condW_of h4 (w_not (w_lt w_lit (w_len_list (w_arg rfl))))
    rw [List.length_map] at h5
    refine Nat.le_of_not_lt fun q => ?_
    have q' : (n : Int) < ((ns.length : Nat) : Int) := by omega
    first
      | (rw [decide_eq_true q'] at h5; exact absurd h5 (by decide))
      | (simp at h5; omega)
  cases hwl with
  | cons w1 w2 =>
    cases w2
    cases w1 with
    | list ho hall => exact ⟨_, _, ns, rfl, rfl, ho, ints_of_wellAll ns _ hall, hlen⟩

theorem post_true (l : OpenLaw) (args : List WData) : l.row.toRowW.claim.post args (.bool true) args = true :=
  postW_of (r := l.row.toRowW) (X := (true == true))
    (show WShape.has [] (.bool true) .bool = true by first | rfl | decide | simp [WShape.has, WShape.arms, WShape.armsAll])
    (show (WTm.eq .res (.lit (.bool true))).value [] { args := args, res := some (.bool true), after := args } = some (.bool (true == true)) from w_eq_bool (w_res rfl) w_lit) rfl

theorem attach_call {l : OpenLaw} {n : Nat} {q : Program} {loose : List Str} {XP : (Str → Option Value) → Heap → Prop} {YP : World → Heap → Prop} {d : DefRec}
    (hn : l.most = some n) (hdf : d.params.defaults = [])
    (call : ∀ (w : World) (s₀ s₁ : Shared) (mg mb : Str → Option Value) (fa : Addr) (o : Obj) (pm cd doc : Value) (a : Addr) (vs : List Value) (ns : List Int),
      Ground q loose [] XP w s₀ mg mb s₁.heap → YP w s₁.heap →
      s₁.heap.get? fa = some o → o.data = .func (docDef d.name d.params d.body d.scope pm cd doc) → s₁.heap.CodeRec cd d.name → mg d.name = some (.ref fa) →
      s₁.heap.get? a = some { cls := .type "list", data := .seq vs.toArray } → IntsAre vs ns → ns.length ≤ n → s₁.gens = #[] →
      codeAny (model l.prog w) callerA (.call (.ref fa) ⟨[.ref a], []⟩) (fun r s' => r = .ok (.ret (.bool true)) ∧ OldK s₁.heap s'.heap ∧ s'.os = s₁.os ∧ AllBare s'.gens) s₁) :
    WalkO q loose XP YP l.row.toRowW d [] (fun f vs => PySem.call f vs) := by
  intro w s₀ s₁ mg mb G Y fa o pm cd doc dV kV ho hd hcd hD hmg hg args vals as hpre hlay hrd hwl hlo
  obtain rfl : dV = .none := Dflts.none hD hdf
  obtain rfl : kV = .none := Dflts.noKw hD
  obtain ⟨a, vs, ns, rfl, rfl, hobj, hints, hlen⟩ := script_of hn hpre hwl
  refine enter_call (codeAny_mono (call w s₀ s₁ mg mb fa o pm cd doc a vs ns G Y ho (fd_plain hd) hcd hmg hobj hints hlen hg) fun r s' hq => ?_)
  obtain ⟨rfl, h2, h3, h4⟩ := hq
  exact ⟨.inl ⟨.bool true, .bool true, [], rfl, fun _ => rfl, .bool true, post_true l _, fun _ => ⟨List.Pairwise.nil, fun _ hm => (nomatch hm)⟩⟩, h2, h3, h4⟩

section
variable {prog : Program} {w : World} {A : Around} {E : Value → Shared → Prop} {s : Shared} {K : Frag}

noncomputable def ledger (h : Heap) (L d : Addr) : List (Addr × Obj) := (List.range h.objs.size).filterMap fun a => if a = L ∨ a = d then none else (h.get? a).map fun o => (a, o)
end
end Att

namespace L2
open PySem PySem.Spec PyProof.Rows

theorem vals_ints : ∀ {vs : List Value} {ns : List Int}, IntsAre vs ns → Vals (ns.map V.int) vs
  | _, _, .nil => .nil
  | _, _, .cons n t h => .cons ⟨t, rfl⟩ (vals_ints h)

noncomputable def Only (H : Hp) : Prop := ∀ b, H b = none ∨ ∃ o xs, H b = some (.frz o (.lst xs))

theorem law_call {P : Program} {w : World} {K : PySem.W.Frag} {mg mb : Str → Option Value} {CX : CXT} {k : Nat} {fa a : Addr} {fd : FuncData} {x : Str} {sp : Sp} {s₁ : Shared} {vs : List Value} {ns : List Int}
    (KX : K.In s₁.heap) (hns : s₁.heap.Ns mainGlobals mg) (hb : s₁.heap.Ns builtinsNs mb) (hbb : ∀ x : Str, x ≠ "__name__" → mb x = bootBuiltins x) (hlim : s₁.heap.NoLimit) (hg : s₁.gens = #[])
    (ha : s₁.heap.get? a = some { cls := .type "list", data := .seq vs.toArray }) (hi : IntsAre vs ns) (hl : ns.length ≤ sizeLine) (hr : Room k callerA)
    (F : ∀ base : Heap, K.In base → base.Ns mainGlobals mg → FnOk P w K mg base CX k fa fd [x] sp) (hbind : ∀ (s : Shared) (u : Value), BindsTo s fd ⟨[u], []⟩ [(x, u)])
    (hsp : ∀ H : Hp, Only H → SqL K H a (ns.map V.int) → sp [.ref a] H (fun v _ => v = .bl true) fun _ _ _ => False)
    (hCX : ∀ H e s', CX [] H s₁ (fun _ _ _ => False) e s' → False) :
    codeAny (model P w) callerA (.call (.ref fa) ⟨[.ref a], []⟩) (fun r s' => r = .ok (.ret (.bool true)) ∧ OldK s₁.heap s'.heap ∧ s'.os = s₁.os ∧ AllBare s'.gens) s₁ := by
  have rv := vals_ints hi
  have lenV := hi.length
  -- from an abstract heap in which nothing but the script may be tracked
  have core : ∀ H : Hp, Only H → SqL K H a (ns.map V.int) → HOk P w H s₁.heap → (∀ b, H b ≠ none → b = a) → (H a ≠ none → K.lookup a = none) →
      codeAny (model P w) callerA (.call (.ref fa) ⟨[.ref a], []⟩) (fun r s' => r = .ok (.ret (.bool true)) ∧ OldK s₁.heap s'.heap ∧ s'.os = s₁.os ∧ AllBare s'.gens) s₁ := by
    intro H hO hS hok hA hK
    have base_of : ∀ {b : Addr} {o : Obj}, s₁.heap.get? b = some o → H b = none → (hidT s₁.heap H).get? b = some o := fun e n => hidT_get e n
    have noA : ∀ {b : Addr} {o : Obj} {es : Array DictEntry} {ep : Nat}, s₁.heap.get? b = some o → o.data = .dict es ep → H b = none := fun {b o es ep} e d => by
      cases q : H b with
      | none => rfl
      | some u =>
        have e' : b = a := hA b (by rw [q]; simp)
        subst e'
        rw [ha] at e; cases e
        have d' : Data.seq vs.toArray _ = Data.dict es ep := d
        cases d'
    have nsK : ∀ {b : Addr} {m : Str → Option Value}, s₁.heap.Ns b m → (hidT s₁.heap H).Ns b m := fun {b m} ⟨o, es, ep, e, d, r⟩ => ⟨o, es, ep, base_of e (noA e d), d, r⟩
    have hKb : K.In (hidT s₁.heap H) := fun b o e => base_of (KX b o e) (by
      cases q : H b with
      | none => rfl
      | some u =>
        have e' : b = a := hA b (by rw [q]; simp)
        subst e'
        rw [hK (by rw [q]; simp)] at e; cases e)
    have hM : Mod K mg (hidT s₁.heap H) := ⟨hKb, nsK hns, ⟨mb, nsK hb, hbb⟩, let ⟨mc, h1, h2⟩ := hlim; ⟨mc, nsK h1, h2⟩⟩
    have e0 : Env0 P w K mg (hidT s₁.heap H) callerA [] s₁ H := ⟨rfl, hM, fun b o e => of_hidT e, Nat.le_of_eq (hidT_size _ _), trivial, fun b hb => absurd (show b ∈ ([] : List Addr) from hb) (by simp), hok, .of_eq hg⟩
    refine codeAny_mono ((F _ hKb (nsK hns)).run callerA [] s₁ H ⟨[.ref a], []⟩ [.ref a] [.ref a] _ _ hr e0 (hbind s₁ (.ref a)) (.cons rfl .nil) (hsp H hO hS)) fun r s' h => ?_
    cases r with
    | error e => exact (hCX H e s' h).elim
    | ok fl =>
      cases fl with
      | next => exact False.elim h
      | brk => exact False.elim h
      | cont => exact False.elim h
      | ret u =>
        obtain ⟨v, H', os, bare, un, hok', r', q⟩ := h
        have q' : v = .bl true := q
        subst q'
        obtain rfl : u = Value.bool true := r'
        refine ⟨rfl, OldK.of_keep fun b o e => ?_, os, bare⟩
        cases q : H b with
        | none => exact un.keep b o e q (by intro z; exact absurd (show b ∈ ([] : List Addr) from z) (by simp)) (by simp)
        | some u =>
          rcases hO b with z | ⟨ob, xs, z⟩
          · rw [q] at z; cases z
          · have z2 := un.frzs b ob _ z
            obtain ⟨e1, _⟩ := hok b _ z
            obtain ⟨e2, _⟩ := hok' b _ z2
            rw [e] at e1; cases e1
            exact e2
  cases hk : K.lookup a with
  | some o =>
    -- the script is one of the module's own objects
    have e := KX a o hk
    rw [ha] at e
    cases e
    refine core (fun _ => none) (fun _ => .inl rfl) (.inr ⟨_, vs.toArray, _, hk, rfl, rfl, rfl, by rw [List.size_toArray, lenV]; exact hl, by simpa using rv⟩) (fun b u z => by have z' : (none : Option HO) = some u := z; cases z') (fun b z => absurd rfl z) fun z => absurd rfl z
  | none =>
    refine core (fun b => if b = a then some (.frz { cls := .type "list", data := .seq vs.toArray } (.lst (ns.map V.int))) else none) (fun b => ?_) (.inl (.inr ⟨{ cls := .type "list", data := .seq vs.toArray }, if_pos rfl⟩)) (fun b u z => ?_) (fun b z => ?_) fun _ => hk
    · by_cases hb : b = a
      · exact .inr ⟨_, _, if_pos hb⟩
      · exact .inl (if_neg hb)
    · by_cases hb : b = a
      · have z' := (if_pos hb).symm.trans z
        cases z'
        subst hb
        exact ⟨ha, by rw [List.length_map]; exact hl, vs, _, rv, ha⟩
      · have z' := (if_neg hb).symm.trans z
        cases z'
    · by_cases hb : b = a
      · exact hb
      · exact absurd (if_neg hb) z
end L2

namespace L2
open PySem PySem.Spec PyProof.Rows

theorem walk_of {l : PySem.W.OpenLaw} {n k : Nat} {q : Program} {loose : List Str} {XP : (Str → Option Value) → Heap → Prop} {YP : World → Heap → Prop} {d : DefRec} {K : Params → PySem.W.Frag} {CX : World → CXT} {sp : World → Sp} {x : Str}
    (hn : l.most = some n) (hn2 : n ≤ sizeLine) (hdf : d.params.defaults = []) (hr : Room k callerA)
    (hY : ∀ (w : World) (h : Heap), YP w h → (K w.params).In h)
    (F : ∀ (w : World) (mg : Str → Option Value) (fa : Addr) (h : Heap), (K w.params).In h → h.Ns mainGlobals mg → mg d.name = some (.ref fa) →
      ∃ fd : FuncData, (∀ (s : Shared) (u : Value), BindsTo s fd ⟨[u], []⟩ [(x, u)]) ∧
        ∀ base : Heap, (K w.params).In base → base.Ns mainGlobals mg → FnOk l.prog w (K w.params) mg base (CX w) k fa fd [x] (sp w))
    (hsp : ∀ (w : World) (H : Hp) (a : Addr) (ns : List Int), ns.length ≤ n → Only H → SqL (K w.params) H a (ns.map V.int) → sp w [.ref a] H (fun v _ => v = .bl true) fun _ _ _ => False)
    (hCX : ∀ (w : World) (H : Hp) (s : Shared) (e : Value) (s' : Shared), CX w [] H s (fun _ _ _ => False) e s' → False) :
    PySem.W.WalkO q loose XP YP l.row.toRowW d [] (fun f vs => PySem.call f vs) := by
  refine Att.attach_call hn hdf fun w s₀ s₁ mg mb fa o pm cd doc a vs ns G Y ho hd hcd hmg hobj hints hlen hg => ?_
  have KX := hY w _ Y
  obtain ⟨fd, hb, hF⟩ := F w mg fa _ KX G.T.g hmg
  exact law_call KX G.T.g G.T.b G.T.builtins G.T.nolimit hg hobj hints (Nat.le_trans hlen hn2) hr hF hb (fun H hO hS => hsp w H a ns hlen hO hS) fun H e s' => hCX w H s₁ e s'
end L2



namespace L2
open PySem PySem.Spec PyProof.Rows

noncomputable def defArgs (s : Stmt) : Arguments := match s with
  | .FunctionDef _ a _ _ _ _ _ _ _ _ => a
  | _ => { posonlyargs := [], args := [], vararg := none, kwonlyargs := [], kw_defaults := [], kwarg := none, defaults := [] }
noncomputable def defBody (s : Stmt) : List Stmt := match s with
  | .FunctionDef _ _ b _ _ _ _ _ _ _ => b
  | _ => []
noncomputable def defScope (s : Stmt) : Scope := match s with
  | .FunctionDef _ _ _ _ _ _ sc _ _ _ => sc
  | _ => { kind := .function, names := [], isGenerator := false, isCoroutine := false }

noncomputable abbrev CX0 : CXT := fun _ _ _ _ _ _ => False
noncomputable abbrev E0 : XK := fun _ _ _ => False
theorem pass0 {X : Cx} : Passes CX0 X E0 := fun _ _ _ _ _ _ _ h => h.elim

structure Fun (K : PySem.W.Frag) (x qual : Str) (st : Stmt) (f : Addr) (fd : FuncData) : Prop where
  ex : ∃ (oc : Value) (od : Option Addr) (kV doc pm : Value) (an : Option Addr) (cdv ct : Value) (osl : Array (Option Value)),
    fd = PySem.W.fnOf x qual (defArgs st) (defBody st) (defScope st) .none kV doc pm an cdv ct ∧ K.lookup f = some ⟨oc, od, .func fd, osl⟩ ∧ PySem.W.codeIn K cdv qual = true
  kp : PySem.W.keepIn K (.ref f) = true
section
variable {P : Program} {w : World} {K : PySem.W.Frag} {mg : Str → Option Value} {base : Heap}
theorem Fun.ok {x qual : Str} {st : Stmt} {f : Addr} {fd : FuncData} {N ps : List Str} {k : Nat} {sp : Sp} (F : Fun K x qual st f fd) (S : FnScope N ps (defScope st)) (len : ∀ vs H Q E, sp vs H Q E → vs.length = ps.length)
    (hbody : ∀ (cdv : Value) (A : Around) (outer : List Env) (s : Shared) (H : Hp) (vs : List V) (Q : VK) (E : XK), Room k (A.deeper (envOfC qual (defScope st) s.heap.objs.size f cdv)) → sp vs H Q E →
      ∃ t, PSs (cxOf CX0 P w K mg base N qual (defScope st) f cdv A outer s H E).nox (defBody st) t ∧ t { nx := fun _ H' => Q .non H', rt := Q } (start N vs) H) : FnOk P w K mg base CX0 (k + 1) f fd ps sp := by
  obtain ⟨oc, od, kV, doc, pm, an, cdv, ct, osl, rfl, lk, hcd⟩ := F.ex
  refine fn_of lk hcd S len fun A outer s H vs Q E hr hsp => ?_
  obtain ⟨t, h, q⟩ := hbody cdv A outer s H vs Q E hr hsp
  exact ⟨t, h.nox, q⟩
theorem Fun.binds {x qual : Str} {st : Stmt} {f : Addr} {fd : FuncData} {ps : List Str} (F : Fun K x qual st f fd)
    (h : ∀ (kV doc pm : Value) (an : Option Addr) (cdv ct : Value) (us : List Value), us.length = ps.length → bindArgs (PySem.W.fnOf x qual (defArgs st) (defBody st) (defScope st) .none kV doc pm an cdv ct) ⟨us, []⟩ = pure (ps.zip us)) : Binds K fd ps [] := by
  obtain ⟨oc, od, kV, doc, pm, an, cdv, ct, osl, rfl, lk, hcd⟩ := F.ex
  exact .all (h kV doc pm an cdv ct)
theorem fun_mk {x qual : Str} {st : Stmt} {f : Addr} {oc : Value} {od an : Option Addr} {osl : Array (Option Value)} {kV doc pm cdv ct : Value} (l : K.lookup f = some ⟨oc, od, .func (PySem.W.fnOf x qual (defArgs st) (defBody st) (defScope st) .none kV doc pm an cdv ct), osl⟩)
    (c : PySem.W.codeIn K cdv qual = true) (k : PySem.W.keepIn K (.ref f) = true) : Fun K x qual st f (PySem.W.fnOf x qual (defArgs st) (defBody st) (defScope st) .none kV doc pm an cdv ct) := ⟨⟨oc, od, kV, doc, pm, an, cdv, ct, osl, rfl, l, c⟩, k⟩
end
theorem small1000 {n : Nat} (h : n ≤ 1000) : n < sizeLine := Nat.lt_of_le_of_lt h (by decide)

section
variable {X : Cx}
theorem pv (i : Nat) {x : Str} {pos : Pos} (hN : X.N[i]? = some x := by rfl) (hv : Vis X.env.scope x := by first | exact Or.inl rfl | exact Or.inr (Or.inl rfl) | exact Or.inr (Or.inr rfl)) (hd : (x == ("__debug__" : Str)) = false := by decide)
    (hcd : (x == ("__classdict__" : Str)) = false := by decide) : PE X (.Name x pos) (tVar i) := pe_var hN hv hd hcd
end

theorem iteF {A B : Prop} (h : B) : if false = true then A else B := by
  rw [if_neg Bool.false_ne_true]
  exact h
theorem iteT {A B : Prop} (h : A) : if true = true then A else B := by
  rw [if_pos rfl]
  exact h
theorem ite2 {c A B : Prop} [Decidable c] (h1 : c → A) (h2 : ¬ c → B) : if c then A else B := by
  by_cases h : c
  · rw [if_pos h]
    exact h1 h
  · rw [if_neg h]
    exact h2 h
noncomputable def Same (H H' : Hp) : Prop := ∀ b o, H b = some o → H' b = some o
theorem Same.refl (H : Hp) : Same H H := fun _ _ h => h
theorem Same.trans {H H1 H2 : Hp} (a : Same H H1) (b : Same H1 H2) : Same H H2 := fun c o h => b c o (a c o h)
theorem Same.free {H H' : Hp} (e : Same H H') {l : Addr} (h : H' l = Option.none) : H l = Option.none := by
  cases q : H l with
  | none => rfl
  | some o =>
    rw [e l o q] at h
    cases h
theorem Same.seq {K : PySem.W.Frag} {H H' : Hp} {a : Addr} {xs : List V} (e : Same H H') (h : SqL K H a xs) : SqL K H' a xs := by
  rcases h with (h | ⟨o, h⟩) | h
  · exact .inl (.inl (e _ _ h))
  · exact .inl (.inr ⟨o, e _ _ h⟩)
  · exact .inr h

end L2

namespace L2
open PySem PySem.Spec PyProof.Rows

theorem compLoop_any {prog : Program} {w : World} {A : Around} {R : Result → Shared → Prop} {s : Shared} {elt target iter : Expr} {ifs : List Expr} {scope : Scope} {pos : Pos} {it acc : Value} {env : Env} (I : Nat → Shared → Prop)
    (turn : ∀ n s, I n s → wpAny (model prog w) A (pyNext it) (fun r s1 => match r with
      | none => R (.ok .next) s1
      | some v => wpAny (model prog w) A (letOwnedTupleGo target it v) (fun _ s1' => wpAny (model prog w) A (assign target env v) (fun _ s2 =>
          wpAny (model prog w) A (forIn ifs true fun c r => if r = true then do let ok ← isTrue c env (eval c env); pure (ForInStep.yield ok) else pure (ForInStep.yield r)) (fun ok s3 =>
            if ok = true then wpAny (model prog w) A (eval elt env) (fun x s4 =>
              wpAny (model prog w) A (call (.builtin "list.append") [acc, x]) (fun _ s5 => ∃ m, m < n ∧ I m s5) (fun _ _ => False) s4) (fun _ _ => False) s3
            else ∃ m, m < n ∧ I m s3) (fun _ _ => False) s2) (fun _ _ => False) s1') (fun _ _ => False) s1) (fun _ _ => False) s)
    (n : Nat) (h : I n s) : codeAny (model prog w) A (.compLoop (.ListComp elt [⟨target, iter, ifs, 0⟩] scope pos) 0 it acc env) R s := by
  refine codeAny_loop rfl I (fun n s hI => ?_) n h
  show wpAny _ A ((compTurn (.ListComp elt [⟨target, iter, ifs, 0⟩] scope pos) 0 it acc env).onRaise (fun x => do noteFrame x env; theTreesLotGoes x)) _ _ s
  refine wpAny_noted (wpAny_mono (Q := _) (E := fun _ _ => False) ?_ (fun _ _ x => x) fun _ _ x => x.elim)
  rw [compTurn_list]
  refine wpAny_bind (wpAny_standAt (wpAny_bind (thn (turn n s hI) (fun r s1 h1 => ?_))))
  cases r with
  | none => exact wpAny_pure h1
  | some v =>
    refine wpAny_bind (thn h1 fun _ s1' h1' => wpAny_bind (thn h1' fun _ s2 h2 => wpAny_bind (thn h2 fun ok s3 h3 => ?_)))
    cases ok with
    | false => exact wpAny_pure ⟨rfl, h3⟩
    | true => exact wpAny_bind (wpAny_bind (thn h3 fun x s4 h4 => wpAny_bind (thn h4 fun _ s5 h5 => wpAny_pure (wpAny_pure ⟨rfl, h5⟩))))

theorem forIn_free {env : Env} : ∀ (names : List (Str × NameKind)) (cs : List (Str × Addr)), (∀ n, (n, NameKind.free) ∈ names → ∃ c, env.cells.lookup n = some c) →
    ∃ cl : List (Str × Addr), (forIn names cs (fun (x : Str × NameKind) (cs : List (Str × Addr)) => (do
      if (x.2 == NameKind.free) = true then do let a ← cellOf env x.1; pure (ForInStep.yield ((x.1, a) :: cs))
      else pure (ForInStep.yield cs) : Sem (ForInStep (List (Str × Addr)))))) = (pure cl : Sem (List (Str × Addr))) ∧
      (∀ p ∈ cl, p ∈ cs ∨ env.cells.lookup p.1 = some p.2) ∧ (∀ p ∈ cs, p ∈ cl) ∧ (∀ n, (n, NameKind.free) ∈ names → ∃ c, (n, c) ∈ cl)
  | [], cs, _ => ⟨cs, rfl, fun p hp => .inl hp, fun p hp => hp, fun n hn => nomatch hn⟩
  | (n, k) :: r, cs, h => by
    by_cases hk : k = .free
    · subst hk
      obtain ⟨c, hc⟩ := h n List.mem_cons_self
      obtain ⟨cl, e, h1, h2, h3⟩ := forIn_free (env := env) r ((n, c) :: cs) fun m hm => h m (List.mem_cons_of_mem _ hm)
      refine ⟨cl, ?_, fun p hp => ?_, fun p hp => h2 p (List.mem_cons_of_mem _ hp), fun m hm => ?_⟩
      · rw [List.forIn_cons]
        have z : cellOf env n = pure c := by unfold cellOf; rw [hc]
        simp only [beq_self_eq_true, if_true, z]
        exact e
      · rcases h1 p hp with q | q
        · rcases List.mem_cons.mp q with q | q
          · subst q; exact .inr hc
          · exact .inl q
        · exact .inr q
      · rcases List.mem_cons.mp hm with q | q
        · have q1 : m = n := by cases q; rfl
          subst q1
          exact ⟨c, h2 _ List.mem_cons_self⟩
        · exact h3 m q
    · obtain ⟨cl, e, h1, h2, h3⟩ := forIn_free (env := env) r cs fun m hm => h m (List.mem_cons_of_mem _ hm)
      refine ⟨cl, ?_, h1, h2, fun m hm => ?_⟩
      · rw [List.forIn_cons]
        have z : (k == NameKind.free) = false := by simpa using hk
        simp only [z, Bool.false_eq_true, if_false]
        exact e
      · rcases List.mem_cons.mp hm with q | q
        · cases q; exact absurd rfl hk
        · exact h3 m q

theorem mem_lookup {cl : List (Str × Addr)} {x : Str} {c : Addr} (h : (x, c) ∈ cl) : ∃ c', cl.lookup x = some c' := by
  induction cl with
  | nil => cases h
  | cons p r ih =>
    obtain ⟨y, d⟩ := p
    by_cases e : x = y
    · subst e; exact ⟨d, by simp⟩
    · have e' : (x == y) = false := by simpa using e
      rcases List.mem_cons.mp h with q | q
      · cases q; exact absurd rfl e
      · obtain ⟨c', q'⟩ := ih q
        exact ⟨c', by rw [List.lookup_cons, e']; exact q'⟩

theorem closure_ok {env : Env} {scope : Scope} (h : ∀ n, (n, NameKind.free) ∈ scope.names → ∃ c, env.cells.lookup n = some c) :
    ∃ cl, closureFor scope env = pure cl ∧ (∀ x c, cl.lookup x = some c → env.cells.lookup x = some c) ∧ (∀ n, (n, NameKind.free) ∈ scope.names → ∃ c, cl.lookup n = some c) := by
  obtain ⟨cl, e, h1, _, h3⟩ := forIn_free (env := env) scope.names [] h
  refine ⟨cl, ?_, fun x c q => ?_, fun n hn => ?_⟩
  · unfold closureFor
    refine Eq.trans ?_ e
    first
      | rfl
      | (simp only [bind_pure]; rfl)
      | simp only [bind_pure]
  · rcases h1 _ (PySem.mem_of_lookup q) with z | z
    · cases z
    · exact z
  · obtain ⟨c, q⟩ := h3 n hn
    exact mem_lookup q

theorem relabel_lookup {scope : Scope} {env : Env} {x : Str} {k' : NameKind} (h : (relabel scope env).names.lookup x = some k') : ∃ k, scope.names.lookup x = some k ∧ (k' = k ∨ (k = .free ∧ k' = .cell)) := by
  have go : ∀ names : List (Str × NameKind), (names.map fun (n, k) => if (k == NameKind.free && env.scope.kind == .function && env.kindOf n == some .cell) then (n, NameKind.cell) else (n, k)).lookup x = some k' →
      ∃ k, names.lookup x = some k ∧ (k' = k ∨ (k = .free ∧ k' = .cell)) := by
    intro names
    induction names with
    | nil => intro h; cases h
    | cons p r ih =>
      obtain ⟨n, k⟩ := p
      intro h
      rw [List.map_cons] at h
      by_cases hc : (k == NameKind.free && env.scope.kind == .function && env.kindOf n == some .cell) = true
      · simp only [hc, if_true] at h
        cases hx : x == n with
        | true =>
          rw [List.lookup_cons, hx] at h
          have hk : k = .free := by
            cases k <;> first | rfl | (simp at hc)
          exact ⟨k, by rw [List.lookup_cons, hx], .inr ⟨hk, by cases h; rfl⟩⟩
        | false =>
          rw [List.lookup_cons, hx] at h
          obtain ⟨k2, q1, q2⟩ := ih h
          exact ⟨k2, by rw [List.lookup_cons, hx]; exact q1, q2⟩
      · have hc' : (k == NameKind.free && env.scope.kind == .function && env.kindOf n == some .cell) = false := by simpa using hc
        simp only [hc', Bool.false_eq_true, if_false] at h
        cases hx : x == n with
        | true =>
          rw [List.lookup_cons, hx] at h
          exact ⟨k, by rw [List.lookup_cons, hx], .inl (by cases h; rfl)⟩
        | false =>
          rw [List.lookup_cons, hx] at h
          obtain ⟨k2, q1, q2⟩ := ih h
          exact ⟨k2, by rw [List.lookup_cons, hx]; exact q1, q2⟩
  exact go _ h

noncomputable def Cx.comp (X : Cx) (scope : Scope) (own : List Str) (js : List Nat) (cl : List (Str × Addr)) (s : Shared) (H : Hp) (C : Addr) (fp : List Addr) : Cx :=
  { prog := X.prog, w := X.w, K := X.K, mg := X.mg, base := X.base, A := X.A, N := own ++ js.map (fun j => X.N.getD j ""), s₀ := s, H₀ := H, env := compEnvC scope cl C X.env, outer := X.stack, stack := X.stack, ex := fp,
    fn := fun _ => false, calm := X.calm, pn := [], xe := fun _ _ => False }
noncomputable def pick (n : Nat) (js : List Nat) (σ : St) : St := List.replicate n none ++ js.map fun j => (σ[j]?).join
noncomputable def Wk (σ σ' : St) : Prop := σ.length = σ'.length ∧ ∀ (i : Nat) v, σ[i]? = some (some v) → σ'[i]? = some (some v)
theorem Wk.refl (σ : St) : Wk σ σ := ⟨rfl, fun _ _ h => h⟩
theorem Wk.set {n : Nat} {js : List Nat} {σ σ' : St} {i : Nat} {v : Option V} (h : Wk (pick n js σ) σ') (hi : i < n) : Wk (pick n js σ) (σ'.set i v) := by
  refine ⟨by rw [List.length_set]; exact h.1, fun j u q => ?_⟩
  by_cases e : i = j
  · subst e
    unfold pick at q
    rw [List.getElem?_append_left (by simpa using hi), List.getElem?_replicate] at q
    split at q <;> cases q
  · rw [List.getElem?_set_ne e]; exact h.2 j u q

structure CompScopeN (sc : Scope) (N : List Str) (scope : Scope) (js : List Nat) : Prop where
  kind : scope.kind = .function
  cell : ∀ x ∈ scope.names, x.2 ≠ .cell
  names : ∀ x ∈ scope.names, x.2 = .local → scope.names.lookup x.1 = some .local
  free : ∀ x ∈ scope.names, x.2 = .free → sc.names.lookup x.1 = some .cell ∨ sc.names.lookup x.1 = some .free
  js : ∀ j ∈ js, scope.names.lookup (N.getD j "") ≠ some .local
structure CompScope (X : Cx) (scope : Scope) (own : List Str) (js : List Nat) : Prop where
  kind : scope.kind = .function
  cell : ∀ x ∈ scope.names, x.2 ≠ .cell
  names : ∀ x ∈ scope.names, x.2 = .local → scope.names.lookup x.1 = some .local
  free : ∀ x ∈ scope.names, x.2 = .free → X.env.kindOf x.1 = some .cell ∨ X.env.kindOf x.1 = some .free
  js : ∀ j ∈ js, scope.names.lookup (X.N.getD j "") ≠ some .local

section
variable {X : Cx} {scope : Scope} {own : List Str} {js : List Nat}
theorem CompScopeN.cs {sc : Scope} {N : List Str} (S : CompScopeN sc N scope js) (h1 : X.env.scope = sc) (h2 : X.N = N) : CompScope X scope own js := by
  subst h1 h2
  exact ⟨S.kind, S.cell, S.names, S.free, S.js⟩

theorem comp_start {pins : List (Addr × Obj)} {σ : St} {H : Hp} {s : Shared} {cl : List (Str × Addr)} {fp : List Addr} {h1 : Heap} {C : Addr} {m : Str → Option Value} {o : Obj} {t1 : Nat} (S : CompScope X scope own js) (I : Inv X pins σ H s)
    (hf : ∀ b ∈ fp, FpOk X pins H b ∧ b < s.heap.objs.size)
    (hcl : ∀ x c, cl.lookup x = some c → X.env.cells.lookup x = some c) (hcl2 : ∀ n, (n, NameKind.free) ∈ scope.names → ∃ c, cl.lookup n = some c)
    (hC : @Eq Nat C (s.heap.objs.size + 1)) (hns : h1.Ns C m) (hk : ∀ b o, s.heap.get? b = some o → h1.get? b = some o) (hn : h1.get? s.heap.objs.size = some { cls := .type "list", dict := none, data := .seq ([] : List Value).toArray }) :
    Inv (X.comp scope own js cl s H C fp) [] (pick own.length js σ) (upd H s.heap.objs.size (.lst [])) { s with heap := h1, toks := t1 } := by
  have below : ∀ b, b < s.heap.objs.size → b ≠ C ∧ b ≠ s.heap.objs.size := fun b hb => ⟨Nat.ne_of_lt (Nat.lt_of_lt_of_eq (Nat.lt_succ_of_lt hb) hC.symm), Nat.ne_of_lt hb⟩
  have kinds : ∀ x, ((X.comp scope own js cl s H C fp).env.kindOf x = some .cell ∨ (X.comp scope own js cl s H C fp).env.kindOf x = some .free) → (x, NameKind.free) ∈ scope.names := fun x hx => by
    have hx : (relabel scope X.env).names.lookup x = some .cell ∨ (relabel scope X.env).names.lookup x = some .free := hx
    rcases hx with hx | hx
    · obtain ⟨k, q1, q2⟩ := relabel_lookup hx
      rcases q2 with q2 | ⟨q2, _⟩
      · exact absurd q2.symm (S.cell _ (PySem.mem_of_lookup q1))
      · exact q2 ▸ PySem.mem_of_lookup q1
    · obtain ⟨k, q1, q2⟩ := relabel_lookup hx
      rcases q2 with q2 | ⟨_, q2⟩
      · exact q2 ▸ PySem.mem_of_lookup q1
      · cases q2
  have hCle : s.heap.objs.size ≤ C := Nat.le_of_lt (Nat.lt_of_lt_of_eq (Nat.lt_succ_self _) hC.symm)
  have hCne : C ≠ s.heap.objs.size := Nat.ne_of_gt (Nat.lt_of_lt_of_eq (Nat.lt_succ_self _) hC.symm)
  have accn : H s.heap.objs.size = none := I.hok.fresh (Nat.le_refl _)
  refine ⟨⟨I.ok.mod, S.kind, I.ok.glob, I.ok.blt, ?_, fun x y c e1 e2 => I.ok.inj x y c (hcl x c e1) (hcl y c e2), fun x hx => hcl2 x (kinds x hx), fun x c e => ?_, I.ok.hd, I.ok.frames, .inl rfl, fun b hb => ?_, I.bs, Nat.le_trans I.ok.bsz I.sz, fun b o e hb => ?_, fun b hb => ?_, I.stack, I.stkFree⟩,
    rfl, I.bare, ?_, ⟨m, hns, fun i x v e1 e2 e3 => ?_⟩, fun x c e => ?_, ?_, fun x c e => ?_, fun p hp => absurd (show p ∈ ([] : List (Addr × Obj)) from hp) (by simp), ?_, ?_⟩
  · exact hCle
  · cases e
  · obtain ⟨⟨f0, f1, f2, f3, f4, f5⟩, lt⟩ := hf b hb
    exact ⟨(below b lt).1, fun x c e => f4 x c (hcl x c e)⟩
  · obtain ⟨⟨f0, f1, f2, f3, f4, f5⟩, lt⟩ := hf b hb
    rcases f3 with z | z
    · exact I.ok.noex b o e z
    · exact Nat.lt_irrefl _ (Nat.lt_of_lt_of_le (Heap.lt_size e) (Nat.le_trans I.ok.bsz z))
  · obtain ⟨⟨f0, f1, f2, f3, f4, f5⟩, lt⟩ := hf b hb
    exact fun z => (List.mem_cons.mp (I.stkSub b z)).elim f1 f2
  · exact Un.laid hk (Nat.le_refl _) accn
  · -- a visible name of the frame around
    have hi : ¬ i < own.length := fun hi => by
      unfold pick at e2
      rw [List.getElem?_append_left (by simpa using hi), List.getElem?_replicate] at e2
      split at e2 <;> cases e2
    unfold pick at e2
    rw [List.getElem?_append_right (by simpa using hi), List.length_replicate] at e2
    have e1 : (own ++ js.map (fun j => X.N.getD j ""))[i]? = some x := e1
    rw [List.getElem?_append_right (by omega)] at e1
    rw [List.getElem?_map] at e1 e2
    cases ej : js[i - own.length]? with
    | none => rw [ej] at e1; cases e1
    | some j =>
      rw [ej] at e1 e2
      have e1 : X.N.getD j "" = x := Option.some.inj e1
      have e2 : (σ[j]?).join = some v := Option.some.inj e2
      have e2' : σ[j]? = some (some v) := by
        cases q : σ[j]? with
        | none => rw [q] at e2; cases e2
        | some o => rw [q] at e2; have : o = some v := e2; rw [this]
      have hj : j < X.N.length := by
        have := (List.getElem?_eq_some_iff.mp e2').1
        rw [I.len] at this; exact this
      have e1' : X.N[j]? = some x := by
        rw [← e1, List.getD_eq_getElem?_getD, List.getElem?_eq_getElem hj]; rfl
      have e3 : Vis (relabel scope X.env) x := e3
      have hfr : (x, NameKind.free) ∈ scope.names := by
        rcases e3 with e3 | e3 | e3
        · obtain ⟨k, q1, q2⟩ := relabel_lookup e3
          rcases q2 with q2 | ⟨_, q2⟩
          · subst q2
            exact absurd (e1 ▸ q1) (S.js j (List.mem_of_getElem? ej))
          · cases q2
        · exact kinds x (.inl e3)
        · exact kinds x (.inr e3)
      have hkind := S.free _ hfr rfl
      obtain ⟨m0, hn0, hl0⟩ := I.loc
      have hv : Vis X.env.scope x := by
        rcases hkind with z | z
        · exact .inr (.inl z)
        · exact .inr (.inr z)
      obtain ⟨u, r, lk⟩ := hl0 j x v e1' e2' hv
      refine ⟨u, r, ?_⟩
      rcases lk with ⟨z, _⟩ | ⟨_, c, ec, hc⟩
      · rcases hkind with q | q <;> (rw [z] at q; cases q)
      · obtain ⟨c', ec'⟩ := hcl2 x hfr
        have : c' = c := by have := hcl x c' ec'; rw [ec] at this; cases this; rfl
        subst this
        refine .inr ⟨?_, c', ec', ?_⟩
        · rcases e3 with e3 | e3 | e3
          · obtain ⟨k, q1, q2⟩ := relabel_lookup e3
            rcases q2 with q2 | ⟨_, q2⟩
            · subst q2
              exact absurd (e1 ▸ q1) (S.js j (List.mem_of_getElem? ej))
            · cases q2
          · exact .inl e3
          · exact .inr e3
        · obtain ⟨oc, hoc, hd⟩ := hc
          exact ⟨oc, hk _ _ hoc, hd⟩
  · obtain ⟨v, oc, hoc, hd⟩ := I.cell x c (hcl x c e)
    exact ⟨v, oc, hk _ _ hoc, hd⟩
  · show upd H s.heap.objs.size (.lst []) C = none
    rw [upd_ne hCne]
    exact I.hok.fresh hCle
  · obtain ⟨v, oc, hoc, hd⟩ := I.cell x c (hcl x c e)
    rw [upd_ne (below c (Heap.lt_size hoc)).2]
    exact I.freeC x c (hcl x c e)
  · refine I.hok.laid hk (Nat.le_refl _) ⟨by show 0 ≤ sizeLine; exact Nat.zero_le _, [], 0, .nil, ?_⟩
    exact hn
  · unfold pick
    show _ = (own ++ js.map (fun j => X.N.getD j "")).length
    rw [List.length_append, List.length_append, List.length_replicate, List.length_map, List.length_map]
end
end L2

namespace L2
open PySem PySem.Spec PyProof.Rows

noncomputable def PIfs (X : Cx) (ifs : List Expr) (t : TT) : Prop :=
  ∀ (pins : List (Addr × Obj)) (s : Shared) (σ : St) (H : Hp) (Q : Bool → Hp → Prop), Inv X pins σ H s → t σ H Q →
    wpAny (model X.prog X.w) X.A (forIn ifs true fun c r => if r = true then do let ok ← isTrue c X.env (eval c X.env); pure (ForInStep.yield ok) else pure (ForInStep.yield r)) (TP X pins σ Q) X.xe s
noncomputable def tYes : TT := fun _ H Q => Q true H
theorem pifs_nil {X : Cx} : PIfs X [] tYes := fun _ _ _ H _ I h => wpAny_tests_nil ⟨H, I, h⟩
theorem pifs_one {X : Cx} {c : Expr} {t : TT} (h : PT X c t) : PIfs X [c] t := fun pins s σ H Q I hw => wpAny_tests_one (h pins s σ H Q I hw)

noncomputable def tCompR (n : Nat) (js : List Nat) (g : TG) (c : TT) (te : TE) (J : It) (σ : St) (H1 : Hp) (Q : VK) : Prop :=
  ∀ acc, H1 acc = none → ∃ W : Nat → Nat → Hp → Prop, (∃ m, W 0 m (upd H1 acc (.lst []))) ∧ ∀ i m H, W i m H →
    (J.stop i H ∧ Q (.ref acc) H) ∨
    (J.go i H ∧ ∀ x H', J.yld i H x H' → g x (pick n js σ) H' fun σ2 H2 => Wk (pick n js σ) σ2 ∧ c σ2 H2 fun b H3 =>
      if b = true then te σ2 H3 fun y H4 => ∃ ys, H4 acc = some (.lst ys) ∧ ys.length < sizeLine ∧ ∃ m', m' < m ∧ W (i + 1) m' (upd H4 acc (.lst (ys ++ [y])))
      else ∃ m', m' < m ∧ W (i + 1) m' H3)
noncomputable def tComp (n : Nat) (js : List Nat) (wi : TI) (g : TG) (c : TT) (te : TE) : TE := fun σ H Q => wi σ H fun J H1 => tCompR n js g c te J σ H1 Q

section
variable {X : Cx} {scope : Scope} {own : List Str} {js : List Nat} {tg iter elt : Expr} {ifs : List Expr} {pos : Pos} {wi : TI} {g : TG} {c : TT} {te : TE}

theorem comp_leave {pins : List (Addr × Obj)} {σ σ' : St} {H H' : Hp} {s s' : Shared} {cl : List (Str × Addr)} {fp : List Addr} {C : Addr} (I : Inv X pins σ H s) (hf : ∀ b ∈ fp, FpOk X pins H b)
    (J : Inv (X.comp scope own js cl s H C fp) [] σ' H' s') : Inv X pins σ H' s' :=
  I.call' (ch := fp) J.os J.base J.hok J.bare fun b hb => by
    obtain ⟨f0, f1, f2, f3, f4, f5⟩ := hf b hb
    exact ⟨f3, f1, f4, f5⟩
theorem comp_gone {pins : List (Addr × Obj)} {σ σ1 : St} {H H' : Hp} {s s' : Shared} {C : Addr} {h' : Heap} (I : Inv X pins σ H s) (hC : s.heap.objs.size ≤ C) (J : Inv X pins σ1 H' s') (hn : H' C = none) (hs : Heap.SameBut C s'.heap h') : Inv X pins σ1 H' { s' with heap := h' } := by
  obtain ⟨f0, f1, f2, f3, f4, f5⟩ := I.fpOk hC hn
  exact J.turned (t' := s'.toks) (fun b o hb e => (hs.2 b hb).trans e) f0 f1 f3 f4 f5

theorem comp_core {pins : List (Addr × Obj)} {σ : St} {H : Hp} {s : Shared} {cl : List (Str × Addr)} {fp : List Addr} {it : Addr} {tn : Nat → Heap → Prop} {J : It} {Q : VK} {E : Value → Shared → Prop} {RR : Value → Addr → Result → Shared → Prop}
    (hc : X.calm = true) (S : CompScope X scope own js) (I : Inv X pins σ H s) (T : Turn X.prog X.w X.K tg J fp it tn) (t0 : tn 0 s.heap) (hf : ∀ b ∈ fp, FpOk X pins H b)
    (hcl : ∀ x c, cl.lookup x = some c → X.env.cells.lookup x = some c) (hcl2 : ∀ n, (n, NameKind.free) ∈ scope.names → ∃ c, cl.lookup n = some c)
    (hg : ∀ cl s H C fp, PG (X.comp scope own js cl s H C fp) tg g) (hi : ∀ cl s H C fp, PIfs (X.comp scope own js cl s H C fp) ifs c) (he : ∀ cl s H C fp, PE (X.comp scope own js cl s H C fp) elt te)
    (q : tCompR own.length js g c te J σ H Q)
    (hRR : ∀ acc C H' s', s.heap.objs.size ≤ C → Inv (X.comp scope own js cl s H C fp) [] (pick own.length js σ) H' s' → Q (.ref acc) H' → RR (.ref acc) C (.ok .next) s') :
    wpAny (model X.prog X.w) X.A (newList []) (fun acc s3 => wpAny (model X.prog X.w) X.A (newFunctionEnv scope X.env.globals cl [] X.env.qual none .none (some X.env)) (fun cenv s4 =>
      codeAny (model X.prog X.w) X.A (.compStart (.ListComp elt [⟨tg, iter, ifs, 0⟩] scope pos) 0 (.ref it) acc { cenv with scope := relabel scope X.env }) (RR acc cenv.locals) s4) E s3) E s := by
  refine wpAny_newObj_type (wpAny_newFunctionEnv S.cell (by intro y hy; simp at hy) (fun h1 hns1 hsb1 => ?_) S.kind)
  dsimp only at hns1 hsb1 ⊢
  generalize hH2 : s.heap.push { cls := .type "list", dict := none, data := .seq ([] : List Value).toArray } = H2 at hns1 hsb1 ⊢
  have hC : @Eq Nat H2.objs.size (s.heap.objs.size + 1) := by rw [← hH2, Heap.size_push]
  have hDC : s.heap.objs.size ≠ H2.objs.size := by rw [hC]; exact Nat.ne_of_lt (Nat.lt_succ_self _)
  have hCle : s.heap.objs.size ≤ H2.objs.size := by rw [hC]; exact Nat.le_succ _
  have old : ∀ b o, s.heap.get? b = some o → h1.get? b = some o := fun b o e => hsb1.extBut b o (by
    have := Heap.lt_size e
    exact Nat.ne_of_lt (Nat.lt_of_lt_of_le this hCle)) (Heap.get?_push_of_some _ (hH2 ▸ Heap.get?_push_of_some _ e))
  have hacc : h1.get? s.heap.objs.size = some { cls := .type "list", dict := none, data := .seq ([] : List Value).toArray } := hsb1.extBut _ _ hDC (Heap.get?_push_of_some _ (hH2 ▸ Heap.get?_push_size _ rfl))
  have hfl : ∀ b ∈ fp, FpOk X pins H b ∧ b < s.heap.objs.size := fun b hb => ⟨hf b hb, by
    obtain ⟨o, e, _⟩ := T.obj 0 s.heap t0 b hb
    exact Heap.lt_size e⟩
  obtain ⟨W, ⟨m0, w0⟩, turn⟩ := q s.heap.objs.size (I.hok.fresh (Nat.le_refl _))
  have I1 := comp_start (t1 := s.toks + ([] : List (Str × Value)).length) (o := { cls := .type "list" , data := .seq #[] }) S I hfl hcl hcl2 hC hns1 old hacc
  have t1 : tn 0 h1 := T.keep 0 s.heap h1 t0 fun b _ o e => old b o e
  have stat : ∀ {pins' : List (Addr × Obj)} {H' : Hp}, (∀ b ∈ fp, H' b = none) → (∀ p ∈ pins', p.1 ∉ fp) → ∀ b ∈ fp, FpOk (X.comp scope own js cl s H H2.objs.size fp) pins' H' b := fun hn hp b hb => by
    obtain ⟨⟨f0, f1, f2, f3, f4, f5⟩, lt⟩ := hfl b hb
    exact ⟨hn b hb, Nat.ne_of_lt (Nat.lt_of_lt_of_le lt hCle), fun z => (List.mem_cons.mp (I.stkSub b z)).elim f1 f2, .inl hb, fun x c e => f4 x c (hcl x c e), fun p hp' z => hp p hp' (z ▸ hb)⟩
  have fr0 : ∀ b ∈ fp, (upd H s.heap.objs.size (.lst [])) b = none := fun b hb => by
    obtain ⟨⟨f0, _⟩, lt⟩ := hfl b hb
    rw [upd_ne (Nat.ne_of_lt lt)]; exact f0
  have loop : ∀ s3 : Shared, s3 = { s with heap := h1, toks := s.toks + ([] : List (Str × Value)).length } →
      codeAny (model X.prog X.w) X.A (.compLoop (.ListComp elt [⟨tg, iter, ifs, 0⟩] scope pos) 0 (.ref it) (.ref s.heap.objs.size) (compEnvC scope cl H2.objs.size X.env)) (RR (.ref s.heap.objs.size) H2.objs.size) s3 := by
    rintro s3 rfl
    refine compLoop_any (fun n s' => ∃ i H', Inv (X.comp scope own js cl s H H2.objs.size fp) [] (pick own.length js σ) H' s' ∧ tn i s'.heap ∧ (∀ b ∈ fp, H' b = none) ∧ W i n H') ?_ m0 ⟨0, _, I1, t1, fr0, w0⟩
    rintro n s4 ⟨i, H4, I4, st4, fr4, w4⟩
    have noP : ∀ p ∈ ([] : List (Addr × Obj)), p.1 ∉ fp := fun p hp => nomatch hp
    rcases turn i n H4 w4 with ⟨stop, qn⟩ | ⟨go, step⟩
    · refine thn (T.done (X.comp scope own js cl s H H2.objs.size fp) rfl rfl rfl hc i [] s4 _ H4 (fun _ _ => False) I4 (stat fr4 noP) st4 stop) fun r s5 ⟨hr, I5⟩ => ?_
      subst hr
      exact hRR _ _ H4 s5 hCle I5 qn
    · refine thn (T.item (X.comp scope own js cl s H H2.objs.size fp) rfl rfl rfl hc i [] s4 _ H4 (fun _ _ => False) I4 (stat fr4 noP) st4 go) fun r s5 ⟨u, hr, h5⟩ => ?_
      subst hr
      refine thn h5 fun _ s6 ⟨x, H6, I6, r6, y6, st6, fr6⟩ => ?_
      have I6' := I6.pinned (stat fr6 noP) (T.obj _ _ st6)
      have again : ∀ {σ7 : St} {H7 : Hp} {s7 : Shared} {m' : Nat}, Wk (pick own.length js σ) σ7 → Inv (X.comp scope own js cl s H H2.objs.size fp) ([] ++ pinsAt fp s6.heap) σ7 H7 s7 → m' < n → W (i + 1) m' H7 →
          ∃ m, m < n ∧ ∃ i H', Inv (X.comp scope own js cl s H H2.objs.size fp) [] (pick own.length js σ) H' s7 ∧ tn i s7.heap ∧ (∀ b ∈ fp, H' b = none) ∧ W i m H' := fun {σ7 H7 s7 m'} wk I7 hm w7 => by
        refine ⟨m', hm, i + 1, H7, (I7.unpinned).weak wk.1 wk.2, T.keep _ _ _ st6 fun b hb o e => (I7.pin (b, o) (List.mem_append_right _ (List.mem_append_right _ (mem_pinsAt hb e)))).1, fun b hb => ?_, w7⟩
        obtain ⟨o, e, d⟩ := T.obj _ _ st6 b hb
        exact (I7.pin (b, o) (List.mem_append_right _ (List.mem_append_right _ (mem_pinsAt hb e)))).2.1
      refine thn (hg cl s H H2.objs.size fp _ s6 _ H6 x u _ I6' r6 (step x H6 y6)) fun _ s7 ⟨σ7, H7, I7, wk7, q7⟩ => ?_
      refine thn (hi cl s H H2.objs.size fp _ s7 σ7 H7 _ I7 q7) fun ok s8 ⟨H8, I8, q8⟩ => ?_
      cases ok with
      | false =>
        obtain ⟨m', hm, w8⟩ := (show ∃ m', m' < n ∧ W (i + 1) m' H8 from by simpa using q8)
        exact again wk7 I8 hm w8
      | true =>
        have q8 : te σ7 H8 fun y H4 => ∃ ys, H4 s.heap.objs.size = some (.lst ys) ∧ ys.length < sizeLine ∧ ∃ m', m' < n ∧ W (i + 1) m' (upd H4 s.heap.objs.size (.lst (ys ++ [y]))) := by simpa using q8
        refine thn (he cl s H H2.objs.size fp _ s8 σ7 H8 _ I8 q8) fun yv s9 ⟨y, H9, I9, r9, ys, hy, hz, m', hm, w9⟩ => ?_
        refine thn (mt_append (X := X.comp scope own js cl s H H2.objs.size fp) _ s9 σ7 H9 (.ref s.heap.objs.size) [y] (.ref s.heap.objs.size) [yv] (fun _ H' => W (i + 1) m' H') I9 rfl (.cons r9 .nil) ⟨_, ys, y, rfl, rfl, hy, hz, w9⟩) fun _ s10 ⟨_, H10, I10, _, w10⟩ => ?_
        exact again wk7 I10 hm w10
  exact codeAny_compStart_list (loop _ rfl) (T.self X.A 0 _ _ _ t1 (loop _ rfl))

theorem pe_comp {sc : Scope} {N : List Str} (own : List Str) (js : List Nat) (hsc : X.env.scope = sc) (hNN : X.N = N) (S0 : CompScopeN sc N scope js) (hc : X.calm = true) (hit : PI X tg iter wi)
    (hg : ∀ cl s H C fp, PG (X.comp scope own js cl s H C fp) tg g) (hi : ∀ cl s H C fp, PIfs (X.comp scope own js cl s H C fp) ifs c) (he : ∀ cl s H C fp, PE (X.comp scope own js cl s H C fp) elt te)
    (hs : ∀ x, foldedSetIterable iter X.env x = pure x := by intro _; rfl) : PE X (.ListComp elt [⟨tg, iter, ifs, 0⟩] scope pos) (tComp own.length js wi g c te) := by
  intro pins s σ H Q I h
  have S : CompScope X scope own js := S0.cs hsc hNN
  obtain ⟨cl, hcl0, hcl, hcl2⟩ := closure_ok (env := X.env) (scope := scope) fun n hn => I.ok.has n (S.free _ hn rfl)
  rw [eval_ListComp]
  refine wpAny_comprehension_free (use := none) rfl hs hcl0 S.kind S.names (thn (hit pins s σ H _ I h) fun xv s1 h1 => thn h1 fun itv s2 h2 => ?_)
  obtain ⟨it, fp, tn, J, H2, e, I2, T, st2, f2, q2⟩ := h2
  subst e
  refine comp_core (RR := fun acc C => compPost (model X.prog X.w) X.A X.xe none (EP X pins σ Q) acc C) hc S I2 T st2 f2 hcl hcl2 hg hi he q2 fun acc C H' s' hC J' q' => ?_
  obtain ⟨m, hn, _⟩ := J'.loc
  exact ⟨m, hn, fun h' hs' => ⟨.ref acc, H', comp_gone I2 hC (comp_leave I2 f2 J') J'.free hs', rfl, q'⟩⟩

end
end L2

namespace L2
open PySem PySem.Spec PyProof.Rows

noncomputable def Ite (K : PySem.W.Frag) (a : Addr) : It :=
  ⟨fun i H => ∃ xs x, SqL K H a xs ∧ xs[i]? = some x, fun i H x H' => ∃ p v, x = .ref p ∧ H p = none ∧ H' = upd H p (.tup [.int (i : Nat), v]) ∧ ∀ xs, SqL K H a xs → xs[i]? = some v, fun i H => ∃ xs, SqL K H a xs ∧ xs.length ≤ i⟩
theorem turn_enum {P : Program} {w : World} {K : PySem.W.Frag} {es : List Expr} {k : _} {pos : Pos} (a e it : Addr) (hne : e ≠ it) : Turn P w K (.Tuple es k pos) (Ite K a) [e, it] e (fun i h => (∃ old, IsEnum h e it (i : Nat) old) ∧ h.IsListIter it a i) where
  mem := by simp
  obj := fun i h st b hb => by
    obtain ⟨⟨old, he⟩, o, e1, c, d⟩ := st
    rcases List.mem_cons.mp hb with q | q
    · subst q
      exact ⟨_, he, fun v z => by
        have z' : Data.fields _ = Data.cell v := z
        cases z'⟩
    · have q : b = it := by simpa using q
      subst q
      exact ⟨o, e1, fun v z => by rw [d] at z; cases z⟩
  keep := fun i h h' st k => ⟨by obtain ⟨⟨old, he⟩, _⟩ := st; exact ⟨old, k e (by simp) _ he⟩, st.2.at fun o q => k it (by simp) o q⟩
  item := by
    intro X hP hw hK hc i pins s σ H E I hf st hg
    subst hP hw hK
    obtain ⟨xs, x, hq, hx⟩ := hg
    obtain ⟨its, rv, p, hz⟩ := I.list hq
    obtain ⟨u, hu, ru⟩ := rv.get hx
    obtain ⟨⟨old, he⟩, hit⟩ := st
    refine wpAny_pyNext_enum_item he hit p.isList (x := u) (by simpa using hu) hne fun h' ho hit' ht hsz hk => ?_
    refine ⟨_, rfl, wpAny_letOwnedTupleGo_enum ho fun h2 he2 hs2 => ?_⟩
    have hTe : s.heap.objs.size ≠ e := Nat.ne_of_gt (Heap.lt_size he)
    have hk2 : ∀ b o, b ∉ [e, it] → s.heap.get? b = some o → h2.get? b = some o := fun b o hb q => (hs2.2 b (fun z => hb (by simp [z]))).trans (hk b o (fun z => hb (by simp [z])) (fun z => hb (by simp [z])) q)
    have hT : h2.get? s.heap.objs.size = some { cls := .type "tuple", data := .seq #[.int i s.toks, u] } := (hs2.2 _ hTe).trans ht
    have hTn : H s.heap.objs.size = none := I.hok.fresh (Nat.le_refl _)
    have ne : ∀ b o, H b = some o → b ≠ s.heap.objs.size := fun b o q z => by rw [z, hTn] at q; cases q
    have nch : ∀ b o, H b = some o → b ∉ [e, it] := fun b o q z => by rw [(hf b z).1] at q; cases q
    have up : ∀ b o, H b = some o → upd H s.heap.objs.size (.tup [.int (i : Nat), x]) b = some o := fun b o q => by rw [upd_ne (ne b o q)]; exact q
    have I1 : Inv X pins σ (upd H s.heap.objs.size (.tup [.int (i : Nat), x])) { s with heap := h2, toks := s.toks + 1 } := by
      refine I.step (g' := s.gens) (d' := s.drawn) (ch := [e, it]) (fun b hb => ?_) (fun b o _ _ hb q _ => hk2 b o hb q) (fun b o _ _ hb q _ => ⟨o.slots, hk2 b o hb q⟩) (fun b o hb q n => ?_) (fun b o hb q => ⟨o, hk2 b o hb q⟩)
        (fun b xs q => up b _ q) (fun b o u q => up b _ q) (fun b ps q => ⟨#[], by rw [up b _ q]; simp⟩) (fun m hm => ?_) (fun b u q => ?_) I.bare
      · obtain ⟨f0, f1, f2, f3, f4, f5⟩ := hf b hb
        exact ⟨f3, f1, f4, f5⟩
      · rw [upd_ne (Nat.ne_of_lt (Heap.lt_size q))]; exact n
      · obtain ⟨o, es, ep, ho, r⟩ := hm
        exact ⟨o, es, ep, hk2 _ o (fun z => (hf _ z).2.1 rfl) ho, r⟩
      · by_cases hb : b = s.heap.objs.size
        · subst hb
          rw [upd_same] at q
          cases q
          exact ⟨by show 2 ≤ sizeLine; decide, [.int i s.toks, u], .cons ⟨_, rfl⟩ (.cons ru .nil), _, hT, rfl, 0, rfl⟩
        · rw [upd_ne hb] at q
          refine (I.hok b u q).stay (fun c v hc q' => hk2 c v ?_ q') (fun c q' => up c _ q') fun c xs q' => up c _ q'
          rcases hc with z | z
          · subst z; exact nch _ _ q
          · exact nch _ _ z
    refine ⟨.ref s.heap.objs.size, _, I1, rfl, ⟨_, x, rfl, hTn, rfl, fun ys hy => by rw [I.list_inj hy hq]; exact hx⟩, ⟨⟨u, by simpa using he2⟩, ?_⟩, fun b hb => ?_⟩
    · exact hit'.extBut hs2.extBut (Ne.symm hne)
    · have hb' : b ≠ s.heap.objs.size := by
        rcases List.mem_cons.mp hb with q | q
        · rw [q]; exact hTe.symm
        · have q : b = it := by simpa using q
          obtain ⟨o, q1, _⟩ := hit
          rw [q]; exact Nat.ne_of_lt (Heap.lt_size q1)
      rw [upd_ne hb']; exact (hf b hb).1
  done := by
    intro X hP hw hK hc i pins s σ H E I hf st hg
    subst hP hw hK
    obtain ⟨xs, hq, hx⟩ := hg
    obtain ⟨its, rv, p, hz⟩ := I.list hq
    obtain ⟨⟨old, he⟩, hit⟩ := st
    obtain ⟨f0, f1, f2, f3, f4, f5⟩ := hf it (by simp)
    have hl := rv.length
    exact wpAny_pyNext_enum_end (I.ok.hd hc) he hit p.isList (by simp; omega) fun h' eb => ⟨rfl, I.turned (t' := s.toks) (fun b o hb e => eb b o hb e) f0 f1 f3 f4 f5⟩
  self := fun _ _ _ _ _ st h => by
    obtain ⟨⟨old, he⟩, _⟩ := st
    exact wpAny_pyIter_enum he h

section
variable {X : Cx}
noncomputable def iEnum (K : PySem.W.Frag) (ta : TA) : TI := fun σ H R => ta σ H fun vs H1 => ∃ a, vs = [.ref a] ∧ (∃ xs, SqL K H1 a xs) ∧ R (Ite K a) H1
theorem pi_enum {es : List Expr} {k : _} {tpos : Pos} {a : Expr} {ta : TA} {p pos : Pos} (hg : Gl X "enumerate") (hm : X.mg "enumerate" = none) (ha : PA X [a] ta) (hs : starEach [a] X.env = [(false, eval a X.env)] := by rfl) : PI X (.Tuple es k tpos) (.Call (.Name "enumerate" p) [a] [] pos) (iEnum X.K ta) := by
  intro pins s σ H R I h
  refine Call_ (ld_blt I hg hm boot_enumerate (PyProof.Rows.callWith_type1 (thn (ha pos pins s σ H _ I h) fun us s1 ⟨vs, H1, I1, r1, q1⟩ => ?_) hs rfl))
  obtain ⟨l, e, ⟨xs, hq⟩, q⟩ := q1
  subst e
  obtain ⟨u, rfl, ru⟩ := r1.one
  cases ru
  obtain ⟨its, rv, pl, hz⟩ := I1.list hq
  refine call_enumerate_list pl.isList fun h' he hit hsz hk => wpAny_pyIter_enum (i := 0) (old := .none) (by simpa using he) ?_
  have I2 : Inv X pins σ H1 { s1 with heap := h' } := I1.kept (t' := s1.toks) hk
  refine ⟨s1.heap.objs.size + 1, [s1.heap.objs.size + 1, s1.heap.objs.size], _, _, H1, rfl, I2, turn_enum l _ _ (Nat.succ_ne_self _), ⟨⟨.none, by simpa using he⟩, hit⟩, fun b hb => ?_, q⟩
  have hb' : s1.heap.objs.size ≤ b := by
    rcases List.mem_cons.mp hb with q | q
    · rw [q]; exact Nat.le_succ _
    · have q : b = s1.heap.objs.size := by simpa using q
      rw [q]; exact Nat.le_refl _
  exact I1.fpOk hb' (I1.hok.fresh hb')

mutual
inductive DR (K : PySem.W.Frag) (H : Hp) : V → PyData → Prop
  | non : DR K H .non .none
  | bl (b : Bool) : DR K H (.bl b) (.bool b)
  | int (i : Int) : DR K H (.int i) (.int i)
  | str (x : Str) : DR K H (.str x) (.str x)
  | lst {a : Addr} {xs : List V} {ds : List PyData} : SqL K H a xs → DRs K H xs ds → DR K H (.ref a) (.list ds)
  | tup {a : Addr} {xs : List V} {ds : List PyData} : SqT K H a xs → DRs K H xs ds → DR K H (.ref a) (.tuple ds)
inductive DRs (K : PySem.W.Frag) (H : Hp) : List V → List PyData → Prop
  | nil : DRs K H [] []
  | cons {x : V} {d : PyData} {xs : List V} {ds : List PyData} : DR K H x d → DRs K H xs ds → DRs K H (x :: xs) (d :: ds)
end
mutual
theorem DR.reads {pins : List (Addr × Obj)} {σ : St} {H : Hp} {s : Shared} (I : Inv X pins σ H s) : ∀ {x : V} {d : PyData} {u : Value}, DR X.K H x d → RelV x u → ∃ as, Reads s.heap u d as
  | _, _, _, .non, r => by cases (show _ = Value.none from r); exact ⟨_, .none⟩
  | _, _, _, .bl b, r => by cases (show _ = Value.bool b from r); exact ⟨_, .bool b⟩
  | _, _, _, .int i, r => by obtain ⟨t, rfl⟩ := r; exact ⟨_, .int i t⟩
  | _, _, _, .str x, r => by obtain ⟨t, rfl⟩ := r; exact ⟨_, .str x t⟩
  | _, _, _, .lst (a := a) h hs, r => by
    cases (show _ = Value.ref a from r)
    obtain ⟨its, rv, p, hz⟩ := I.list h
    obtain ⟨o, h1, h2, n, h3⟩ := p.isList
    obtain ⟨as, ra⟩ := DRs.reads I hs rv
    exact ⟨_, .list h1 h2 h3 (by simpa using ra)⟩
  | _, _, _, .tup (a := a) h hs, r => by
    cases (show _ = Value.ref a from r)
    obtain ⟨its, rv, p, hz⟩ := I.tuple h
    obtain ⟨o, h1, h2, n, h3⟩ := p
    obtain ⟨as, ra⟩ := DRs.reads I hs rv
    exact ⟨_, .tuple h1 h2 h3 (by simpa using ra)⟩
theorem DRs.reads {pins : List (Addr × Obj)} {σ : St} {H : Hp} {s : Shared} (I : Inv X pins σ H s) : ∀ {xs : List V} {ds : List PyData} {us : List Value}, DRs X.K H xs ds → Vals xs us → ∃ as, ReadsAll s.heap us ds as
  | _, _, _, .nil, r => by cases r; exact ⟨_, .nil⟩
  | _, _, _, .cons h hs, r => by
    cases r with
    | cons r1 r2 =>
      obtain ⟨as, ra⟩ := DR.reads I h r1
      obtain ⟨bs, rb⟩ := DRs.reads I hs r2
      exact ⟨_, .cons ra rb⟩
end
open PySem.SeqAt in
noncomputable def rEqD (K : PySem.W.Frag) (neg : Bool) : R2 := fun x y H Q => ∃ d e, DR K H x d ∧ DR K H y e ∧ shaped d = true ∧ shaped e = true ∧ Q (.bl (if neg then !PyData.eqv d e else PyData.eqv d e)) H
theorem op_eqD {k : Nat} (hr : Room k X.A) : OpR X (compareOp .Eq) (rEqD X.K false) := by
  intro pins s σ H x y v u Q I rx ry h
  obtain ⟨d, e, h1, h2, s1, s2, q⟩ := h
  obtain ⟨as, ra⟩ := h1.reads I rx
  obtain ⟨bs, rb⟩ := h2.reads I ry
  exact eq_dataH ra rb s1 s2 hr.units ⟨.bl (PyData.eqv d e), H, I, rfl, q⟩
theorem op_neD {k : Nat} (hr : Room k X.A) : OpR X (compareOp .NotEq) (rEqD X.K true) := by
  intro pins s σ H x y v u Q I rx ry h
  obtain ⟨d, e, h1, h2, s1, s2, q⟩ := h
  obtain ⟨as, ra⟩ := h1.reads I rx
  obtain ⟨bs, rb⟩ := h2.reads I ry
  exact ne_dataH ra rb s1 s2 hr.units ⟨.bl (!PyData.eqv d e), H, I, rfl, q⟩

end

theorem Same.tup {K : PySem.W.Frag} {H H' : Hp} {a : Addr} {xs : List V} (e : Same H H') (h : SqT K H a xs) : SqT K H' a xs := by
  rcases h with (h | ⟨o, h⟩) | h
  · exact .inl (.inl (e _ _ h))
  · exact .inl (.inr ⟨o, e _ _ h⟩)
  · exact .inr h
mutual
theorem DR.same {K : PySem.W.Frag} {H H' : Hp} (e : Same H H') : ∀ {x : V} {d : PyData}, DR K H x d → DR K H' x d
  | _, _, .non => .non
  | _, _, .bl b => .bl b
  | _, _, .int i => .int i
  | _, _, .str x => .str x
  | _, _, .lst h hs => .lst (e.seq h) (DRs.same e hs)
  | _, _, .tup h hs => .tup (e.tup h) (DRs.same e hs)
theorem DRs.same {K : PySem.W.Frag} {H H' : Hp} (e : Same H H') : ∀ {xs : List V} {ds : List PyData}, DRs K H xs ds → DRs K H' xs ds
  | _, _, .nil => .nil
  | _, _, .cons h hs => .cons (DR.same e h) (DRs.same e hs)
end
theorem DRs.ints {K : PySem.W.Frag} {H : Hp} : ∀ ns : List Int, DRs K H (ns.map V.int) (ns.map PyData.int)
  | [] => .nil
  | n :: ns => .cons (.int n) (DRs.ints ns)
theorem same_new {H : Hp} {p : Addr} (h : H p = none) (o : HO) : Same H (upd H p o) := fun b u q => by rw [upd_ne (ne_of_none q h)]; exact q
end L2

namespace L2
open PySem PySem.Spec PyProof.Rows

structure Dfn (P : Program) (w : World) (K : PySem.W.Frag) (mg : Str → Option Value) (base : Heap) (k : Nat) (x : Str) (ps : List Str) (sp : Sp) : Prop where
  ex : ∃ f fd, FnOk P w K mg base CX0 k f fd ps sp ∧ Binds K fd ps [] ∧ PySem.W.keepIn K (.ref f) = true ∧ mg x = some (.ref f)
section
variable {P : Program} {w : World} {K : PySem.W.Frag} {mg : Str → Option Value} {base : Heap}
theorem Dfn.mono {j k : Nat} {x : Str} {ps : List Str} {sp : Sp} (D : Dfn P w K mg base j x ps sp) (h : j ≤ k) : Dfn P w K mg base k x ps sp := by
  obtain ⟨f, fd, F, b, kp, m⟩ := D.ex
  exact ⟨f, fd, F.mono h, b, kp, m⟩
theorem Dfn.of {k : Nat} {x qual : Str} {st : Stmt} {f : Addr} {fd : FuncData} {N ps : List Str} {sp : Sp} (F : Fun K x qual st f fd) (b : Binds K fd ps []) (m : mg x = some (.ref f)) (S : FnScope N ps (defScope st)) (len : ∀ vs H Q E, sp vs H Q E → vs.length = ps.length)
    (hbody : ∀ (cdv : Value) (A : Around) (outer : List Env) (s : Shared) (H : Hp) (vs : List V) (Q : VK) (E : XK), Room k (A.deeper (envOfC qual (defScope st) s.heap.objs.size f cdv)) → sp vs H Q E →
      ∃ t, PSs (cxOf CX0 P w K mg base N qual (defScope st) f cdv A outer s H E).nox (defBody st) t ∧ t { nx := fun _ H' => Q .non H', rt := Q } (start N vs) H) : Dfn P w K mg base (k + 1) x ps sp :=
  ⟨f, fd, F.ok S len hbody, b, F.kp, m⟩
end
theorem pe_def {X : Cx} {k j : Nat} {x : Str} {ps : List Str} {sp : Sp} {e : Expr} {es : List Expr} {t : TA} {p pos : Pos} (D : Dfn X.prog X.w X.K X.mg X.base k x ps sp) (hr : Room j X.A) (hj : k ≤ j) (hg : Gl X x) (ha : PA X (e :: es) t)
    (hdb : (x == ("__debug__" : Str)) = false := by decide) (he : starEach (e :: es) X.env = (false, eval e X.env) :: starEach es X.env := by rfl) (hpl : (backTo pos (starEach es X.env)).any (·.1) = false := by rfl) :
    PE X (.Call (.Name x p) (e :: es) [] pos) (tCall sp [] E0 t) := by
  obtain ⟨f, fd, F, b, kp, m⟩ := D.ex
  exact pe_call F (hr.mono hj) hg m kp b .nil pass0 ha hdb he hpl

noncomputable def CW (n : Nat) (acc : Addr) (Pv : Nat → List V → Hp → Prop) : Nat → Nat → Hp → Prop := fun i m H => m = n - i ∧ i ≤ n ∧ ∃ ys, H acc = some (.lst ys) ∧ Pv i ys H
noncomputable def CSkip (n : Nat) (acc : Addr) (Pv : Nat → List V → Hp → Prop) (i : Nat) (H : Hp) : Prop := ∃ m', m' < n - i ∧ CW n acc Pv (i + 1) m' H
noncomputable def CPut (n : Nat) (acc : Addr) (Pv : Nat → List V → Hp → Prop) (i : Nat) (y : V) (H : Hp) : Prop := ∃ ys, H acc = some (.lst ys) ∧ ys.length < sizeLine ∧ ∃ m', m' < n - i ∧ CW n acc Pv (i + 1) m' (upd H acc (.lst (ys ++ [y])))
noncomputable def CP (H1 : Hp) (F : Nat → List V) : Nat → List V → Hp → Prop := fun i ys H => Same H1 H ∧ ys = F i
section
variable {n i : Nat} {acc : Addr} {H1 H H' : Hp} {F : Nat → List V} {y : V}
theorem cput (hlt : i < n) (hacc : H1 acc = none) (S : Same H1 H) (h0 : H acc = some (.lst (F i))) (s : Same H H') (e : F (i + 1) = F i ++ [y]) (hz : (F i).length < sizeLine) : CPut n acc (CP H1 F) i y H' :=
  ⟨F i, s acc _ h0, hz, n - (i + 1), by omega, rfl, hlt, F i ++ [y], upd_same, fun b o q => by
    rw [upd_ne (ne_of_none q hacc)]; exact s b o (S b o q), e.symm⟩
theorem cskip (hlt : i < n) (S : Same H1 H) (h0 : H acc = some (.lst (F i))) (s : Same H H') (e : F (i + 1) = F i) : CSkip n acc (CP H1 F) i H' :=
  ⟨n - (i + 1), by omega, rfl, hlt, F i, s acc _ h0, S.trans s, e.symm⟩
end
section
variable {K : PySem.W.Frag} {m : Nat} {js : List Nat} {g : TG} {c : TT} {te : TE} {σ : St} {H1 : Hp} {Q : VK}
theorem comp_list {a : Addr} {xs : List V} (hx : SqL K H1 a xs) (F : Nat → List V) (hF : F 0 = [])
    (turn : ∀ acc i x H, H1 acc = none → i < xs.length → xs[i]? = some x → Same H1 H → H acc = some (.lst (F i)) → g x (pick m js σ) H fun σ2 H2 => Wk (pick m js σ) σ2 ∧ c σ2 H2 fun b H3 => if b = true then te σ2 H3 fun y H4 => CPut xs.length acc (CP H1 F) i y H4 else CSkip xs.length acc (CP H1 F) i H3)
    (hQ : ∀ acc H, H1 acc = none → Same H1 H → H acc = some (.lst (F xs.length)) → Q (.ref acc) H) : tCompR m js g c te (Itl K a) σ H1 Q := by
  intro acc hacc
  refine ⟨CW xs.length acc (CP H1 F), ⟨_, rfl, Nat.zero_le _, [], upd_same, same_new hacc _, hF.symm⟩, ?_⟩
  rintro i m' H ⟨rfl, hi, ys, h0, S, rfl⟩
  have q := S.seq hx
  by_cases hlt : i < xs.length
  · refine .inr ⟨⟨xs, xs[i], q, by simp [hlt]⟩, fun x H' y => ?_⟩
    obtain ⟨e, y⟩ := y
    subst e
    exact turn acc i x _ hacc hlt (y xs q) S h0
  · have e : i = xs.length := by omega
    subst e
    exact .inl ⟨⟨xs, q, Nat.le_refl _⟩, hQ acc H hacc S h0⟩
theorem comp_enum {a : Addr} {xs : List V} (hx : SqL K H1 a xs) (F : Nat → List V) (hF : F 0 = [])
    (turn : ∀ acc i x p H, H1 acc = none → i < xs.length → xs[i]? = some x → Same H1 H → H acc = some (.lst (F i)) → H p = none → g (.ref p) (pick m js σ) (upd H p (.tup [.int (i : Nat), x])) fun σ2 H2 => Wk (pick m js σ) σ2 ∧ c σ2 H2 fun b H3 => if b = true then te σ2 H3 fun y H4 => CPut xs.length acc (CP H1 F) i y H4 else CSkip xs.length acc (CP H1 F) i H3)
    (hQ : ∀ acc H, H1 acc = none → Same H1 H → H acc = some (.lst (F xs.length)) → Q (.ref acc) H) : tCompR m js g c te (Ite K a) σ H1 Q := by
  intro acc hacc
  refine ⟨CW xs.length acc (CP H1 F), ⟨_, rfl, Nat.zero_le _, [], upd_same, same_new hacc _, hF.symm⟩, ?_⟩
  rintro i m' H ⟨rfl, hi, ys, h0, S, rfl⟩
  have q := S.seq hx
  by_cases hlt : i < xs.length
  · refine .inr ⟨⟨xs, xs[i], q, by simp [hlt]⟩, fun x H' y => ?_⟩
    obtain ⟨p, v, e, hp, e2, y⟩ := y
    subst e e2
    exact turn acc i v p _ hacc hlt (y xs q) S h0 hp
  · have e : i = xs.length := by omega
    subst e
    exact .inl ⟨⟨xs, q, Nat.le_refl _⟩, hQ acc H hacc S h0⟩
theorem comp_range {lo : Int} {n : Nat} (F : Nat → List V) (hF : F 0 = [])
    (turn : ∀ acc i H, H1 acc = none → i < n → Same H1 H → H acc = some (.lst (F i)) → g (.int (lo + (i : Nat))) (pick m js σ) H fun σ2 H2 => Wk (pick m js σ) σ2 ∧ c σ2 H2 fun b H3 => if b = true then te σ2 H3 fun y H4 => CPut n acc (CP H1 F) i y H4 else CSkip n acc (CP H1 F) i H3)
    (hQ : ∀ acc H, H1 acc = none → Same H1 H → H acc = some (.lst (F n)) → Q (.ref acc) H) : tCompR m js g c te (Itr lo n) σ H1 Q := by
  intro acc hacc
  refine ⟨CW n acc (CP H1 F), ⟨_, rfl, Nat.zero_le _, [], upd_same, same_new hacc _, hF.symm⟩, ?_⟩
  rintro i m' H ⟨rfl, hi, ys, h0, S, rfl⟩
  by_cases hlt : i < n
  · refine .inr ⟨hlt, fun x H' y => ?_⟩
    obtain ⟨e, y⟩ := y
    subst e y
    exact turn acc i _ hacc hlt S h0
  · have e : i = n := by omega
    subst e
    exact .inl ⟨Nat.le_refl _, hQ acc H hacc S h0⟩
end
theorem int_eq {i j : Int} : decide (V.int i = V.int j) = (i == j) := dec_int
theorem atI_int {ns : List Int} {k : Int} (h0 : 0 ≤ k) (h : k < (ns.length : Int)) : atI (ns.map V.int) k = some (.int (ns.getD k.toNat 0)) := by
  have hk : k.toNat < ns.length := by omega
  have ek : k = ((k.toNat : Nat) : Int) := by omega
  have q : atI (ns.map V.int) ((k.toNat : Nat) : Int) = some (.int ns[k.toNat]) := atI_nat (by rw [List.getElem?_map, List.getElem?_eq_getElem hk] <;> rfl)
  rw [← ek] at q
  rw [q, List.getD_eq_getElem?_getD, List.getElem?_eq_getElem hk]; rfl
theorem ints_get {ns : List Int} {i : Nat} {x : V} (h : (ns.map V.int)[i]? = some x) : x = .int (ns.getD i 0) := by
  rw [List.getElem?_map] at h
  cases e : ns[i]? with
  | none => rw [e] at h; cases h
  | some n => rw [e] at h; cases h; rw [List.getD_eq_getElem?_getD, e]; rfl
theorem small {n : Nat} (h : n ≤ 1000) : n ≤ sizeLine := Nat.le_of_lt (small1000 h)
theorem lay_ints : ∀ ns : List Int, PyData.canLayAll0 (ns.map PyData.int) = true
  | [] => rfl
  | n :: ns => by
    show (PyData.canLay0 (.int n) && PyData.canLayAll0 (ns.map PyData.int)) = true
    rw [lay_ints ns]; rfl
theorem depth_ints : ∀ ns : List Int, PyData.depthAll (ns.map PyData.int) = 0
  | [] => rfl
  | n :: ns => by
    show max (PyData.depth (.int n)) (PyData.depthAll (ns.map PyData.int)) = 0
    rw [depth_ints ns]; rfl
theorem shaped_ints (ns : List Int) : PySem.SeqAt.shaped (.list (ns.map PyData.int)) = true := by
  unfold PySem.SeqAt.shaped
  rw [show PyData.canLay0 (.list (ns.map PyData.int)) = true from lay_ints ns]
  rw [show PyData.depth (.list (ns.map PyData.int)) = 0 + 1 from by rw [← depth_ints ns]; rfl]
  rfl
theorem eqv_ints : ∀ ns ms : List Int, PyData.eqvAll (ns.map PyData.int) (ms.map PyData.int) = decide (ns = ms) := PySem.W.ked_eqvAll
end L2
namespace L2
open PySem PySem.Spec PyProof.Rows
noncomputable def tMid (t u : TS) : TS := fun D σ H => ∃ R : St → Hp → Prop, t { D with nx := R } σ H ∧ ∀ σ' H', R σ' H' → u D σ' H'
theorem pss_mid {X : Cx} {st : Stmt} {rest : List Stmt} {t u : TS} (h1 : PS X st t) (h2 : PSs X rest u) : PSs X (st :: rest) (tMid t u) := by
  intro pins s σ H D I h
  obtain ⟨R, q1, q2⟩ := h
  refine wpAny_execs_cons (thn (h1 pins s σ H { D with nx := R } I q1) fun f s1 q => ?_)
  cases f with
  | next =>
    obtain ⟨σ', H', I', q⟩ := q
    exact h2 pins s1 σ' H' D I' (q2 σ' H' q)
  | ret v => exact q
  | brk => exact q
  | cont => exact q
noncomputable def LookT (t : TT) (σ : St) (H : Hp) (c : Bool) : Prop := ∀ Q : Bool → Hp → Prop, (∀ H', Same H H' → Q c H') → t σ H Q
theorem LookT.pure {t : TT} {σ : St} {H : Hp} {c : Bool} (h : ∀ Q : Bool → Hp → Prop, Q c H → t σ H Q) : LookT t σ H c := fun Q q => h Q (q H (Same.refl H))
theorem lookOr {t u : TT} {σ : St} {H : Hp} {c d : Bool} (h1 : LookT t σ H c) (h2 : c = false → ∀ H1, Same H H1 → LookT u σ H1 d) : LookT (tOr t u) σ H (c || d) := fun Q h => by
  refine h1 _ fun H1 S1 => ?_
  cases c with
  | true => exact iteT (h H1 S1)
  | false => exact iteF (h2 rfl H1 S1 Q fun H2 S2 => h H2 (S1.trans S2))
noncomputable def SameB (l : Addr) (H H' : Hp) : Prop := ∀ b o, b ≠ l → H b = some o → H' b = some o
theorem Same.b {l : Addr} {H H' : Hp} (h : Same H H') : SameB l H H' := fun b o _ e => h b o e
theorem SameB.trans {l : Addr} {H H1 H2 : Hp} (a : SameB l H H1) (b : SameB l H1 H2) : SameB l H H2 := fun c o n h => b c o n (a c o n h)
theorem sameB_upd {l : Addr} {H : Hp} {o : HO} : SameB l H (upd H l o) := fun b u n e => by rw [upd_ne n]; exact e
theorem SameB.same {l : Addr} {H0 H H' : Hp} (h : SameB l H H') (h0 : Same H0 H) (hn : H0 l = none) : Same H0 H' := fun b o e => h b o (ne_of_none e hn) (h0 b o e)
end L2
namespace L2
open PySem PySem.Spec PyProof.Rows
section
variable {X : Cx} (K : PySem.W.Frag) (hK : X.K = K)
include hK
theorem pg_tupK {pos : Pos} {es : List Expr} {k : Nat} {t : TGs} {n : Nat} (hc : X.calm = true) (h : PGs X es t) (hn : (assignEach es X.env).length = n := by rfl) (hst : (assignEach es X.env).findIdx? (·.1) = none := by rfl) : PG X (.Tuple es k pos) (gTup K n t) := by
  subst hK; exact pg_tup hc h hn hst
theorem ix_listK : IxR X (rIxL K) := by subst hK; exact ix_list
end
end L2

namespace OL
open PySem L2

noncomputable def hasF (x y : Int) : Bool := Builtin.bitAnd x y == y
noncomputable def hold (bs : List Int) (lot : Int) (n : Nat) : List Int := ((List.range n).filter fun i => hasF (bs.getD i 0) lot).map fun (i : Nat) => (i : Int)
noncomputable def spHas : Sp := fun vs H Q _ => ∃ x y, vs = [.int x, .int y] ∧ Q (.bl (hasF x y)) H
noncomputable def InB (many : Int) (x : Int) : Prop := 0 ≤ x ∧ x < 2 ^ many.toNat
structure BookOk (many : Int) (bs : List Int) (most top : Int) : Prop where
  lo : 1 ≤ many
  hi : many ≤ most
  len : (bs.length : Int) ≤ top
  bas : ∀ x ∈ bs, InB many x
theorem getD_mem {ds : List Int} {i : Nat} (h : i < ds.length) : ds.getD i 0 ∈ ds := by
  rw [List.getD_eq_getElem?_getD, List.getElem?_eq_getElem h]; exact List.getElem_mem h
end OL

namespace OL
open PySem L2
theorem mod_ok (a : Int) {m : Int} (h0 : 0 < m) (h1 : m < 2 ^ 64) : -(2 ^ 64) < a % m ∧ a % m < 2 ^ 64 := by
  have g0 := Int.emod_nonneg a (show m ≠ 0 by omega)
  have g1 := Int.emod_lt_of_pos a h0
  omega
end OL
namespace OL
open PySem L2
theorem atI_map {ns : List Int} {k : Int} (h0 : 0 ≤ k) (h : k < ((ns.map V.int).length : Int)) : atI (ns.map V.int) k = some (.int (ns.getD k.toNat 0)) := atI_int h0 (by rwa [List.length_map] at h)
end OL
namespace OL
open PySem L2
noncomputable def spLaw (K : PySem.W.Frag) : Sp := fun vs H Q _ => ∃ (a : Addr) (ns : List Int), vs = [.ref a] ∧ SqL K H a (ns.map V.int) ∧ ns.length ≤ 63 ∧ ∀ H', Q (.bl true) H'
theorem yes_of {σ : St} {H : Hp} {A B : Hp → Prop} (h : A H) : tYes σ H fun b H3 => if b = true then A H3 else B H3 := by
  show if true = true then A H else B H
  exact iteT h
theorem seq_if {c : TT} {t u v : TS} {D : Ends} {σ : St} {H : Hp} {b : Bool} (h : LookT c σ H b) (k : ∀ H', Same H H' → if b = true then t { D with nx := v D } σ H' else u { D with nx := v D } σ H') : tSeq (tIfS c t u) v D σ H := h _ k
theorem one_if {c : TT} {t u : TS} {D : Ends} {σ : St} {H : Hp} {b : Bool} (h : LookT c σ H b) (k : ∀ H', Same H H' → if b = true then t D σ H' else u D σ H') : tIfS c t u D σ H := h _ k
theorem take_get {cs : List Int} {i : Nat} (h : i < cs.length) : cs.take (i + 1) = cs.take i ++ [cs.getD i 0] := by
  rw [List.getD_eq_getElem?_getD, List.getElem?_eq_getElem h]
  exact List.take_succ_eq_append_getElem h
end OL

namespace OL
open PySem L2
end OL
namespace L2
open PySem PySem.Spec PyProof.Rows
theorem op_inK {X : Cx} (K : PySem.W.Frag) (hK : X.K = K) : OpR X (compareOp .In) (rIn K false) := by subst hK; exact op_in_seq
end L2

namespace OL
open PySem L2
noncomputable def Th (x : Int) (i : Nat) : Prop := x.toNat.testBit i = true
theorem th_and {x y : Int} (hx : 0 ≤ x) (hy : 0 ≤ y) (i : Nat) : Th (Builtin.bitAnd x y) i ↔ Th x i ∧ Th y i := by
  unfold Th
  rw [PyProof.Rows.bitAnd_pp hx hy, Int.toNat_natCast, Nat.testBit_and, Bool.and_eq_true]
theorem th_ext {x y : Int} (hx : 0 ≤ x) (hy : 0 ≤ y) (h : ∀ i, Th x i ↔ Th y i) : x = y := by
  have e : x.toNat = y.toNat := Nat.eq_of_testBit_eq fun i => by
    have := h i
    unfold Th at this
    cases h1 : x.toNat.testBit i <;> cases h2 : y.toNat.testBit i <;> simp_all
  omega
theorem and_nn {x y : Int} (hx : 0 ≤ x) (hy : 0 ≤ y) : 0 ≤ Builtin.bitAnd x y := by
  rw [PyProof.Rows.bitAnd_pp hx hy]; exact Int.natCast_nonneg _
theorem has_iff {x y : Int} (hx : 0 ≤ x) (hy : 0 ≤ y) : hasF x y = true ↔ ∀ i, Th y i → Th x i := by
  unfold hasF
  rw [beq_iff_eq]
  constructor
  · intro h i hi
    rw [← h] at hi
    exact ((th_and hx hy i).mp hi).1
  · intro h
    exact th_ext (and_nn hx hy) hy fun i => by
      rw [th_and hx hy]
      exact ⟨fun z => z.2, fun z => ⟨h i z, z⟩⟩
theorem InB.th {many x : Int} (h : InB many x) {i : Nat} (hi : Th x i) : i < many.toNat := by
  unfold Th at hi
  have h1 : x.toNat < 2 ^ many.toNat := by
    have : (2 : Int) ^ many.toNat = ((2 ^ many.toNat : Nat) : Int) := by push_cast; rfl
    have := h.2
    have := h.1
    omega
  by_cases hlt : i < many.toNat
  · exact hlt
  · have := Nat.testBit_lt_two_pow (Nat.lt_of_lt_of_le h1 (Nat.pow_le_pow_right (by decide) (Nat.le_of_not_lt hlt)))
    rw [this] at hi
    cases hi
theorem or_pp {x y : Int} (hx : 0 ≤ x) (hy : 0 ≤ y) : Builtin.bitOr x y = ((x.toNat ||| y.toNat : Nat) : Int) := by
  have nn : ∀ z : Int, 0 ≤ z → ¬ 0 ≤ Builtin.bitNot z := fun z hz => by unfold Builtin.bitNot; omega
  have bb : ∀ z : Int, Builtin.bitNot (Builtin.bitNot z) = z := fun z => by unfold Builtin.bitNot; omega
  unfold Builtin.bitOr
  rw [PyProof.Rows.bitAnd_nn (nn x hx) (nn y hy), bb, bb, bb]
theorem th_or {x y : Int} (hx : 0 ≤ x) (hy : 0 ≤ y) (i : Nat) : Th (Builtin.bitOr x y) i ↔ Th x i ∨ Th y i := by
  unfold Th
  rw [or_pp hx hy, Int.toNat_natCast, Nat.testBit_or, Bool.or_eq_true]
theorem or_nn {x y : Int} (hx : 0 ≤ x) (hy : 0 ≤ y) : 0 ≤ Builtin.bitOr x y := by rw [or_pp hx hy]; exact Int.natCast_nonneg _
theorem th_pow (n i : Nat) : Th (1 * 2 ^ n) i ↔ i = n := by
  unfold Th
  have e : (1 * 2 ^ n : Int).toNat = 2 ^ n := by
    have : (2 : Int) ^ n = ((2 ^ n : Nat) : Int) := by push_cast; rfl
    rw [Int.one_mul, this]; exact Int.toNat_natCast _
  rw [e, Nat.testBit_two_pow, decide_eq_true_eq]
  exact eq_comm
structure BasOk (many : Int) (bs : List Int) : Prop where
  bas : ∀ x ∈ bs, InB many x
section
variable {many : Int} {bs : List Int} (hb : ∀ x ∈ bs, InB many x)
include hb
end
end OL
namespace OL
open PySem L2
end OL

namespace L2
open PySem PySem.Spec PyProof.Rows
section
variable {X : Cx}
noncomputable def rangeI (n : Nat) : List Int := (List.range n).map fun (i : Nat) => (i : Int)
end
noncomputable def Row (H : Hp) (x : V) (r : Int × Int) : Prop := ∃ p, x = .ref p ∧ H p = some (.tup [.int r.1, .int r.2])
noncomputable def Rows (H : Hp) : List V → List (Int × Int) → Prop := Paired (Row H)
noncomputable def TSame (H H' : Hp) : Prop := ∀ b xs, H b = some (.tup xs) → H' b = some (.tup xs)
theorem Same.t {H H' : Hp} (h : Same H H') : TSame H H' := fun b xs e => h b _ e
theorem tsame_upd {H : Hp} {l : Addr} {xs : List V} {o : HO} (h : H l = some (.lst xs)) : TSame H (upd H l o) := fun b ys e => by
  rw [upd_ne (ne_of e h (by intro z; cases z))]; exact e
section
variable {n i : Nat} {acc : Addr} {H1 H H' : Hp} {R : Nat → List (Int × Int)} {ys : List V} {p : Addr} {r : Int × Int}
end
section
variable {K : PySem.W.Frag} {m : Nat} {js : List Nat} {g : TG} {c : TT} {te : TE} {σ : St} {H1 : Hp} {Q : VK}
end
end L2

namespace OL
open PySem L2
theorem pow_cast (n : Nat) : (2 : Int) ^ n = ((2 ^ n : Nat) : Int) := by push_cast; rfl
end OL
namespace L2
open PySem PySem.Spec PyProof.Rows
end L2
namespace OL
open PySem L2
end OL

namespace OL
open PySem L2
noncomputable def spMixed : Sp := fun vs H Q _ => ∃ (c k : Int), vs = [.int c, .int k] ∧ ∀ y : Int, 0 ≤ y → Q (.int y) H
noncomputable def spPile (K : PySem.W.Frag) : Sp := fun vs H Q _ => ∃ (a : Addr) (ns : List Int) (k : Int), vs = [.ref a, .int k] ∧ SqL K H a (ns.map V.int) ∧ 0 ≤ k ∧ ∀ (r : Addr) (H' : Hp) (x y z : Int), Same H H' → H r = none → H' r = some (.lst [.int x, .int y, .int z]) → Q (.ref r) H'
noncomputable def spTake : Sp := fun vs H Q _ => ∃ (p : Addr) (m x y z : Int), vs = [.ref p, .int m] ∧ 0 < m ∧ m < 1073741824 ∧ H p = some (.lst [.int x, .int y, .int z]) ∧ ∀ (d x' y' z' : Int) (H' : Hp), 0 ≤ d → d < m → SameB p H H' → H' p = some (.lst [.int x', .int y', .int z']) → Q (.int d) H'
structure BookP (many : Int) (bs : List Int) : Prop where
  lo : 1 ≤ many
  hi : many ≤ 8
  len : bs.length ≤ 14
  bas : ∀ x ∈ bs, InB many x
theorem mul01 (x : Int) (c : Bool) : CMul x (if c = true then 1 else 0) := .inr (by split <;> decide)
end OL

namespace L2
open PySem PySem.Spec PyProof.Rows
theorem mt_bits {X : Cx} : MtR X "int.bit_length" (fun x vs H Q => ∃ i : Int, x = .int i ∧ vs = [] ∧ Q (.int (Builtin.Int.intBits i : Nat)) H) := by
  intro pins s σ H x vs v us Q I rx rv h
  obtain ⟨i, rfl, rfl, q⟩ := h
  obtain ⟨t, rfl⟩ := rx
  cases rv
  exact call_int_bit_length ⟨.int (Builtin.Int.intBits i : Nat), H, I.tok _, ⟨_, rfl⟩, q⟩
end L2
namespace OL
open PySem L2
noncomputable def upto (p : Int → Bool) (n : Nat) : List Int := ((List.range n).filter fun (i : Nat) => p (i : Int)).map fun (i : Nat) => (i : Int)
theorem upto_yes {p : Int → Bool} {n : Nat} (h : p (n : Int) = true) : upto p (n + 1) = upto p n ++ [(n : Int)] := by
  unfold upto
  rw [List.range_succ, List.filter_append, List.map_append, List.filter_cons, if_pos h]; rfl
theorem upto_no {p : Int → Bool} {n : Nat} (h : ¬ p (n : Int) = true) : upto p (n + 1) = upto p n := by
  unfold upto
  rw [List.range_succ, List.filter_append, List.map_append, List.filter_cons, if_neg h]
  exact List.append_nil _
theorem upto_len (p : Int → Bool) (n : Nat) : (upto p n).length ≤ n := by
  unfold upto
  rw [List.length_map]
  have h := List.length_filter_le (fun (i : Nat) => p (i : Int)) (List.range n)
  rw [List.length_range] at h
  exact h
noncomputable def thingsF (lot : Int) : List Int := upto (fun t => hasF lot (1 * 2 ^ t.toNat)) (Builtin.Int.intBits lot)
theorem sub_th {x : Nat} {t : Nat} (h : x.testBit t = true) : x - 2 ^ t = x ^^^ 2 ^ t ∧ 2 ^ t ≤ x := by
  have e1 : (x ^^^ 2 ^ t) ||| 2 ^ t = x := Nat.eq_of_testBit_eq fun i => by
    rw [Nat.testBit_or, Nat.testBit_xor, Nat.testBit_two_pow]
    by_cases e : t = i
    · subst e; simp [h]
    · simp [e]
  have e2 : (x ^^^ 2 ^ t) &&& 2 ^ t = 0 := Nat.eq_of_testBit_eq fun i => by
    rw [Nat.testBit_and, Nat.testBit_xor, Nat.testBit_two_pow]
    by_cases e : t = i
    · subst e; simp [h]
    · simp [e]
  have e3 := PyProof.Rows.nat_or_add_and (x ^^^ 2 ^ t) (2 ^ t)
  rw [e1, e2] at e3
  omega
theorem bits_lt {lot : Int} (h : 0 ≤ lot) {t : Nat} (ht : Th lot t) : t < Builtin.Int.intBits lot := by
  unfold Builtin.Int.intBits
  have h1 : 2 ^ t ≤ lot.toNat := (sub_th ht).2
  have h2 : lot.natAbs = lot.toNat := by omega
  have h3 : 0 < lot.toNat := Nat.lt_of_lt_of_le (Nat.two_pow_pos t) h1
  have h4 : (lot == 0) = false := by rw [beq_eq_false_iff_ne]; omega
  rw [h4, h2]
  simp only [Bool.false_eq_true, if_false]
  have := (Nat.le_log2 (by omega : lot.toNat ≠ 0)).mpr h1
  omega
theorem bits_small {lot : Int} {n : Nat} (h : InB (n : Int) lot) : Builtin.Int.intBits lot ≤ n := by
  unfold Builtin.Int.intBits
  split
  · omega
  · rename_i hz
    have h1 := h.1
    have h2 := h.2
    rw [Int.toNat_natCast, pow_cast] at h2
    have h3 : lot.natAbs < 2 ^ n := by omega
    have h4 : lot.natAbs ≠ 0 := by
      intro z
      have : lot = 0 := by omega
      subst this
      exact hz rfl
    have := (Nat.log2_lt h4).mpr h3
    omega
end OL
namespace OL
open PySem L2
noncomputable def Sm (x : Int) : Prop := 0 ≤ x ∧ x < 4096
theorem Sm.bits {x : Int} (h : Sm x) : Builtin.Int.intBits x ≤ 12 := bits_small (n := 12) ⟨h.1, h.2⟩
noncomputable def spHasT : Sp := fun vs H Q _ => ∃ lot t : Int, vs = [.int lot, .int t] ∧ 0 ≤ t ∧ t ≤ 64 ∧ Q (.bl (hasF lot (1 * 2 ^ t.toNat))) H
noncomputable def spInts (g : Int → List Int) : Sp := fun vs H Q _ => ∃ lot : Int, vs = [.int lot] ∧ Sm lot ∧ ∀ (r : Addr) (H' : Hp), Same H H' → H r = none → H' r = some (.lst ((g lot).map V.int)) → Q (.ref r) H'
theorem few_len {lot : Int} (h : Sm lot) : (thingsF lot).length ≤ 12 := Nat.le_trans (upto_len _ _) h.bits
end OL
namespace OL
open PySem L2
end OL

namespace L2
open PySem PySem.Spec PyProof.Rows
section
variable {X : Cx}
end
section
variable {K : PySem.W.Frag} {m : Nat} {js : List Nat} {g : TG} {c : TT} {te : TE} {σ : St} {H1 : Hp} {Q : VK}
theorem comp_rangeG {lo : Int} {n : Nat} (Pv : Addr → Nat → List V → Hp → Prop) (h0 : ∀ acc, H1 acc = none → Pv acc 0 [] (upd H1 acc (.lst [])))
    (turn : ∀ acc i ys H, H1 acc = none → i < n → H acc = some (.lst ys) → Pv acc i ys H → g (.int (lo + (i : Nat))) (pick m js σ) H fun σ2 H2 => Wk (pick m js σ) σ2 ∧ c σ2 H2 fun b H3 => if b = true then te σ2 H3 fun y H4 => CPut n acc (Pv acc) i y H4 else CSkip n acc (Pv acc) i H3)
    (hQ : ∀ acc ys H, H1 acc = none → H acc = some (.lst ys) → Pv acc n ys H → Q (.ref acc) H) : tCompR m js g c te (Itr lo n) σ H1 Q := by
  intro acc hacc
  refine ⟨CW n acc (Pv acc), ⟨_, rfl, Nat.zero_le _, [], upd_same, h0 acc hacc⟩, ?_⟩
  rintro i m' H ⟨rfl, hi, ys, hy, p⟩
  by_cases hlt : i < n
  · refine .inr ⟨hlt, fun x H' y => ?_⟩
    obtain ⟨e, y⟩ := y
    subst e y
    exact turn acc i ys _ hacc hlt hy p
  · have e : i = n := by omega
    subst e
    exact .inl ⟨Nat.le_refl _, hQ acc ys H hacc hy p⟩
theorem cputG {n i : Nat} {acc : Addr} {Pv : Nat → List V → Hp → Prop} {H : Hp} {ys : List V} {y : V} (hlt : i < n) (h : H acc = some (.lst ys)) (hz : ys.length < sizeLine) (p : Pv (i + 1) (ys ++ [y]) (upd H acc (.lst (ys ++ [y])))) : CPut n acc Pv i y H :=
  ⟨ys, h, hz, n - (i + 1), by omega, rfl, hlt, ys ++ [y], upd_same, p⟩
end
end L2

namespace OL
open PySem L2
noncomputable def colU (bs : List Int) (lot : Int) : Nat → Int
  | 0 => 0
  | n + 1 => if hasF (bs.getD n 0) lot then colU bs lot n + 1 * 2 ^ n else colU bs lot n
noncomputable def lotOf (ps : List Int) : Int := ps.foldl (fun acc p => Builtin.bitOr acc (1 * 2 ^ p.toNat)) 0
noncomputable def spWith : Sp := fun vs H Q _ => ∃ (lot t : Int), vs = [.int lot, .int t] ∧ 0 ≤ t ∧ t ≤ 1000 ∧ Q (.int (Builtin.bitOr lot (1 * 2 ^ t.toNat))) H
noncomputable def spLotOf (K : PySem.W.Frag) : Sp := fun vs H Q _ => ∃ (p : Addr) (ps : List Int), vs = [.ref p] ∧ SqL K H p (ps.map V.int) ∧ (∀ q ∈ ps, 0 ≤ q ∧ q ≤ 1000) ∧ Q (.int (lotOf ps)) H
end OL

namespace L2
open PySem PySem.Spec PyProof.Rows
end L2
namespace OL
open PySem L2
noncomputable def takeB (lot : Int) (r : Int × Int) : Bool := hasF lot r.1 && !hasF lot r.2
noncomputable def ptF (rs : List (Int × Int)) (lot : Int) : Option Nat := rs.findIdx? (takeB lot)
noncomputable def unsat (rs : List (Int × Int)) (lot : Int) : Nat := (rs.filter fun r => !hasF lot r.2).length
noncomputable def sndF (rs : List (Int × Int)) (i : Nat) : Int := (rs.getD i (0, 0)).2
noncomputable def bF (rs : List (Int × Int)) : Nat → Int → Int × List Int
  | 0, lot => (lot, [])
  | n + 1, lot => match ptF rs lot with
    | none => (lot, [])
    | some i => ((bF rs n (Builtin.bitOr lot (sndF rs i))).1, ((i : Nat) : Int) :: (bF rs n (Builtin.bitOr lot (sndF rs i))).2)
section
variable {rs : List (Int × Int)} {lot : Int} {i n : Nat}
structure Run (rs : List (Int × Int)) (lot0 : Int) (m : Nat) (come : Int) (st : List Int) : Prop where
  un : unsat rs come ≤ m
  nn : 0 ≤ come
  eq : bF rs rs.length lot0 = ((bF rs m come).1, st ++ (bF rs m come).2)
  ln : st.length + m ≤ rs.length
end
end OL

namespace OL
open PySem L2
noncomputable def overF (x y : Int) : Bool := (!decide (x = y)) && hasF x y
noncomputable def nextL (ls : List Int) (x y : Int) : Bool := overF x y && (ls.filter fun m => overF x m && overF m y).isEmpty
structure Rise (ls : List Int) : Prop where
  up : ls.Pairwise (· < ·)
  nn : ∀ x ∈ ls, 0 ≤ x
end OL

namespace OL
open PySem L2
noncomputable def Rl (K : PySem.W.Frag) (H : Hp) (r : Addr) (x y : Int) : Prop := SqT K H r [.int x, .int y]
end OL

namespace L2
open PySem PySem.Spec PyProof.Rows
section
variable {X : Cx}
noncomputable def rSumI (K : PySem.W.Frag) : List V → Hp → VK → Prop := fun xs H Q => ∃ (p : Addr) (ns : List Int), xs = [.ref p] ∧ SqL K H p (ns.map V.int) ∧ Q (.int (List.sum ns)) H
theorem call_sumI (hc : X.calm = true) : CallR X (.builtin "sum") (rSumI X.K) := by
  intro pins s σ H xs us Q I r h
  obtain ⟨p, ns, rfl, hq, q⟩ := h
  obtain ⟨u, rfl, ru⟩ := vals1 r
  cases (show u = Value.ref p from ru)
  obtain ⟨its, rv, pl, hz⟩ := I.list hq
  have hi := intsAre_of rv
  obtain ⟨ys, e⟩ := (show PySem.AllInts its.toArray from hi.allInts).items
  have hl := pl.isList
  rw [e] at hl
  refine PySem.sum_intListG (I.ok.hd hc) hl fun h' tk t' kp => ?_
  have es : (numsOf its.toArray.toList).sum = ns.sum := by rw [show its.toArray.toList = its from rfl, hi.numsOf]
  rw [e, nums_intItems] at es
  refine ⟨.int ns.sum, H, I.kept (t' := tk) kp, ⟨t', ?_⟩, q⟩
  rw [preSum_eq, List.take_of_length_le (by simp), ← es]
end
end L2

namespace L2
open PySem PySem.Spec PyProof.Rows
section
variable {κ : Type} [DecidableEq κ]
end


section
variable {P : Program} {w : World} {H : Hp} {h : Heap} {a : Addr}
end

section
variable {X : Cx} {pins : List (Addr × Obj)} {σ : St} {H : Hp} {s : Shared} {a : Addr} {y v : V} {u r : Value} {o : Option V} {A : Around} {E : Value → Shared → Prop}

end

section
variable {X : Cx} {pins : List (Addr × Obj)} {σ : St} {H : Hp} {s : Shared} {a : Addr} {kvs : List (Key × V)} {k : Key} {u : Value} {A : Around} {E : Value → Shared → Prop}
end


section
variable {X : Cx} {o i e value : Expr} {pos pos' tpos : Pos} {td ty tv : TE}
end


section
variable {X : Cx} {pos : Pos}
end

noncomputable def tPairs : List (TE × TE) → St → Hp → (List (V × V) → Hp → Prop) → Prop
  | [], _, H, Q => Q [] H
  | (tk, tv) :: r, σ, H, Q => tk σ H fun x H1 => tv σ H1 fun y H2 => tPairs r σ H2 fun ps H3 => Q ((x, y) :: ps) H3
structure M1 (X : Cx) (o : Expr) (m : Str) (apos : Pos) (e : Expr) (cpos : Pos) : Prop where
  base : attributeBase o m X.env (eval o X.env) = eval o X.env
  few : ((backTo cpos (starEach [e] X.env)).all (fun x => !x.1) && (backToKw cpos (keywordEach [] X.env)).all (fun x => x.1.isSome)
    && decide (([e] : List Expr).length + ([] : List Keyword).length + (if ([] : List Keyword).isEmpty then 0 else 1) < 30)) = true
  line : (apos.endLine == cpos.line) = true
  trees : backTo cpos (starEach [e] X.env) = [(false, eval e X.env)]
structure M2 (X : Cx) (o : Expr) (m : Str) (apos : Pos) (e f : Expr) (cpos : Pos) : Prop where
  base : attributeBase o m X.env (eval o X.env) = eval o X.env
  few : ((backTo cpos (starEach [e, f] X.env)).all (fun x => !x.1) && (backToKw cpos (keywordEach [] X.env)).all (fun x => x.1.isSome)
    && decide (([e, f] : List Expr).length + ([] : List Keyword).length + (if ([] : List Keyword).isEmpty then 0 else 1) < 30)) = true
  line : (apos.endLine == cpos.line) = true
  trees : backTo cpos (starEach [e, f] X.env) = [(false, eval e X.env), (false, eval f X.env)]

section
variable {X : Cx} {pins : List (Addr × Obj)} {σ : St} {H : Hp} {s : Shared} {a : Addr} {y d : V} {u r : Value} {o : Option V} {A : Around} {E : Value → Shared → Prop}
end

section
variable {X : Cx} {o e f : Expr} {apos cpos : Pos} {td ty tx : TE}
end

section
variable {X : Cx} {pins : List (Addr × Obj)} {σ : St} {H : Hp} {s : Shared} {a : Addr} {kvs : List (Key × V)} {A : Around} {E : Value → Shared → Prop}
end


section
variable {X : Cx} {pins : List (Addr × Obj)} {σ : St} {H : Hp} {s : Shared} {a : Addr} {y : V} {u : Value} {A : Around} {E : Value → Shared → Prop}
end
end L2


namespace OL
open PySem L2
noncomputable def popc (n : Nat) : Nat := if h : n = 0 then 0 else n % 2 + popc (n / 2)
termination_by n
decreasing_by omega
section
variable {many : Int} {bs : List Int} (hb : ∀ x ∈ bs, InB many x)
include hb
end
end OL
namespace OL
open PySem L2
end OL

namespace Tim
open PySem PyProof.Rows
section
variable {prog : Program} {w : World} {A : Around} {E : Value → Shared → Prop} {s : Shared} {κ : KeyKind} {kd : SortKind}
noncomputable def ahead (left : Bool) (p : Keyed) (zs : Array Keyed) (i : Nat) : StateT SortSt Sem (Option Bool) := do
  let q ← elem' zs i
  if left then lt' q p else return (← lt' p q).map (!·)
end
end Tim

namespace Tim
open PySem PyProof.Rows
section
variable {κ : KeyKind}
noncomputable def ky (κ : KeyKind) (p : Keyed) : κ.α := (κ.keyOf p.1).getD κ.dflt
noncomputable def le (κ : KeyKind) (p q : Keyed) : Prop := κ.kle (ky κ p) (ky κ q)
structure MI (κ : KeyKind) (A B O : List Keyed) (i j : Nat) : Prop where
  perm : O.Perm (A.take i ++ B.take j)
  srt : O.Pairwise (le κ)
  la : ∀ x ∈ O, ∀ y ∈ A.drop i, le κ x y
  lb : ∀ x ∈ O, ∀ y ∈ B.drop j, le κ x y
variable {A B O : List Keyed} {i j : Nat}
structure MH (κ : KeyKind) (A B R : List Keyed) (i j : Nat) : Prop where
  perm : R.Perm (A.drop i ++ B.drop j)
  srt : R.Pairwise (le κ)
  la : ∀ x ∈ A.take i, ∀ y ∈ R, le κ x y
  lb : ∀ x ∈ B.take j, ∀ y ∈ R, le κ x y
end
end Tim

namespace Tim
open PySem PyProof.Rows
section
variable {κ : KeyKind}
noncomputable def Ri (κ : KeyKind) (zs : Array Keyed) (lo hi : Nat) : Prop := ∀ u v, lo ≤ u → u ≤ v → v < hi → κ.kle (KK κ zs u) (KK κ zs v)
noncomputable abbrev Rn := Nat × Nat × Nat
noncomputable def Runs (κ : KeyKind) (zs : Array Keyed) : List Rn → Nat → Nat → Prop
  | [], a, b => a = b
  | r :: rs, a, b => r.1 = a ∧ 0 < r.2.1 ∧ Ri κ zs a (a + r.2.1) ∧ Runs κ zs rs (a + r.2.1) b
structure Two (κ : KeyKind) (zs : Array Keyed) (a b : Nat) (r q : Rn) : Prop where
  next : q.1 = r.1 + r.2.1
  n1 : 0 < r.2.1
  n2 : 0 < q.2.1
  s1 : Ri κ zs r.1 (r.1 + r.2.1)
  s2 : Ri κ zs q.1 (q.1 + q.2.1)
  lo : a ≤ r.1
  hi : q.1 + q.2.1 ≤ b
end
section
variable {prog : Program} {w : World} {A : Around} {E : Value → Shared → Prop} {s : Shared} {κ : KeyKind} {kd : SortKind}
end
end Tim

namespace Tim
open PySem PyProof.Rows
section
variable {κ : KeyKind}
structure Fr0 (κ : KeyKind) (lo hi : Nat) (zs ys : Array Keyed) : Prop where
  perm : ys.toList.Perm zs.toList
  out : ∀ k, (k < lo ∨ hi ≤ k) → KK κ ys k = KK κ zs k
noncomputable def De (κ : KeyKind) (zs : Array Keyed) (lo hi : Nat) : Prop := ∀ u v, lo ≤ u → u ≤ v → v < hi → κ.kle (KK κ zs v) (KK κ zs u)
variable {lo hi : Nat} {zs ys : Array Keyed}
end
section
variable {prog : Program} {w : World} {A : Around} {E : Value → Shared → Prop} {s : Shared} {κ : KeyKind} {kd : SortKind}
end
end Tim

namespace L2
open PySem PySem.Spec PyProof.Rows
section
variable {X : Cx}
end
end L2

namespace OL
open PySem L2
noncomputable def sz (x : Nat) : Nat := (List.range 12).countP fun t => x.testBit t
theorem lt_bits (x : Nat) : x < 2 ^ Builtin.Int.intBits (x : Int) := by
  by_cases h : x < 2 ^ Builtin.Int.intBits (x : Int)
  · exact h
  · obtain ⟨i, hi, ht⟩ := Nat.exists_ge_and_testBit_of_ge_two_pow (Nat.le_of_not_lt h)
    have := bits_lt (lot := (x : Int)) (Int.natCast_nonneg _) (t := i) (by unfold Th; rwa [Int.toNat_natCast])
    omega
section
variable {many : Int} {bs : List Int} (hb : ∀ x ∈ bs, InB many x)
include hb
end
end OL

namespace OL
open PySem L2
theorem big5 {n : Nat} (h : n ≤ 65000) : n < sizeLine := Nat.lt_of_le_of_lt h (by decide)
end OL

namespace OL
open PySem L2
noncomputable def b12 (n : Nat) (t : Int) : Bool := Builtin.bitAnd ((n : Int) / 2 ^ t.toNat) 1 == 1
end OL

namespace OL
open PySem L2
noncomputable def tw (r : Int × Int) : Int × Int := (r.1, 2 * r.2)
noncomputable def sw (s t i : Nat) : Nat := if i = s then t else if i = t then s else i
theorem pow_nn (s : Nat) : (0 : Int) ≤ 1 * 2 ^ s := by rw [Int.one_mul, pow_cast]; exact Int.natCast_nonneg _
section
variable {many : Int} {bs : List Int} (hb : ∀ x ∈ bs, InB many x) {s t : Int}
include hb
end
end OL

namespace L2
open PySem PySem.Spec PyProof.Rows

theorem cellsFrom_app : ∀ (names : List (Str × NameKind)) (n : Nat) (acc : List (Str × Addr)), cellsFrom n names acc = cellsFrom n names [] ++ acc
  | [], _, _ => rfl
  | (name, kind) :: r, n, acc => by
    unfold cellsFrom
    split
    · rw [cellsFrom_app r (n + 1) ((name, n) :: acc), cellsFrom_app r (n + 1) [(name, n)], List.append_assoc]; rfl
    · exact cellsFrom_app r n acc
theorem cellsFrom_mem : ∀ (names : List (Str × NameKind)) (n : Nat) (acc : List (Str × Addr)) {x : Str} {c : Addr}, (x, c) ∈ cellsFrom n names acc → (x, NameKind.cell) ∈ names ∨ (x, c) ∈ acc
  | [], _, _, _, _, h => .inr h
  | (name, kind) :: r, n, acc, x, c, h => by
    unfold cellsFrom at h
    split at h
    · rename_i hk
      rcases cellsFrom_mem r (n + 1) _ h with z | z
      · exact .inl (List.mem_cons_of_mem _ z)
      · rcases List.mem_cons.mp z with e | z
        · cases e
          have : kind = .cell := by simpa using hk
          subst this
          exact .inl List.mem_cons_self
        · exact .inr z
    · rcases cellsFrom_mem r n _ h with z | z
      · exact .inl (List.mem_cons_of_mem _ z)
      · exact .inr z

theorem lookup_app {l1 l2 : List (Str × Addr)} {x : Str} : (l1 ++ l2).lookup x = match l1.lookup x with | some c => some c | none => l2.lookup x := by
  induction l1 with
  | nil => rfl
  | cons p r ih =>
    obtain ⟨n, c⟩ := p
    rw [List.cons_append, List.lookup_cons, List.lookup_cons]
    cases x == n with
    | true => rfl
    | false => exact ih

theorem wpAny_newFunctionEnv_comp {M : Model} {A : Around} {E : Value → Shared → Prop} {s : Shared} {scope : Scope} {globals : Addr} {cl : List (Str × Addr)} {qual : Str} {env : Env} {Q : Env → Shared → Prop}
    (hQ : Q (newEnv scope s.heap.objs.size globals (cellsFrom (s.heap.objs.size + 1) scope.names cl) qual none .none (some env) builtinsNs) { s with heap := pushCells (s.heap.push { cls := .type "dict", data := .dict #[] }) scope.names }) :
    wpAny M A (newFunctionEnv scope globals cl [] qual none .none (some env)) Q E s := by
  simp only [newFunctionEnv, Option.isSome_some, if_true]
  refine wpAny_bind (wpAny_alloc ?_)
  refine wpAny_bind (wpAny_layCells _ (fun name kind cells => by cases hkc : kind == NameKind.cell <;> simp [hkc]) _ _ _ _ ?_)
  rw [show ({ s with heap := s.heap.push { cls := .type "dict", data := .dict #[] } } : Shared).heap.objs.size = s.heap.objs.size + 1 from Heap.size_push ..]
  refine wpAny_bind ?_
  rw [List.forIn_nil]
  exact wpAny_pure (wpAny_pure hQ)

noncomputable def RelSc (a b : Scope) : Prop := a = b ∨ ∃ env, a = relabel b env
theorem relabel_kept {scope : Scope} {env : Env} {x : Str} (h : scope.names.lookup x = some .cell ∨ scope.names.lookup x = some .free) : (relabel scope env).names.lookup x = some .cell ∨ (relabel scope env).names.lookup x = some .free := by
  have go : ∀ names : List (Str × NameKind), (names.lookup x = some .cell ∨ names.lookup x = some .free) → (names.map fun (n, k) => if (k == NameKind.free && env.scope.kind == .function && env.kindOf n == some .cell) then (n, NameKind.cell) else (n, k)).lookup x = some .cell ∨
      (names.map fun (n, k) => if (k == NameKind.free && env.scope.kind == .function && env.kindOf n == some .cell) then (n, NameKind.cell) else (n, k)).lookup x = some .free := by
    intro names
    induction names with
    | nil => intro h; rcases h with h | h <;> cases h
    | cons p r ih =>
      obtain ⟨n, k⟩ := p
      intro h
      rw [List.lookup_cons] at h
      rw [List.map_cons]
      by_cases hc : (k == NameKind.free && env.scope.kind == .function && env.kindOf n == some .cell) = true
      · simp only [hc, if_true]
        rw [List.lookup_cons]
        cases hx : x == n with
        | true => exact .inl rfl
        | false => rw [hx] at h; exact ih h
      · have hc' : (k == NameKind.free && env.scope.kind == .function && env.kindOf n == some .cell) = false := by simpa using hc
        simp only [hc', Bool.false_eq_true, if_false]
        rw [List.lookup_cons]
        cases hx : x == n with
        | true => rw [hx] at h; exact h
        | false => rw [hx] at h; exact ih h
  exact go _ h

noncomputable def Cx.compC (X : Cx) (scope : Scope) (own : List Str) (js : List Nat) (cl : List (Str × Addr)) (s : Shared) (H : Hp) (C : Addr) (fp : List Addr) : Cx :=
  { prog := X.prog, w := X.w, K := X.K, mg := X.mg, base := X.base, A := X.A, N := own ++ js.map (fun j => X.N.getD j ""), s₀ := s, H₀ := H, env := compEnvC scope cl C X.env, outer := X.stack, stack := X.stack, ex := fp,
    fn := fun x => scope.names.lookup x == some .cell, calm := X.calm, pn := [], xe := fun _ _ => False }
structure CompScopeCN (sc : Scope) (N : List Str) (scope : Scope) (js : List Nat) : Prop where
  kind : scope.kind = .function
  cell : ∀ x ∈ scope.names, x.2 = .cell → scope.names.lookup x.1 = some .cell
  names : ∀ x ∈ scope.names, x.2 = .local → scope.names.lookup x.1 = some .local
  free : ∀ x ∈ scope.names, x.2 = .free → sc.names.lookup x.1 = some .cell ∨ sc.names.lookup x.1 = some .free
  js : ∀ j ∈ js, scope.names.lookup (N.getD j "") ≠ some .local ∧ scope.names.lookup (N.getD j "") ≠ some .cell
structure CompScopeC (X : Cx) (scope : Scope) (own : List Str) (js : List Nat) : Prop where
  kind : scope.kind = .function
  cell : ∀ x ∈ scope.names, x.2 = .cell → scope.names.lookup x.1 = some .cell
  names : ∀ x ∈ scope.names, x.2 = .local → scope.names.lookup x.1 = some .local
  free : ∀ x ∈ scope.names, x.2 = .free → X.env.kindOf x.1 = some .cell ∨ X.env.kindOf x.1 = some .free
  js : ∀ j ∈ js, scope.names.lookup (X.N.getD j "") ≠ some .local ∧ scope.names.lookup (X.N.getD j "") ≠ some .cell

section
variable {X : Cx} {scope : Scope} {own : List Str} {js : List Nat}
theorem CompScopeCN.cs {sc : Scope} {N : List Str} (S : CompScopeCN sc N scope js) (h1 : RelSc X.env.scope sc) (h2 : X.N = N) : CompScopeC X scope own js := by
  subst h2
  refine ⟨S.kind, S.cell, S.names, fun x hx hf => ?_, S.js⟩
  have := S.free x hx hf
  rcases h1 with e | ⟨env, e⟩
  · show X.env.scope.names.lookup _ = _ ∨ X.env.scope.names.lookup _ = _
    rw [e]; exact this
  · show X.env.scope.names.lookup _ = _ ∨ X.env.scope.names.lookup _ = _
    rw [e]; exact relabel_kept this

structure CellsIn (X : Cx) (scope : Scope) (cl : List (Str × Addr)) (C : Addr) (h1 : Heap) : Prop where
  what : ∀ x c, cl.lookup x = some c → (X.env.cells.lookup x = some c ∧ (x, NameKind.cell) ∉ scope.names) ∨ (@LT.lt Nat _ C c ∧ h1.IsCell c none ∧ (x, NameKind.cell) ∈ scope.names)
  inj : ∀ x y c, (x, NameKind.cell) ∈ scope.names → (y, NameKind.cell) ∈ scope.names → cl.lookup x = some c → cl.lookup y = some c → x = y
  has : ∀ n, (n, NameKind.free) ∈ scope.names ∨ (n, NameKind.cell) ∈ scope.names → ∃ c, cl.lookup n = some c

theorem cells_in {cl0 : List (Str × Addr)} {h : Heap} {C : Addr} (S : CompScopeC X scope own js) (hcl : ∀ x c, cl0.lookup x = some c → X.env.cells.lookup x = some c) (hcl2 : ∀ n, (n, NameKind.free) ∈ scope.names → ∃ c, cl0.lookup n = some c)
    (hC : @Eq Nat h.objs.size (C + 1)) : CellsIn X scope (cellsFrom (C + 1) scope.names cl0) C (pushCells h scope.names) := by
  have ok := cellsFrom_ok scope.names h (C + 1) [] ⟨fun _ _ hm => (nomatch hm), List.Pairwise.nil⟩ (Nat.le_of_eq hC.symm)
  rw [hC] at ok
  have cases2 : ∀ x c, (cellsFrom (C + 1) scope.names cl0).lookup x = some c → ((cellsFrom (C + 1) scope.names []).lookup x = some c) ∨ ((cellsFrom (C + 1) scope.names []).lookup x = none ∧ cl0.lookup x = some c) := fun x c e => by
    rw [cellsFrom_app, lookup_app] at e
    cases q : (cellsFrom (C + 1) scope.names []).lookup x with
    | some c' => rw [q] at e; exact .inl e
    | none => rw [q] at e; exact .inr ⟨rfl, e⟩
  have newMem : ∀ x c, (cellsFrom (C + 1) scope.names []).lookup x = some c → (x, NameKind.cell) ∈ scope.names := fun x c e => (cellsFrom_mem _ _ _ (PySem.mem_of_lookup e)).elim id fun z => nomatch z
  have newHas : ∀ x, (x, NameKind.cell) ∈ scope.names → ∃ c, (cellsFrom (C + 1) scope.names []).lookup x = some c := fun x hx => Option.isSome_iff_exists.mp (PySem.W.cellsFrom_some scope.names _ [] (.inl (S.cell _ hx rfl)))
  refine ⟨fun x c e => ?_, fun x y c hx hy e1 e2 => ?_, fun n hn => ?_⟩
  · rcases cases2 x c e with q | ⟨q, e⟩
    · obtain ⟨z1, z2⟩ := ok.empty x c (PySem.mem_of_lookup q)
      exact .inr ⟨z2, z1, newMem x c q⟩
    · refine .inl ⟨hcl x c e, fun hm => ?_⟩
      obtain ⟨c', e'⟩ := newHas x hm
      rw [q] at e'; cases e'
  · have g : ∀ x, (x, NameKind.cell) ∈ scope.names → (cellsFrom (C + 1) scope.names cl0).lookup x = some c → (cellsFrom (C + 1) scope.names []).lookup x = some c := fun x hm e => by
      rcases cases2 x c e with q | ⟨q, e⟩
      · exact q
      · obtain ⟨c', e'⟩ := newHas x hm
        rw [q] at e'; cases e'
    exact name_of_addr ok.apart (PySem.mem_of_lookup (g x hx e1)) (PySem.mem_of_lookup (g y hy e2))
  · rw [cellsFrom_app, lookup_app]
    cases q : (cellsFrom (C + 1) scope.names []).lookup n with
    | some c' => exact ⟨c', rfl⟩
    | none =>
      rcases hn with hn | hn
      · exact hcl2 n hn
      · obtain ⟨c', e'⟩ := newHas n hn
        rw [q] at e'; cases e'

theorem comp_startC {pins : List (Addr × Obj)} {σ : St} {H : Hp} {s : Shared} {cl : List (Str × Addr)} {fp : List Addr} {h1 : Heap} {C : Addr} {m : Str → Option Value} {t1 : Nat} (S : CompScopeC X scope own js) (I : Inv X pins σ H s)
    (hf : ∀ b ∈ fp, FpOk X pins H b ∧ b < s.heap.objs.size)
    (CI : CellsIn X scope cl C h1)
    (hC : @Eq Nat C (s.heap.objs.size + 1)) (hns : h1.Ns C m) (hk : ∀ b o, s.heap.get? b = some o → h1.get? b = some o) (hn : h1.get? s.heap.objs.size = some { cls := .type "list", dict := none, data := .seq ([] : List Value).toArray }) :
    Inv (X.compC scope own js cl s H C fp) [] (pick own.length js σ) (upd H s.heap.objs.size (.lst [])) { s with heap := h1, toks := t1 } := by
  have below : ∀ b, b < s.heap.objs.size → b ≠ C ∧ b ≠ s.heap.objs.size := fun b hb => ⟨Nat.ne_of_lt (Nat.lt_of_lt_of_eq (Nat.lt_succ_of_lt hb) hC.symm), Nat.ne_of_lt hb⟩
  have kinds : ∀ x, ((X.compC scope own js cl s H C fp).env.kindOf x = some .cell ∨ (X.compC scope own js cl s H C fp).env.kindOf x = some .free) → (x, NameKind.free) ∈ scope.names ∨ (x, NameKind.cell) ∈ scope.names := fun x hx => by
    have hx : (relabel scope X.env).names.lookup x = some .cell ∨ (relabel scope X.env).names.lookup x = some .free := hx
    rcases hx with hx | hx
    · obtain ⟨k, q1, q2⟩ := relabel_lookup hx
      rcases q2 with q2 | ⟨q2, _⟩
      · subst q2; exact .inr (PySem.mem_of_lookup q1)
      · exact .inl (q2 ▸ PySem.mem_of_lookup q1)
    · obtain ⟨k, q1, q2⟩ := relabel_lookup hx
      rcases q2 with q2 | ⟨_, q2⟩
      · exact .inl (q2 ▸ PySem.mem_of_lookup q1)
      · cases q2
  have hCle : s.heap.objs.size ≤ C := Nat.le_of_lt (Nat.lt_of_lt_of_eq (Nat.lt_succ_self _) hC.symm)
  have hCne : C ≠ s.heap.objs.size := Nat.ne_of_gt (Nat.lt_of_lt_of_eq (Nat.lt_succ_self _) hC.symm)
  have accn : H s.heap.objs.size = none := I.hok.fresh (Nat.le_refl _)
  have oldLt : ∀ x c, X.env.cells.lookup x = some c → c < s.heap.objs.size := fun x c e => by
    obtain ⟨v, z⟩ := I.cell x c e
    exact z.lt
  have inj : ∀ x y c, cl.lookup x = some c → cl.lookup y = some c → x = y := fun x y c e1 e2 => by
    rcases CI.what x c e1 with ⟨a1, _⟩ | ⟨a1, _, a3⟩ <;> rcases CI.what y c e2 with ⟨b1, _⟩ | ⟨b1, _, b3⟩
    · exact I.ok.inj x y c a1 b1
    · exact absurd (Nat.lt_of_lt_of_le (oldLt x c a1) hCle) (Nat.lt_asymm b1)
    · exact absurd (Nat.lt_of_lt_of_le (oldLt y c b1) hCle) (Nat.lt_asymm a1)
    · exact CI.inj x y c a3 b3 e1 e2
  have cne : ∀ x c b, cl.lookup x = some c → b < s.heap.objs.size → (∀ x c, X.env.cells.lookup x = some c → c ≠ b) → c ≠ b := fun x c b e lt h => by
    rcases CI.what x c e with ⟨a1, _⟩ | ⟨a1, _⟩
    · exact h x c a1
    · exact Nat.ne_of_gt (Nat.lt_trans (Nat.lt_of_lt_of_le lt hCle) a1)
  refine ⟨⟨I.ok.mod, S.kind, I.ok.glob, I.ok.blt, hCle, inj, fun x hx => CI.has x (kinds x hx), fun x c hfn e => ?_, I.ok.hd, I.ok.frames, .inl rfl, fun b hb => ?_, I.bs, Nat.le_trans I.ok.bsz I.sz, fun b o e hb => ?_, fun b hb => ?_, I.stack, I.stkFree⟩,
    rfl, I.bare, ?_, ⟨m, hns, fun i x v e1 e2 e3 => ?_⟩, fun x c e => ?_, ?_, fun x c e => ?_, fun p hp => absurd (show p ∈ ([] : List (Addr × Obj)) from hp) (by simp), ?_, ?_⟩
  · have hfn : (scope.names.lookup x == some .cell) = true := hfn
    have hm := PySem.mem_of_lookup (eq_of_beq hfn)
    rcases CI.what x c e with ⟨_, a1⟩ | ⟨a1, _⟩
    · exact absurd hm a1
    · exact Nat.le_of_lt (Nat.lt_of_le_of_lt hCle a1)
  · obtain ⟨⟨f0, f1, f2, f3, f4, f5⟩, lt⟩ := hf b hb
    exact ⟨(below b lt).1, fun x c e => cne x c b e lt f4⟩
  · obtain ⟨⟨f0, f1, f2, f3, f4, f5⟩, lt⟩ := hf b hb
    rcases f3 with z | z
    · exact I.ok.noex b o e z
    · exact Nat.lt_irrefl _ (Nat.lt_of_lt_of_le (Heap.lt_size e) (Nat.le_trans I.ok.bsz z))
  · obtain ⟨⟨f0, f1, f2, f3, f4, f5⟩, lt⟩ := hf b hb
    exact fun z => (List.mem_cons.mp (I.stkSub b z)).elim f1 f2
  · exact Un.laid hk (Nat.le_refl _) accn
  · have hi : ¬ i < own.length := fun hi => by
      unfold pick at e2
      rw [List.getElem?_append_left (by simpa using hi), List.getElem?_replicate] at e2
      split at e2 <;> cases e2
    unfold pick at e2
    rw [List.getElem?_append_right (by simpa using hi), List.length_replicate] at e2
    have e1 : (own ++ js.map (fun j => X.N.getD j ""))[i]? = some x := e1
    rw [List.getElem?_append_right (by omega)] at e1
    rw [List.getElem?_map] at e1 e2
    cases ej : js[i - own.length]? with
    | none => rw [ej] at e1; cases e1
    | some j =>
      rw [ej] at e1 e2
      have e1 : X.N.getD j "" = x := Option.some.inj e1
      have e2 : (σ[j]?).join = some v := Option.some.inj e2
      have e2' : σ[j]? = some (some v) := by
        cases q : σ[j]? with
        | none => rw [q] at e2; cases e2
        | some o => rw [q] at e2; have : o = some v := e2; rw [this]
      have hj : j < X.N.length := by
        have := (List.getElem?_eq_some_iff.mp e2').1
        rw [I.len] at this; exact this
      have e1' : X.N[j]? = some x := by
        rw [← e1, List.getD_eq_getElem?_getD, List.getElem?_eq_getElem hj]; rfl
      have e3 : Vis (relabel scope X.env) x := e3
      have notl : ¬ (x, NameKind.cell) ∈ scope.names := fun hm => (S.js j (List.mem_of_getElem? ej)).2 (by rw [e1]; exact S.cell _ hm rfl)
      have hfr : (x, NameKind.free) ∈ scope.names := by
        rcases e3 with e3 | e3 | e3
        · obtain ⟨k, q1, q2⟩ := relabel_lookup e3
          rcases q2 with q2 | ⟨_, q2⟩
          · subst q2
            exact absurd (e1 ▸ q1) (S.js j (List.mem_of_getElem? ej)).1
          · cases q2
        · exact (kinds x (.inl e3)).elim id fun z => absurd z notl
        · exact (kinds x (.inr e3)).elim id fun z => absurd z notl
      have hkind := S.free _ hfr rfl
      obtain ⟨m0, hn0, hl0⟩ := I.loc
      have hv : Vis X.env.scope x := by
        rcases hkind with z | z
        · exact .inr (.inl z)
        · exact .inr (.inr z)
      obtain ⟨u, r, lk⟩ := hl0 j x v e1' e2' hv
      refine ⟨u, r, ?_⟩
      rcases lk with ⟨z, _⟩ | ⟨_, c, ec, hc⟩
      · rcases hkind with q | q <;> (rw [z] at q; cases q)
      · obtain ⟨c', ec'⟩ := CI.has x (.inl hfr)
        have : c' = c := by
          rcases CI.what x c' ec' with ⟨a1, _⟩ | ⟨_, _, a3⟩
          · rw [ec] at a1; cases a1; rfl
          · exact absurd a3 notl
        subst this
        refine .inr ⟨?_, c', ec', ?_⟩
        · rcases e3 with e3 | e3 | e3
          · obtain ⟨k, q1, q2⟩ := relabel_lookup e3
            rcases q2 with q2 | ⟨_, q2⟩
            · subst q2
              exact absurd (e1 ▸ q1) (S.js j (List.mem_of_getElem? ej)).1
            · cases q2
          · exact .inl e3
          · exact .inr e3
        · obtain ⟨oc, hoc, hd⟩ := hc
          exact ⟨oc, hk _ _ hoc, hd⟩
  · rcases CI.what x c e with ⟨a1, _⟩ | ⟨_, a2, _⟩
    · obtain ⟨v, oc, hoc, hd⟩ := I.cell x c a1
      exact ⟨v, oc, hk _ _ hoc, hd⟩
    · exact ⟨none, a2⟩
  · show upd H s.heap.objs.size (.lst []) C = none
    rw [upd_ne hCne]
    exact I.hok.fresh hCle
  · rcases CI.what x c e with ⟨a1, _⟩ | ⟨a1, a2, _⟩
    · rw [upd_ne (below c (oldLt x c a1)).2]
      exact I.freeC x c a1
    · rw [upd_ne (Nat.ne_of_gt (Nat.lt_of_le_of_lt hCle a1))]
      exact I.hok.fresh (Nat.le_of_lt (Nat.lt_of_le_of_lt hCle a1))
  · refine I.hok.laid hk (Nat.le_refl _) ⟨by show 0 ≤ sizeLine; exact Nat.zero_le _, [], 0, .nil, ?_⟩
    exact hn
  · unfold pick
    show _ = (own ++ js.map (fun j => X.N.getD j "")).length
    rw [List.length_append, List.length_append, List.length_replicate, List.length_map, List.length_map]
end

section
variable {X : Cx} {scope : Scope} {own : List Str} {js : List Nat} {tg iter elt : Expr} {ifs : List Expr} {pos : Pos} {wi : TI} {g : TG} {c : TT} {te : TE}
theorem comp_leaveC {pins : List (Addr × Obj)} {σ σ' : St} {H H' : Hp} {s s' : Shared} {cl : List (Str × Addr)} {fp : List Addr} {C : Addr} (I : Inv X pins σ H s) (hf : ∀ b ∈ fp, FpOk X pins H b)
    (J : Inv (X.compC scope own js cl s H C fp) [] σ' H' s') : Inv X pins σ H' s' :=
  I.call' (ch := fp) J.os J.base J.hok J.bare fun b hb => by
    obtain ⟨f0, f1, f2, f3, f4, f5⟩ := hf b hb
    exact ⟨f3, f1, f4, f5⟩

theorem comp_coreC {pins : List (Addr × Obj)} {σ : St} {H : Hp} {s : Shared} {cl0 : List (Str × Addr)} {fp : List Addr} {it : Addr} {tn : Nat → Heap → Prop} {J : It} {Q : VK} {E : Value → Shared → Prop} {RR : Value → Addr → Result → Shared → Prop}
    (hc : X.calm = true) (S : CompScopeC X scope own js) (I : Inv X pins σ H s) (T : Turn X.prog X.w X.K tg J fp it tn) (t0 : tn 0 s.heap) (hf : ∀ b ∈ fp, FpOk X pins H b)
    (hcl : ∀ x c, cl0.lookup x = some c → X.env.cells.lookup x = some c) (hcl2 : ∀ n, (n, NameKind.free) ∈ scope.names → ∃ c, cl0.lookup n = some c)
    (hg : ∀ cl s H C fp, PG (X.compC scope own js cl s H C fp) tg g) (hi : ∀ cl s H C fp, PIfs (X.compC scope own js cl s H C fp) ifs c) (he : ∀ cl s H C fp, PE (X.compC scope own js cl s H C fp) elt te)
    (q : tCompR own.length js g c te J σ H Q)
    (hRR : ∀ acc C cl H' s', s.heap.objs.size ≤ C → Inv (X.compC scope own js cl s H C fp) [] (pick own.length js σ) H' s' → Q (.ref acc) H' → RR (.ref acc) C (.ok .next) s') :
    wpAny (model X.prog X.w) X.A (newList []) (fun acc s3 => wpAny (model X.prog X.w) X.A (newFunctionEnv scope X.env.globals cl0 [] X.env.qual none .none (some X.env)) (fun cenv s4 =>
      codeAny (model X.prog X.w) X.A (.compStart (.ListComp elt [⟨tg, iter, ifs, 0⟩] scope pos) 0 (.ref it) acc { cenv with scope := relabel scope X.env }) (RR acc cenv.locals) s4) E s3) E s := by
  refine wpAny_newObj_type (wpAny_newFunctionEnv_comp ?_)
  dsimp only
  generalize hH2 : s.heap.push { cls := .type "list", dict := none, data := .seq ([] : List Value).toArray } = H2
  have hC : @Eq Nat H2.objs.size (s.heap.objs.size + 1) := by rw [← hH2, Heap.size_push]
  have hDC : s.heap.objs.size ≠ H2.objs.size := by rw [hC]; exact Nat.ne_of_lt (Nat.lt_succ_self _)
  have hCle : s.heap.objs.size ≤ H2.objs.size := by rw [hC]; exact Nat.le_succ _
  have CI := cells_in (h := H2.push { cls := .type "dict", data := .dict #[] }) (C := H2.objs.size) S hcl hcl2 (by rw [Heap.size_push])
  have hns1 : (pushCells (H2.push { cls := .type "dict", data := .dict #[] }) scope.names).Ns H2.objs.size fun _ => none := (Heap.Ns.new H2 (.type "dict")).keeps (pushCells_keeps _ _)
  have old2 : ∀ b o, H2.get? b = some o → (pushCells (H2.push { cls := .type "dict", data := .dict #[] }) scope.names).get? b = some o := fun b o e => pushCells_keeps _ _ b o (Heap.get?_push_of_some _ e)
  generalize hh1 : pushCells (H2.push { cls := .type "dict", data := .dict #[] }) scope.names = h1 at CI hns1 old2 ⊢
  generalize hcl' : cellsFrom (H2.objs.size + 1) scope.names cl0 = cl at CI ⊢
  have old : ∀ b o, s.heap.get? b = some o → h1.get? b = some o := fun b o e => old2 b o (hH2 ▸ Heap.get?_push_of_some _ e)
  have hacc : h1.get? s.heap.objs.size = some { cls := .type "list", dict := none, data := .seq ([] : List Value).toArray } := old2 _ _ (hH2 ▸ Heap.get?_push_size _ rfl)
  have hfl : ∀ b ∈ fp, FpOk X pins H b ∧ b < s.heap.objs.size := fun b hb => ⟨hf b hb, by
    obtain ⟨o, e, _⟩ := T.obj 0 s.heap t0 b hb
    exact Heap.lt_size e⟩
  obtain ⟨W, ⟨m0, w0⟩, turn⟩ := q s.heap.objs.size (I.hok.fresh (Nat.le_refl _))
  have I1 := comp_startC (t1 := s.toks) S I hfl CI hC hns1 old hacc
  have t1 : tn 0 h1 := T.keep 0 s.heap h1 t0 fun b _ o e => old b o e
  have stat : ∀ {pins' : List (Addr × Obj)} {H' : Hp}, (∀ b ∈ fp, H' b = none) → (∀ p ∈ pins', p.1 ∉ fp) → ∀ b ∈ fp, FpOk (X.compC scope own js cl s H H2.objs.size fp) pins' H' b := fun hn hp b hb => by
    obtain ⟨⟨f0, f1, f2, f3, f4, f5⟩, lt⟩ := hfl b hb
    refine ⟨hn b hb, Nat.ne_of_lt (Nat.lt_of_lt_of_le lt hCle), fun z => (List.mem_cons.mp (I.stkSub b z)).elim f1 f2, .inl hb, fun x c e => ?_, fun p hp' z => hp p hp' (z ▸ hb)⟩
    rcases CI.what x c e with ⟨a1, _⟩ | ⟨a1, _⟩
    · exact f4 x c a1
    · exact Nat.ne_of_gt (Nat.lt_trans (Nat.lt_of_lt_of_le lt hCle) a1)
  have fr0 : ∀ b ∈ fp, (upd H s.heap.objs.size (.lst [])) b = none := fun b hb => by
    obtain ⟨⟨f0, _⟩, lt⟩ := hfl b hb
    rw [upd_ne (Nat.ne_of_lt lt)]; exact f0
  have loop : ∀ s3 : Shared, s3 = { s with heap := h1 } →
      codeAny (model X.prog X.w) X.A (.compLoop (.ListComp elt [⟨tg, iter, ifs, 0⟩] scope pos) 0 (.ref it) (.ref s.heap.objs.size) (compEnvC scope cl H2.objs.size X.env)) (RR (.ref s.heap.objs.size) H2.objs.size) s3 := by
    rintro s3 rfl
    refine compLoop_any (fun n s' => ∃ i H', Inv (X.compC scope own js cl s H H2.objs.size fp) [] (pick own.length js σ) H' s' ∧ tn i s'.heap ∧ (∀ b ∈ fp, H' b = none) ∧ W i n H') ?_ m0 ⟨0, _, I1, t1, fr0, w0⟩
    rintro n s4 ⟨i, H4, I4, st4, fr4, w4⟩
    have noP : ∀ p ∈ ([] : List (Addr × Obj)), p.1 ∉ fp := fun p hp => nomatch hp
    rcases turn i n H4 w4 with ⟨stop, qn⟩ | ⟨go, step⟩
    · refine thn (T.done (X.compC scope own js cl s H H2.objs.size fp) rfl rfl rfl hc i [] s4 _ H4 (fun _ _ => False) I4 (stat fr4 noP) st4 stop) fun r s5 ⟨hr, I5⟩ => ?_
      subst hr
      exact hRR _ _ _ H4 s5 hCle I5 qn
    · refine thn (T.item (X.compC scope own js cl s H H2.objs.size fp) rfl rfl rfl hc i [] s4 _ H4 (fun _ _ => False) I4 (stat fr4 noP) st4 go) fun r s5 ⟨u, hr, h5⟩ => ?_
      subst hr
      refine thn h5 fun _ s6 ⟨x, H6, I6, r6, y6, st6, fr6⟩ => ?_
      have I6' := I6.pinned (stat fr6 noP) (T.obj _ _ st6)
      have again : ∀ {σ7 : St} {H7 : Hp} {s7 : Shared} {m' : Nat}, Wk (pick own.length js σ) σ7 → Inv (X.compC scope own js cl s H H2.objs.size fp) ([] ++ pinsAt fp s6.heap) σ7 H7 s7 → m' < n → W (i + 1) m' H7 →
          ∃ m, m < n ∧ ∃ i H', Inv (X.compC scope own js cl s H H2.objs.size fp) [] (pick own.length js σ) H' s7 ∧ tn i s7.heap ∧ (∀ b ∈ fp, H' b = none) ∧ W i m H' := fun {σ7 H7 s7 m'} wk I7 hm w7 => by
        refine ⟨m', hm, i + 1, H7, (I7.unpinned).weak wk.1 wk.2, T.keep _ _ _ st6 fun b hb o e => (I7.pin (b, o) (List.mem_append_right _ (List.mem_append_right _ (mem_pinsAt hb e)))).1, fun b hb => ?_, w7⟩
        obtain ⟨o, e, d⟩ := T.obj _ _ st6 b hb
        exact (I7.pin (b, o) (List.mem_append_right _ (List.mem_append_right _ (mem_pinsAt hb e)))).2.1
      refine thn (hg cl s H H2.objs.size fp _ s6 _ H6 x u _ I6' r6 (step x H6 y6)) fun _ s7 ⟨σ7, H7, I7, wk7, q7⟩ => ?_
      refine thn (hi cl s H H2.objs.size fp _ s7 σ7 H7 _ I7 q7) fun ok s8 ⟨H8, I8, q8⟩ => ?_
      cases ok with
      | false =>
        obtain ⟨m', hm, w8⟩ := (show ∃ m', m' < n ∧ W (i + 1) m' H8 from by simpa using q8)
        exact again wk7 I8 hm w8
      | true =>
        have q8 : te σ7 H8 fun y H4 => ∃ ys, H4 s.heap.objs.size = some (.lst ys) ∧ ys.length < sizeLine ∧ ∃ m', m' < n ∧ W (i + 1) m' (upd H4 s.heap.objs.size (.lst (ys ++ [y]))) := by simpa using q8
        refine thn (he cl s H H2.objs.size fp _ s8 σ7 H8 _ I8 q8) fun yv s9 ⟨y, H9, I9, r9, ys, hy, hz, m', hm, w9⟩ => ?_
        refine thn (mt_append (X := X.compC scope own js cl s H H2.objs.size fp) _ s9 σ7 H9 (.ref s.heap.objs.size) [y] (.ref s.heap.objs.size) [yv] (fun _ H' => W (i + 1) m' H') I9 rfl (.cons r9 .nil) ⟨_, ys, y, rfl, rfl, hy, hz, w9⟩) fun _ s10 ⟨_, H10, I10, _, w10⟩ => ?_
        exact again wk7 I10 hm w10
  exact codeAny_compStart_list (loop _ rfl) (T.self X.A 0 _ _ _ t1 (loop _ rfl))

theorem pe_compC {sc : Scope} {N : List Str} (own : List Str) (js : List Nat) (hsc : RelSc X.env.scope sc) (hNN : X.N = N) (S0 : CompScopeCN sc N scope js) (hc : X.calm = true) (hit : PI X tg iter wi)
    (hg : ∀ cl s H C fp, PG (X.compC scope own js cl s H C fp) tg g) (hi : ∀ cl s H C fp, PIfs (X.compC scope own js cl s H C fp) ifs c) (he : ∀ cl s H C fp, PE (X.compC scope own js cl s H C fp) elt te)
    (hs : ∀ x, foldedSetIterable iter X.env x = pure x := by intro _; rfl) : PE X (.ListComp elt [⟨tg, iter, ifs, 0⟩] scope pos) (tComp own.length js wi g c te) := by
  intro pins s σ H Q I h
  have S : CompScopeC X scope own js := S0.cs hsc hNN
  obtain ⟨cl, hcl0, hcl, hcl2⟩ := closure_ok (env := X.env) (scope := scope) fun n hn => I.ok.has n (S.free _ hn rfl)
  rw [eval_ListComp]
  refine wpAny_comprehension_free (use := none) rfl hs hcl0 S.kind S.names (thn (hit pins s σ H _ I h) fun xv s1 h1 => thn h1 fun itv s2 h2 => ?_)
  obtain ⟨it, fp, tn, J, H2, e, I2, T, st2, f2, q2⟩ := h2
  subst e
  refine comp_coreC (RR := fun acc C => compPost (model X.prog X.w) X.A X.xe none (EP X pins σ Q) acc C) hc S I2 T st2 f2 hcl hcl2 hg hi he q2 fun acc C cl' H' s' hC J' q' => ?_
  obtain ⟨m, hn, _⟩ := J'.loc
  exact ⟨m, hn, fun h' hs' => ⟨.ref acc, H', comp_gone I2 hC (comp_leaveC I2 f2 J') J'.free hs', rfl, q'⟩⟩

theorem ps_setCompC {i : Nat} {x : Str} {pos' spos : Pos} (hN : X.N.Nodup) (hi0 : X.N[i]? = some x) (hx : X.env.scope.names.lookup x = some .local) {sc : Scope} {N : List Str} (own : List Str) (js : List Nat) (hsc : RelSc X.env.scope sc) (hNN : X.N = N) (S0 : CompScopeCN sc N scope js) (hc : X.calm = true) (hit : PI X tg iter wi)
    (hg : ∀ cl s H C fp, PG (X.compC scope own js cl s H C fp) tg g) (hi : ∀ cl s H C fp, PIfs (X.compC scope own js cl s H C fp) ifs c) (he : ∀ cl s H C fp, PE (X.compC scope own js cl s H C fp) elt te)
    (hsw : swapsWith (.ListComp elt [⟨tg, iter, ifs, 0⟩] scope pos) (some (.Name x pos')) spos.line X.env = pure true)
    (hs : ∀ x, foldedSetIterable iter X.env x = pure x := by intro _; rfl) : PS X (.Assign [.Name x pos'] (.ListComp elt [⟨tg, iter, ifs, 0⟩] scope pos) spos) (tAsg (tComp own.length js wi g c te) (gName i)) := by
  intro pins s σ H D I h
  have S : CompScopeC X scope own js := S0.cs hsc hNN
  obtain ⟨cl, hcl0, hcl, hcl2⟩ := closure_ok (env := X.env) (scope := scope) fun n hn => I.ok.has n (S.free _ hn rfl)
  rw [exec_Assign_Name_used _ _ _ _ hsw]
  refine wpAny_bind (wpAny_standAt (wpAny_bind ?_))
  show wpAny _ X.A (do let _ ← comprehension (.ListComp elt [⟨tg, iter, ifs, 0⟩] scope pos) scope X.env _ (newList []) false (eval iter X.env) (some (assign (.Name x pos') X.env))) _ _ s
  refine wpAny_bind (wpAny_mono (wpAny_comprehension_free (use := some (assign (.Name x pos') X.env)) (Q := fun _ s' => SP X pins D .next s') rfl hs hcl0 S.kind S.names
    (thn (hit pins s σ H _ I h) fun xv s1 h1 => thn h1 fun itv s2 h2 => ?_)) (fun _ s' hq => wpAny_pure (wpAny_pure hq)) fun _ _ e => e)
  obtain ⟨it, fp, tn, J, H2, e, I2, T, st2, f2, q2⟩ := h2
  subst e
  refine comp_coreC (RR := fun acc C => compPost (model X.prog X.w) X.A X.xe (some (assign (.Name x pos') X.env)) (fun _ s' => SP X pins D .next s') acc C) hc S I2 T st2 f2 hcl hcl2 hg hi he q2 fun acc C cl' H' s' hC J' q' => ?_
  obtain ⟨m, hn, _⟩ := J'.loc
  have I3 := comp_leaveC I2 f2 J'
  show wpAny _ X.A (assign (.Name x pos') X.env (.ref acc)) _ _ _
  refine wpAny_assign_Name (store_ok2 I3 hN hi0 (.inl hx) (v := .ref acc) rfl (fun s4 I4 hsb => ?_) (.inr hx))
  obtain ⟨a, sb, ha⟩ := hsb
  have hCa : C ≠ a := by
    rcases ha with ha | ha
    · rw [ha]; exact Nat.ne_of_gt (Nat.lt_of_lt_of_le I2.lt hC)
    · obtain ⟨v, z⟩ := I2.cell x a ha
      exact Nat.ne_of_gt (Nat.lt_of_lt_of_le z.lt hC)
  refine ⟨m, hn.sameBut sb hCa, fun h' hs' => ⟨_, H', comp_gone I2 hC I4 J'.free hs', q'⟩⟩
end
end L2

namespace OL
open PySem L2
structure LeastOf (ns T : List Int) : Prop where
  rise : T.Pairwise (· < ·)
  mem : ∀ x, x ∈ T ↔ x ∈ ns ∧ ∀ y ∈ ns, hasF x y = true → y = x
  len : T.length ≤ ns.length
  below : ∀ y ∈ ns, ∃ t ∈ T, hasF y t = true
noncomputable def crossB (ls : List Int) (x : Int) : Bool := ls.all fun o => decide (0 < Builtin.bitAnd x o)
noncomputable def crossL (many : Int) (ls : List Int) : List Int := (rangeI (2 ^ many.toNat)).filter (crossB ls)
end OL

namespace OL
open PySem L2
noncomputable def LookE (t : TE) (σ : St) (H : Hp) (v : V) : Prop := ∀ Q : VK, (∀ H', Same H H' → Q v H') → t σ H Q
theorem LookE.pure {t : TE} {σ : St} {H : Hp} {v : V} (h : ∀ Q : VK, Q v H → t σ H Q) : LookE t σ H v := fun Q q => h Q (q H (Same.refl H))
noncomputable def CTurn (m : Nat) (js : List Nat) (g : TG) (c : TT) (te : TE) (σ : St) (v : V) (H2 : Hp) (b : Bool) (R : Hp → V → Prop) : Prop :=
  ∀ (PUT : V → Hp → Prop) (SKIP : Hp → Prop), (b = true → ∀ y H', Same H2 H' → R H' y → PUT y H') → (b = false → ∀ H', Same H2 H' → SKIP H') →
    g v (pick m js σ) H2 fun σ2 H3 => Wk (pick m js σ) σ2 ∧ c σ2 H3 fun k H4 => if k = true then te σ2 H4 fun y H5 => PUT y H5 else SKIP H4
section
variable {K : PySem.W.Frag} {m : Nat} {js : List Nat} {g : TG} {c : TT} {te : TE} {σ : St} {H1 : Hp} {Q : VK} {α : Type}
theorem paired_take {F : V → α → Prop} {xs : List V} {as : List α} (h : Paired F xs as) {i : Nat} {v : V} (hv : xs[i]? = some v) : ∃ x, as[i]? = some x ∧ F v x := by
  induction h generalizing i with
  | nil => simp at hv
  | cons z r ih =>
    cases i with
    | zero => simp at hv; subst hv; exact ⟨_, rfl, z⟩
    | succ i => simpa using ih (by simpa using hv)
theorem take_at {as : List α} {i : Nat} {x : α} (h : as[i]? = some x) : as.take (i + 1) = as.take i ++ [x] := by
  obtain ⟨hi, e⟩ := List.getElem?_eq_some_iff.mp h
  rw [← e]; exact List.take_succ_eq_append_getElem hi
theorem filt_len {p : α → Bool} {as : List α} {i : Nat} : ((as.take i).filter p).length ≤ as.length := Nat.le_trans (List.length_filter_le _ _) (by rw [List.length_take]; exact Nat.min_le_right _ _)
theorem filt_yes {p : α → Bool} {as : List α} {i : Nat} {x : α} (h : as[i]? = some x) (c : p x = true) : (as.take (i + 1)).filter p = (as.take i).filter p ++ [x] := by
  rw [take_at h, List.filter_append, List.filter_cons, if_pos c]; rfl
theorem filt_no {p : α → Bool} {as : List α} {i : Nat} {x : α} (h : as[i]? = some x) (c : p x = false) : (as.take (i + 1)).filter p = (as.take i).filter p := by
  rw [take_at h, List.filter_append, List.filter_cons, if_neg (by rw [c]; decide)]; simp
theorem compA_list {a : Addr} {xs : List V} {as : List α} {Re : V → α → Prop} (hx : SqL K H1 a xs) (hp : Paired Re xs as) (p : α → Bool) (Rl : Hp → V → α → Prop) (hst : ∀ H H' y x, TSame H H' → Rl H y x → Rl H' y x) (hz : as.length ≤ 65000)
    (turn : ∀ x v H2, x ∈ as → Re v x → Same H1 H2 → CTurn m js g c te σ v H2 (p x) fun H' y => Rl H' y x)
    (hQ : ∀ acc ys H', H1 acc = none → Same H1 H' → H' acc = some (.lst ys) → Paired (Rl H') ys (as.filter p) → Q (.ref acc) H') : tCompR m js g c te (Itl K a) σ H1 Q := by
  intro acc hacc
  have hl := Paired.length hp
  refine ⟨CW xs.length acc (fun i ys H => Same H1 H ∧ Paired (Rl H) ys ((as.take i).filter p)), ⟨_, rfl, Nat.zero_le _, [], upd_same, same_new hacc _, .nil⟩, ?_⟩
  rintro i m' H ⟨rfl, hi, ys, h0, S, hR⟩
  have q := S.seq hx
  by_cases hlt : i < xs.length
  · refine .inr ⟨⟨xs, xs[i], q, by simp [hlt]⟩, fun v H' y => ?_⟩
    obtain ⟨e, y⟩ := y
    subst e
    obtain ⟨x, hxa, hre⟩ := paired_take hp (y xs q)
    have hyl := Paired.length hR
    have hfl : ((as.take i).filter p).length ≤ as.length := filt_len
    refine turn x v _ (List.mem_of_getElem? hxa) hre S _ _ (fun cc y' H5 s r => ?_) (fun cc H4 s => ?_)
    · refine ⟨ys, s acc _ h0, big5 (by omega), xs.length - (i + 1), by omega, rfl, hlt, ys ++ [y'], upd_same, fun b o z => ?_, ?_⟩
      · rw [upd_ne (ne_of_none z hacc)]; exact s b o (S b o z)
      · have ts : TSame H5 (upd H5 acc (.lst (ys ++ [y']))) := tsame_upd (s acc _ h0)
        rw [filt_yes hxa cc]
        exact Paired.snoc (Paired.imp' (fun _ _ z => hst _ _ _ _ ts (hst _ _ _ _ s.t z)) hR) (hst _ _ _ _ ts r)
    · refine ⟨xs.length - (i + 1), by omega, rfl, hlt, ys, s acc _ h0, S.trans s, ?_⟩
      rw [filt_no hxa cc]
      exact Paired.imp' (fun _ _ z => hst _ _ _ _ s.t z) hR
  · have e : i = xs.length := by omega
    subst e
    rw [hl, List.take_length] at hR
    exact .inl ⟨⟨xs, q, Nat.le_refl _⟩, hQ acc ys H hacc S h0 hR⟩
theorem compA_range {lo : Int} {n : Nat} (p : Nat → Bool) (Rl : Hp → V → Nat → Prop) (hst : ∀ H H' y x, TSame H H' → Rl H y x → Rl H' y x) (hz : n ≤ 65000)
    (turn : ∀ x H2, x < n → Same H1 H2 → CTurn m js g c te σ (.int (lo + (x : Nat))) H2 (p x) fun H' y => Rl H' y x)
    (hQ : ∀ acc ys H', H1 acc = none → Same H1 H' → H' acc = some (.lst ys) → Paired (Rl H') ys ((List.range n).filter p) → Q (.ref acc) H') : tCompR m js g c te (Itr lo n) σ H1 Q := by
  intro acc hacc
  refine ⟨CW n acc (fun i ys H => Same H1 H ∧ Paired (Rl H) ys ((List.range i).filter p)), ⟨_, rfl, Nat.zero_le _, [], upd_same, same_new hacc _, .nil⟩, ?_⟩
  rintro i m' H ⟨rfl, hi, ys, h0, S, hR⟩
  by_cases hlt : i < n
  · refine .inr ⟨hlt, fun v H' y => ?_⟩
    obtain ⟨e, y⟩ := y
    subst e y
    have hyl := Paired.length hR
    have hfl : ((List.range i).filter p).length ≤ i := Nat.le_trans (List.length_filter_le _ _) (by simp)
    refine turn i _ hlt S _ _ (fun cc y' H5 s r => ?_) (fun cc H4 s => ?_)
    · refine ⟨ys, s acc _ h0, big5 (by omega), n - (i + 1), by omega, rfl, hlt, ys ++ [y'], upd_same, fun b o z => ?_, ?_⟩
      · rw [upd_ne (ne_of_none z hacc)]; exact s b o (S b o z)
      · have ts : TSame H5 (upd H5 acc (.lst (ys ++ [y']))) := tsame_upd (s acc _ h0)
        rw [List.range_succ, List.filter_append, List.filter_cons, if_pos cc]
        exact Paired.snoc (Paired.imp' (fun _ _ z => hst _ _ _ _ ts (hst _ _ _ _ s.t z)) hR) (hst _ _ _ _ ts r)
    · refine ⟨n - (i + 1), by omega, rfl, hlt, ys, s acc _ h0, S.trans s, ?_⟩
      rw [List.range_succ, List.filter_append, List.filter_cons, if_neg (by rw [cc]; decide), List.filter_nil, List.append_nil]
      exact Paired.imp' (fun _ _ z => hst _ _ _ _ s.t z) hR
  · have e : i = n := by omega
    subst e
    exact .inl ⟨Nat.le_refl _, hQ acc ys H hacc S h0 hR⟩
theorem paired_map {β : Type} {f : β → V} : ∀ {ys : List V} {as : List β}, Paired (fun y x => y = f x) ys as → ys = as.map f
  | _, _, .nil => rfl
  | _, _, .cons h r => by rw [h, paired_map r]; rfl
theorem paired_ints : ∀ ns : List Int, Paired (fun v (n : Int) => v = V.int n) (ns.map V.int) ns
  | [] => .nil
  | n :: r => .cons rfl (paired_ints r)
theorem compV_list {a : Addr} {ns : List Int} (hx : SqL K H1 a (ns.map V.int)) (p : Int → Bool) (f : Int → V) (hz : ns.length ≤ 65000)
    (turn : ∀ x H2, x ∈ ns → Same H1 H2 → CTurn m js g c te σ (.int x) H2 (p x) fun _ y => y = f x)
    (hQ : ∀ acc H', H1 acc = none → Same H1 H' → H' acc = some (.lst ((ns.filter p).map f)) → Q (.ref acc) H') : tCompR m js g c te (Itl K a) σ H1 Q :=
  compA_list hx (paired_ints ns) p (fun _ y x => y = f x) (fun _ _ _ _ _ z => z) hz (fun x v H2 hm e S => e ▸ turn x H2 hm S) fun acc ys H' h0 S h1 hp => hQ acc H' h0 S (by rw [h1, paired_map hp])
theorem compV_range {n : Nat} (p : Nat → Bool) (f : Nat → V) (hz : n ≤ 65000)
    (turn : ∀ x H2, x < n → Same H1 H2 → CTurn m js g c te σ (.int (x : Nat)) H2 (p x) fun _ y => y = f x)
    (hQ : ∀ acc H', H1 acc = none → Same H1 H' → H' acc = some (.lst (((List.range n).filter p).map f)) → Q (.ref acc) H') : tCompR m js g c te (Itr 0 n) σ H1 Q :=
  compA_range p (fun _ y x => y = f x) (fun _ _ _ _ _ z => z) hz (fun x H2 hm S => by rw [Int.zero_add]; exact turn x H2 hm S) fun acc ys H' h0 S h1 hp => hQ acc H' h0 S (by rw [h1, paired_map hp])
end
theorem turn_pick {js : List Nat} {c : TT} {te : TE} {σ : St} {v y : V} {H2 : Hp} {b : Bool} {R : Hp → V → Prop} (hc : LookT c ((pick 1 js σ).set 0 (some v)) H2 b) (he : b = true → ∀ H3, Same H2 H3 → LookE te ((pick 1 js σ).set 0 (some v)) H3 y) (hR : b = true → ∀ H3, Same H2 H3 → R H3 y) : CTurn 1 js (gName 0) c te σ v H2 b R := by
  intro PUT SKIP h1 h2
  refine ⟨(Wk.refl _).set (by decide), hc _ fun H3 S3 => ?_⟩
  cases b with
  | true => exact iteT (he rfl H3 S3 _ fun H4 S4 => h1 rfl _ _ (S3.trans S4) (hR rfl _ (S3.trans S4)))
  | false => exact iteF (h2 rfl _ S3)
theorem look_yes {σ : St} {H : Hp} : LookT tYes σ H true := .pure fun Q h => h
theorem filter_true {α : Type} (l : List α) : l.filter (fun _ => true) = l := by simp
end OL

namespace OL.W41
open PySem L2 OL
theorem nnP (t : Nat) : (0 : Int) ≤ 1 * 2 ^ t := by
  have : (0 : Int) < 2 ^ t := Int.pow_pos (by decide)
  omega
theorem th_w {x : Int} (h : 0 ≤ x) (t i : Nat) : Th (Builtin.bitOr x (1 * 2 ^ t)) i ↔ Th x i ∨ i = t := by rw [th_or h (nnP t), th_pow]
theorem has_th' {lot : Int} (h : 0 ≤ lot) (t : Nat) : hasF lot (1 * 2 ^ t) = true ↔ Th lot t := by
  rw [has_iff h (nnP t)]
  constructor
  · exact fun z => z t ((th_pow t t).mpr rfl)
  · intro z i hi
    rw [(th_pow t i).mp hi]; exact z
theorem mem_things {lot : Int} (h : 0 ≤ lot) {x : Int} : x ∈ thingsF lot ↔ ∃ t : Nat, Th lot t ∧ x = (t : Int) := by
  unfold thingsF upto
  rw [List.mem_map]
  constructor
  · rintro ⟨t, ht, rfl⟩
    have this : hasF lot (1 * 2 ^ t) = true := (List.mem_filter.mp ht).2
    exact ⟨t, (has_th' h t).mp this, rfl⟩
  · rintro ⟨t, ht, rfl⟩
    exact ⟨t, List.mem_filter.mpr ⟨List.mem_range.mpr (bits_lt h ht), (has_th' h t).mpr ht⟩, rfl⟩
theorem things_up (lot : Int) : (thingsF lot).Pairwise (· < ·) := by
  unfold thingsF upto
  rw [List.pairwise_map]
  exact (List.pairwise_lt_range.filter _).imp fun {a b} h => Int.ofNat_lt.mpr h
end OL.W41

namespace OL
open PySem L2
structure Sho (d : PyData) (n k : Nat) : Prop where
  show' : d.showable = true
  nodict : d.hasDict = false
  short : d.leavesShort 13 = true
  bulk : d.bulk ≤ n
  depth : d.depth ≤ k
  lay : d.canLay0 = true
structure ShoAll (ds : List PyData) (n k : Nat) : Prop where
  show' : PyData.showableAll ds = true
  nodict : PyData.hasDictAll ds = false
  short : PyData.leavesShortAll 13 ds = true
  bulk : PyData.bulkAll ds ≤ n
  depth : PyData.depthAll ds ≤ k
  lay : PyData.canLayAll0 ds = true
theorem ne_str {d : PyData} {H : Hp} {Q : Bool → Hp → Prop} (q : Q false H) : rNe (.str d.shown) (.str d.shown) H fun x H' => ∃ k, x = .bl k ∧ Q k H' := by
  refine ⟨rfl, _, rfl, ?_⟩
  rw [show decide (V.str d.shown = V.str d.shown) = true from decide_eq_true rfl]; exact q
theorem ne_data {K : PySem.W.Frag} {H : Hp} {x y : V} {d : PyData} {Q : Bool → Hp → Prop} (hx : DR K H x d) (hy : DR K H y d) (hs : PySem.SeqAt.shaped d = true) (he : PyData.eqv d d = true) (q : Q false H) : rEqD K true x y H fun v H' => ∃ k, v = .bl k ∧ Q k H' := by
  refine ⟨d, d, hx, hy, hs, hs, _, rfl, ?_⟩
  rw [he]; exact q
theorem ne_ints {K : PySem.W.Frag} {H : Hp} {a b : Addr} {ns ms : List Int} {Q : VK} (ha : SqL K H a (ns.map V.int)) (hb : SqL K H b (ms.map V.int)) (q : Q (.bl (!decide (ns = ms))) H) : rEqD K true (.ref a) (.ref b) H Q := by
  refine ⟨_, _, .lst ha (DRs.ints _), .lst hb (DRs.ints _), shaped_ints _, shaped_ints _, ?_⟩
  have e : PyData.eqv (.list (ns.map PyData.int)) (.list (ms.map PyData.int)) = decide (ns = ms) := eqv_ints ns ms
  rw [e]; exact q
theorem ne_nil' {K : PySem.W.Frag} {H : Hp} {a : Addr} {ns : List Int} {Q : VK} (ha : H a = some (.lst (ns.map V.int))) (q : ∀ H', Same H H' → Q (.bl (!ns.isEmpty)) H') : ([] : List V).length ≤ sizeLine ∧ ∀ p, H p = none → rEqD K true (.ref a) (.ref p) (upd H p (.lst [])) Q := by
  refine ⟨(by show 0 ≤ sizeLine; decide), fun p hp => ?_⟩
  refine ne_ints (ns := ns) (ms := []) (SqL.of (same_new hp _ _ _ ha)) (SqL.of upd_same) ?_
  rw [show decide (ns = []) = ns.isEmpty by cases ns <;> rfl]
  exact q _ (same_new hp _)
theorem nil_len : ([] : List V).length ≤ sizeLine := by show 0 ≤ sizeLine; decide
end OL

namespace OL
open PySem L2
theorem has_th {lot : Int} (h : 0 ≤ lot) (t : Nat) : hasF lot (1 * 2 ^ t) = true ↔ Th lot t := by
  have p0 : (0 : Int) ≤ 1 * 2 ^ t := by
    have : (0 : Int) < 2 ^ t := Int.pow_pos (by decide)
    omega
  rw [has_iff h p0]
  constructor
  · exact fun z => z t ((th_pow t t).mpr rfl)
  · intro z i hi
    rw [(th_pow t i).mp hi]; exact z
end OL

namespace OL
open PySem L2
noncomputable def lessL (b : Int) (bs : List Int) : List Int := bs.map fun o => b - Builtin.bitAnd b o
noncomputable def Made (many : Int) (bs : List Int) (M cs : List Int) : Prop := (∀ m ∈ M, ∃ b ∈ cs, ∃ T, LeastOf (crossL many (lessL b bs)) T ∧ m ∈ T) ∧ ∀ b ∈ cs, ∃ T, LeastOf (crossL many (lessL b bs)) T ∧ ∀ t ∈ T, t ∈ M
end OL

namespace OL
open PySem L2
theorem mem_thingsF {lot : Int} (h : 0 ≤ lot) {x : Int} : x ∈ thingsF lot ↔ ∃ t : Nat, Th lot t ∧ x = (t : Int) := by
  unfold thingsF upto
  rw [List.mem_map]
  constructor
  · rintro ⟨t, ht, rfl⟩
    have this : hasF lot (1 * 2 ^ t) = true := (List.mem_filter.mp ht).2
    exact ⟨t, (has_th h t).mp this, rfl⟩
  · rintro ⟨t, ht, rfl⟩
    refine ⟨t, List.mem_filter.mpr ⟨List.mem_range.mpr ?_, ?_⟩, rfl⟩
    · obtain ⟨n, rfl⟩ : ∃ n : Nat, lot = (n : Int) := ⟨lot.toNat, by omega⟩
      have hlt := lt_bits n
      unfold Th at ht
      rw [Int.toNat_natCast] at ht
      apply Classical.byContradiction
      intro z
      have := Nat.testBit_lt_two_pow (Nat.lt_of_lt_of_le hlt (Nat.pow_le_pow_right (n := 2) (by decide) (Nat.le_of_not_lt z)))
      rw [this] at ht; cases ht
    · exact (has_th h t).mpr ht
section
variable {many : Int} {bs : List Int} {least : Int} (hb : ∀ x ∈ bs, InB many x)
include hb
end
end OL

namespace OL
open PySem L2
noncomputable def longStep (b x : List Int) : List Int := if b.length < x.length then x else b
noncomputable def firstMax (rows : List (List Int)) : List Int := rows.foldl longStep []
noncomputable def endsIn (lot : Int) (r : List Int) : Bool := hasF lot (r.getLastD 0)
noncomputable def rowStep (rows : List (List Int)) (lot : Int) : List (List Int) := rows ++ [firstMax (rows.filter (endsIn lot)) ++ [lot]]
noncomputable def rowsUp (ls : List Int) : List (List Int) := ls.foldl rowStep []
noncomputable def Links (ls : List Int) (r : List Int) : Prop := ∀ i a b, r[i]? = some a → r[i + 1]? = some b → nextL ls b a = true
structure RowOk (ls : List Int) (i : Nat) (r : List Int) : Prop where
  last : ∃ t l, r = t ++ [l] ∧ ls[i]? = some l
  mem : ∀ x ∈ r, x ∈ ls
  link : Links ls r
  len : ∀ j q, j < i → (rowsUp ls)[j]? = some q → overF (ls.getD i 0) (ls.getD j 0) = true → q.length < r.length
theorem paired_self {α : Type} {f : α → V} : ∀ as : List α, Paired (fun v x => v = f x) (as.map f) as
  | [] => .nil
  | _ :: r => .cons rfl (paired_self r)
end OL

namespace L2
open PySem PySem.Spec PyProof.Rows
section
variable {X : Cx}
theorem str_app_nil (x y : Str) (h : (x.length == 0) = true) : x ++ y = y := by
  have e : x.cps = #[] := by
    have h' : x.length = 0 := by simpa using h
    have : x.cps.size = 0 := h'
    exact Array.eq_empty_of_size_eq_zero this
  cases x; cases y
  dsimp only at e
  subst e
  show (Str.mk (#[] ++ _)) = _
  simp
theorem str_nil_app (x y : Str) (h : (y.length == 0) = true) : x ++ y = x := by
  have e : y.cps = #[] := by
    have h' : y.length = 0 := by simpa using h
    have : y.cps.size = 0 := h'
    exact Array.eq_empty_of_size_eq_zero this
  cases x; cases y
  dsimp only at e
  subst e
  show (Str.mk (_ ++ #[])) = _
  simp
noncomputable def rCatS : R2 := fun x y H Q => ∃ a b : Str, x = .str a ∧ y = .str b ∧ (a ++ b).length ≤ sizeLine ∧ Q (.str (a ++ b)) H
theorem op_catS : OpR X (binaryOp .Add) rCatS := by
  intro pins s σ H x y v u Q I rx ry h
  obtain ⟨a, b, rfl, rfl, hz, q⟩ := h
  obtain ⟨t, rfl⟩ := rx
  obtain ⟨t', rfl⟩ := ry
  refine PySem.P.add_str ?_
  cases c1 : (a.length == 0) with
  | true =>
    rw [if_pos rfl]
    exact ⟨.str (a ++ b), H, I, ⟨t', by rw [str_app_nil _ _ c1]⟩, q⟩
  | false =>
    rw [if_neg (by decide)]
    cases c2 : (b.length == 0) with
    | true =>
      rw [if_pos rfl]
      exact ⟨.str (a ++ b), H, I, ⟨t, by rw [str_nil_app _ _ c2]⟩, q⟩
    | false =>
      rw [if_neg (by decide)]
      exact ⟨hz, ⟨.str (a ++ b), H, I.tok _, ⟨_, rfl⟩, q⟩⟩
noncomputable def rSlS : V → Option Int → Option Int → Hp → VK → Prop := fun x lo hi H Q => ∃ z : Str, x = .str z ∧ z.length ≤ sizeLine ∧ Q (.str (Txt.slice z lo hi)) H
theorem sl_S : SlR X rSlS := by
  intro pins s σ H x v vl vu lo hi sl Q I rx hs pl pu h
  obtain ⟨z, rfl, hz, q⟩ := h
  obtain ⟨t, rfl⟩ := rx
  have key : ∀ l u : Option (Int × Tok), s.heap.IsSlice sl l u none → Q (.str (Txt.slice z (l.map (·.1)) (u.map (·.1)))) H → wpAny (model X.prog X.w) X.A (getItem (.str z t) (.ref sl)) (EP X pins σ Q) X.xe s := fun l u hsl q => by
    refine wpAny_getItem_str_slice hsl rfl ?_
    show (if ((1 : Int) == 1 && (Builtin.Str.strSliceIndices (l.map (·.1)) (u.map (·.1)) 1 z.length).length == z.length) = true then Made.val (.str z t) else Made.str ⟨((Builtin.Str.strSliceIndices (l.map (·.1)) (u.map (·.1)) 1 z.length).filterMap (z.cps[·]?)).toArray⟩).post _ s
    exact post_val_or_str ⟨Nat.le_trans (Txt.slice_le z _ _) hz, fun t' k => ⟨.str (Txt.slice z (l.map (·.1)) (u.map (·.1))), H, I.tok _, ⟨t', rfl⟩, q⟩⟩
  refine ⟨"str", _, PySem.F.slot_str_getitem.lookup, typeIs_str _ _ _, ?_⟩
  cases pl with
  | none =>
    cases pu with
    | none => exact key none none hs q
    | int j u => exact key none (some (j, u)) hs q
  | int i ti =>
    cases pu with
    | none => exact key (some (i, ti)) none hs q
    | int j u => exact key (some (i, ti)) (some (j, u)) hs q
theorem sl_SK (K : PySem.W.Frag) (hK : X.K = K) : SlR X rSlS := sl_S
theorem vals_strs : ∀ {ss : List Str} {us : List Value}, Vals (ss.map V.str) us → StrsAre us ss
  | [], _, .nil => .nil
  | _ :: _, _, .cons r t => by
    obtain ⟨k, rfl⟩ := r
    exact .cons _ k (vals_strs t)
theorem strsFrom_vals : ∀ (k : Nat) (ss : List Str), Vals (ss.map V.str) (strsFrom k ss)
  | _, [] => .nil
  | k, _ :: r => .cons ⟨k, rfl⟩ (strsFrom_vals (k + 1) r)
noncomputable def rJoin (K : PySem.W.Frag) : V → List V → Hp → VK → Prop := fun x xs H Q => ∃ (sep : Str) (p : Addr) (ss : List Str), x = .str sep ∧ xs = [.ref p] ∧ SqL K H p (ss.map V.str) ∧ (ss.map (·.length)).sum + ss.length * sep.length ≤ 16777216 ∧ Q (.str (Txt.join sep ss)) H
theorem mt_join : MtR X "str.join" (rJoin X.K) := by
  intro pins s σ H x xs v us Q I rx rs h
  obtain ⟨sep, p, ss, rfl, rfl, hq, hz, q⟩ := h
  obtain ⟨t, rfl⟩ := rx
  obtain ⟨u, rfl, ru⟩ := vals1 rs
  cases (show u = Value.ref p from ru)
  obtain ⟨its, rv, pl, hl⟩ := I.list hq
  exact PyProof.Rows.join_list pl.isList (by simpa using vals_strs rv) hz fun t' k => ⟨.str (Txt.join sep ss), H, I.tok _, ⟨t', rfl⟩, q⟩
noncomputable def rSplit : V → List V → Hp → VK → Prop := fun x xs H Q => ∃ (z sep : Str), x = .str z ∧ xs = [.str sep] ∧ (sep.length == 0) = false ∧ z.length + 2 ≤ sizeLine ∧ ∀ l, H l = none → Q (.ref l) (upd H l (.lst ((Txt.split z sep).map V.str)))
theorem mt_split : MtR X "str.split" rSplit := by
  intro pins s σ H x xs v us Q I rx rs h
  obtain ⟨z, sep, rfl, rfl, hy, hz, q⟩ := h
  obtain ⟨t, rfl⟩ := rx
  obtain ⟨w', rfl, ru⟩ := vals1 rs
  obtain ⟨u, rfl⟩ := ru
  have hle := PyProof.Rows.split_le z sep
  have q := q s.heap.objs.size (I.hok.fresh (Nat.le_refl _))
  have one : Txt.split z sep = [z] → EP X pins σ Q (.ref s.heap.objs.size) { s with heap := s.heap.push { cls := .type "list", data := .seq [Value.str z t].toArray } } := fun e => by
    rw [e] at q
    exact ⟨.ref s.heap.objs.size, _, I.laid (t' := s.toks) (fun b ob e => Heap.get?_push_of_some _ e) (Nat.le_refl _) (show ObjOk X.prog X.w _ _ _ (.lst ([z].map V.str)) from ⟨by show 1 ≤ sizeLine; decide, [.str z t], 0, .cons ⟨t, rfl⟩ .nil, Heap.get?_push_size _ rfl⟩), rfl, q⟩
  cases h1 : (decide (z.length < sep.length) || decide (Builtin.Str.strKind z < Builtin.Str.strKind sep))
  · cases hf : (Builtin.Str.occurrences z sep 0 z.length (z.length + 1)).isEmpty
    · have e : Txt.split z sep = Builtin.Str.partsBetween z (Builtin.Str.occurrences z sep 0 z.length (z.length + 1)) sep.length := (if_neg (ne_true_of_eq_false h1)).trans (if_neg (ne_true_of_eq_false hf))
      rw [e] at q hle
      refine call_meets F.slot_str_split (typeIs_str _ _ _) F.entry_str_split (F.args_str_split_2 _ _) (meets_str_split_sep z sep t u h1 hy hf (by omega) (by omega)) ?_
      exact ⟨.ref s.heap.objs.size, _, I.laid (t' := _) (fun b ob e => Heap.get?_push_of_some _ e) (Nat.le_refl _) (show ObjOk X.prog X.w _ _ _ (.lst ((Builtin.Str.partsBetween z (Builtin.Str.occurrences z sep 0 z.length (z.length + 1)) sep.length).map V.str)) from ⟨by rw [List.length_map]; omega, _, 0, strsFrom_vals _ _, Heap.get?_push_size _ rfl⟩), rfl, q⟩
    · exact call_meets F.slot_str_split (typeIs_str _ _ _) F.entry_str_split (F.args_str_split_2 _ _) (meets_str_split_not_found z sep t u h1 hy hf) (one ((if_neg (ne_true_of_eq_false h1)).trans (if_pos hf)))
  · exact call_meets F.slot_str_split (typeIs_str _ _ _) F.entry_str_split (F.args_str_split_2 _ _) (meets_str_split_cannot_occur z sep t u h1) (one (if_pos h1))
end
end L2

namespace OL
open PySem L2
noncomputable def cps (x : Str) : List Nat := x.cps.toList
theorem cps_inj {x y : Str} (h : cps x = cps y) : x = y := by
  cases x; cases y
  unfold cps at h
  dsimp only at h
  congr 1
  exact Array.toList_inj.mp h
theorem cps_app (x y : Str) : cps (x ++ y) = cps x ++ cps y := by
  show (x.cps ++ y.cps).toList = _
  rw [Array.toList_append]; rfl
theorem cps_len (x : Str) : (cps x).length = x.length := by unfold cps; rw [Array.length_toList]; rfl
noncomputable def jn (c : Nat) : List (List Nat) → List Nat
  | [] => []
  | [w] => w
  | w :: v :: r => w ++ c :: jn c (v :: r)
theorem cps_join (c : Nat) : ∀ ys : List Str, cps (Txt.join ⟨#[c]⟩ ys) = jn c (ys.map cps)
  | [] => rfl
  | [y] => rfl
  | x :: y :: r => by
    have ih := cps_join c (y :: r)
    unfold Txt.join at ih ⊢
    rw [StrLaws.glued_eq_join] at ih ⊢
    show cps (x ++ ⟨#[c]⟩ ++ Str.join ⟨#[c]⟩ (y :: r)) = cps x ++ c :: jn c ((y :: r).map cps)
    rw [cps_app, cps_app, ih, List.append_assoc]
    rfl
theorem free_cut {c : Nat} : ∀ {w v r s : List Nat}, c ∉ w → c ∉ v → w ++ c :: r = v ++ c :: s → w = v ∧ r = s
  | [], [], r, s, _, _, h => by
    rw [List.nil_append, List.nil_append] at h
    exact ⟨rfl, (List.cons.inj h).2⟩
  | [], b :: v, r, s, _, hv, h => by
    rw [List.nil_append, List.cons_append] at h
    exact absurd (List.cons.inj h).1 (fun e => hv (by rw [e]; exact .head _))
  | a :: w, [], r, s, hw, _, h => by
    rw [List.nil_append, List.cons_append] at h
    exact absurd (List.cons.inj h).1.symm (fun e => hw (by rw [e]; exact .head _))
  | a :: w, b :: v, r, s, hw, hv, h => by
    rw [List.cons_append, List.cons_append] at h
    obtain ⟨e1, e2⟩ := List.cons.inj h
    obtain ⟨e3, e4⟩ := free_cut (fun z => hw (.tail _ z)) (fun z => hv (.tail _ z)) e2
    exact ⟨by rw [e1, e3], e4⟩
theorem jn_inj {c : Nat} : ∀ {ws vs : List (List Nat)}, ws ≠ [] → vs ≠ [] → (∀ w ∈ ws, c ∉ w) → (∀ w ∈ vs, c ∉ w) → jn c ws = jn c vs → ws = vs
  | [], _, h, _, _, _, _ => absurd rfl h
  | _ :: _, [], _, h, _, _, _ => absurd rfl h
  | [w], [v], _, _, _, _, h => by rw [show w = v from h]
  | [w], v :: v' :: r, _, _, hw, _, h => by
    have h : w = v ++ c :: jn c (v' :: r) := h
    exact absurd (show c ∈ w by rw [h]; exact List.mem_append_right _ (.head _)) (hw w (.head _))
  | w :: w' :: r, [v], _, _, _, hv, h => by
    have h : w ++ c :: jn c (w' :: r) = v := h
    exact absurd (show c ∈ v by rw [← h]; exact List.mem_append_right _ (.head _)) (hv v (.head _))
  | w :: w' :: r, v :: v' :: s, _, _, hw, hv, h => by
    have h : w ++ c :: jn c (w' :: r) = v ++ c :: jn c (v' :: s) := h
    obtain ⟨e1, e2⟩ := free_cut (hw w (.head _)) (hv v (.head _)) h
    rw [e1, jn_inj (by simp) (by simp) (fun z hz => hw z (.tail _ hz)) (fun z hz => hv z (.tail _ hz)) e2]
theorem map_cps_inj : ∀ {xs ys : List Str}, xs.map cps = ys.map cps → xs = ys
  | [], [], _ => rfl
  | [], _ :: _, h => by cases h
  | _ :: _, [], h => by cases h
  | x :: xs, y :: ys, h => by
    rw [List.map_cons, List.map_cons] at h
    obtain ⟨e1, e2⟩ := List.cons.inj h
    rw [cps_inj e1, map_cps_inj e2]
theorem split_join1 (c : Nat) {ys : List Str} (hne : ys ≠ []) (hf : ∀ y ∈ ys, c ∉ cps y) : Txt.split (Txt.join ⟨#[c]⟩ ys) ⟨#[c]⟩ = ys := by
  have e := StrLaws.join_split (Txt.join ⟨#[c]⟩ ys) ⟨#[c]⟩
  have hfr := StrLaws.split_free (Txt.join ⟨#[c]⟩ ys) c
  have hp := PyProof.Rows.split_pos (Txt.join ⟨#[c]⟩ ys) ⟨#[c]⟩
  generalize Txt.split (Txt.join ⟨#[c]⟩ ys) ⟨#[c]⟩ = ps at e hfr hp
  refine map_cps_inj (jn_inj (c := c) ?_ ?_ ?_ ?_ ?_)
  · intro z
    rw [List.map_eq_nil_iff.mp z] at hp
    exact absurd hp (by decide)
  · intro z; exact hne (List.map_eq_nil_iff.mp z)
  · intro w hw
    obtain ⟨p, hp', rfl⟩ := List.mem_map.mp hw
    exact hfr p hp'
  · intro w hw
    obtain ⟨p, hp', rfl⟩ := List.mem_map.mp hw
    exact hf p hp'
  · rw [← cps_join, ← cps_join]
    congr 1
    unfold Txt.join at e ⊢
    rw [StrLaws.glued_eq_join] at e ⊢
    rw [StrLaws.glued_eq_join]
    exact e
noncomputable def letter (c : Nat) : Prop := 97 ≤ c ∧ c ≤ 122
structure NameOk (x : Str) : Prop where
  ne : cps x ≠ []
  le : (cps x).length ≤ 9
  all : ∀ c ∈ cps x, letter c
structure NamesOk (nm : List Str) : Prop where
  lo : 1 ≤ nm.length
  hi : nm.length ≤ 12
  nd : nm.Nodup
  ok : ∀ x ∈ nm, NameOk x
  nn : ∀ x ∈ nm, x ≠ ("none" : Str)
noncomputable abbrev noneT : Str := "none"
noncomputable abbrev spc : Str := " "
noncomputable abbrev dash : Str := "-"
theorem spc_is : spc = ⟨#[32]⟩ := by decide +kernel
theorem cps_dash : cps dash = [45] := by decide +kernel
noncomputable def wordsF (nm : List Str) (lot : Int) : List Str := if lot = 0 then [dash] else (thingsF lot).map fun t => nm.getD t.toNat ""
noncomputable def showF (nm : List Str) (lot : Int) : Str := Txt.join spc (wordsF nm lot)
theorem show_zero (nm : List Str) : showF nm 0 = dash := by
  unfold showF wordsF
  rw [if_pos rfl]
  exact cps_inj (by rw [spc_is, cps_join]; rfl)
theorem getD_nm {nm : List Str} {i : Nat} (h : i < nm.length) : nm.getD i "" ∈ nm := by
  rw [List.getD_eq_getElem?_getD, List.getElem?_eq_getElem h]; exact List.getElem_mem h
section
variable {nm : List Str} (ok : NamesOk nm)
include ok
theorem NamesOk.th {lot : Int} (hl : 0 ≤ lot) (hb : lot < 2 ^ nm.length) {t : Int} (ht : t ∈ thingsF lot) : ∃ n : Nat, t = (n : Int) ∧ n < nm.length ∧ Th lot n := by
  obtain ⟨n, h1, h2⟩ := (mem_thingsF hl).mp ht
  refine ⟨n, h2, ?_, h1⟩
  have hI : InB (nm.length : Int) lot := ⟨hl, by rw [Int.toNat_natCast]; exact hb⟩
  have := hI.th h1
  rwa [Int.toNat_natCast] at this
theorem words_free {lot : Int} (hl : 0 ≤ lot) (hb : lot < 2 ^ nm.length) : ∀ y ∈ wordsF nm lot, 32 ∉ cps y := by
  intro y hy
  unfold wordsF at hy
  by_cases c : lot = 0
  · rw [if_pos c] at hy
    rw [List.mem_singleton.mp hy, cps_dash]; decide
  · rw [if_neg c] at hy
    obtain ⟨t, ht, rfl⟩ := List.mem_map.mp hy
    obtain ⟨n, rfl, hn, _⟩ := ok.th hl hb ht
    rw [Int.toNat_natCast]
    intro z
    have := (ok.ok _ (getD_nm hn)).all 32 z
    unfold letter at this
    omega
theorem words_ne {lot : Int} (hl : 0 ≤ lot) : wordsF nm lot ≠ [] := by
  unfold wordsF
  by_cases c : lot = 0
  · rw [if_pos c]; simp
  · rw [if_neg c]
    intro z
    have z := List.map_eq_nil_iff.mp z
    refine c (th_ext hl (Int.le_refl 0) fun i => ⟨fun h => ?_, fun h => by unfold Th at h; simp at h⟩)
    have := (mem_thingsF hl).mpr ⟨i, h, rfl⟩
    rw [z] at this; cases this
theorem split_show {lot : Int} (hl : 0 ≤ lot) (hb : lot < 2 ^ nm.length) : Txt.split (showF nm lot) spc = wordsF nm lot := by
  unfold showF
  rw [spc_is]
  exact split_join1 32 (words_ne ok hl) (words_free ok hl hb)
theorem in_words {lot : Int} (hl : 0 ≤ lot) (hb : lot < 2 ^ nm.length) {i : Nat} (hi : i < nm.length) : ((wordsF nm lot).any fun w => decide (w = nm.getD i "")) = hasF lot (1 * 2 ^ i) := by
  rw [Bool.eq_iff_iff, List.any_eq_true, has_th hl]
  unfold wordsF
  by_cases c : lot = 0
  · rw [if_pos c]
    constructor
    · rintro ⟨w, hw, e⟩
      rw [List.mem_singleton.mp hw] at e
      have e := of_decide_eq_true e
      have h := (ok.ok _ (getD_nm hi)).all 45 (by rw [← e, cps_dash]; exact .head _)
      unfold letter at h
      omega
    · intro h
      rw [c] at h
      unfold Th at h
      simp at h
  · rw [if_neg c]
    constructor
    · rintro ⟨w, hw, e⟩
      obtain ⟨t, ht, rfl⟩ := List.mem_map.mp hw
      obtain ⟨n, rfl, hn, hth⟩ := ok.th hl hb ht
      have e := of_decide_eq_true e
      rw [Int.toNat_natCast, List.getD_eq_getElem?_getD, List.getD_eq_getElem?_getD, List.getElem?_eq_getElem hn, List.getElem?_eq_getElem hi] at e
      have : n = i := (List.getElem_inj ok.nd).mp e
      rw [← this]; exact hth
    · intro h
      exact ⟨_, List.mem_map.mpr ⟨(i : Int), (mem_thingsF hl).mpr ⟨i, h, rfl⟩, rfl⟩, decide_eq_true (by rw [Int.toNat_natCast])⟩
theorem show_len {lot : Int} (hl : 0 ≤ lot) (hb : lot < 2 ^ nm.length) : ((wordsF nm lot).map (·.length)).sum + (wordsF nm lot).length * spc.length ≤ 200 := by
  have h1 : ∀ y ∈ wordsF nm lot, y.length ≤ 9 := fun y hy => by
    unfold wordsF at hy
    by_cases c : lot = 0
    · rw [if_pos c] at hy
      rw [List.mem_singleton.mp hy, ← cps_len, cps_dash]; decide
    · rw [if_neg c] at hy
      obtain ⟨t, ht, rfl⟩ := List.mem_map.mp hy
      obtain ⟨n, rfl, hn, _⟩ := ok.th hl hb ht
      rw [Int.toNat_natCast, ← cps_len]
      exact (ok.ok _ (getD_nm hn)).le
  have h2 : (wordsF nm lot).length ≤ 12 := by
    unfold wordsF
    by_cases c : lot = 0
    · rw [if_pos c]; decide
    · rw [if_neg c, List.length_map]
      have hs : Sm lot := ⟨hl, Int.lt_of_lt_of_le hb (by
        have : (2 : Int) ^ nm.length ≤ 2 ^ 12 := by exact_mod_cast Nat.pow_le_pow_right (n := 2) (by decide) ok.hi
        exact this)⟩
      exact few_len hs
  have h3 : ((wordsF nm lot).map (·.length)).sum ≤ 9 * (wordsF nm lot).length := by
    generalize wordsF nm lot = ws at h1
    clear h2
    induction ws with
    | nil => exact Nat.le_refl _
    | cons w ws ih =>
      have a := h1 w (.head _)
      have b := ih fun y hy => h1 y (.tail _ hy)
      rw [List.map_cons, List.sum_cons, List.length_cons]
      omega
  have h4 : spc.length = 1 := by decide +kernel
  rw [h4]; omega
end
theorem cps_upto {x : Str} {j : Int} (h0 : 0 ≤ j) (h1 : j ≤ (cps x).length) : cps (Txt.slice x none (some j)) = (cps x).take j.toNat := by
  have h := PyProof.Rows.slice_closes_to (x := x) (j := j) ⟨h0, h1⟩
  have h := beq_iff_eq.mp h
  rw [h]
  show ((cps x).drop (0 : Int).toNat).take (j - 0).toNat = _
  rw [Int.sub_zero]; rfl
theorem cps_from {x : Str} {j : Int} (h0 : 0 ≤ j) (h1 : j ≤ (cps x).length) : cps (Txt.slice x (some j) none) = (cps x).drop j.toNat := by
  have h := PyProof.Rows.slice_from_eq (x := x) (i := j) (b := x.length) h0 (by rw [cps_len] at h1; exact h1) rfl
  rw [h]
  show ((cps x).drop j.toNat).take (((x.length : Nat) : Int) - j).toNat = _
  rw [List.take_of_length_le]
  rw [List.length_drop, cps_len]
  rw [cps_len] at h1
  omega
theorem atS_map {nm : List Str} {k : Int} (h0 : 0 ≤ k) (h : k < (nm.length : Int)) : atI (nm.map V.str) k = some (.str (nm.getD k.toNat "")) := by
  obtain ⟨n, rfl⟩ : ∃ n : Nat, k = (n : Int) := ⟨k.toNat, by omega⟩
  have hn : n < nm.length := by omega
  rw [Int.toNat_natCast]
  refine atI_nat ?_
  rw [List.getElem?_map, List.getElem?_eq_getElem hn, List.getD_eq_getElem?_getD, List.getElem?_eq_getElem hn]
  rfl
theorem in_strs (x : Str) : ∀ ss : List Str, inV (.str x) (ss.map V.str) = ss.any fun w => decide (w = x)
  | [] => rfl
  | s :: ss => by
    show (eqV (.str s) (.str x) || inV (.str x) (ss.map V.str)) = _
    rw [in_strs x ss, List.any_cons]
    congr 1
theorem flat_strs : ∀ ss : List Str, (ss.map V.str).all flatV = true
  | [] => rfl
  | _ :: r => by rw [List.map_cons, List.all_cons, flat_strs r]; rfl
noncomputable def spShow (K : PySem.W.Frag) : Sp := fun vs H Q _ => ∃ (n : Addr) (nm : List Str) (lot : Int), vs = [.ref n, .int lot] ∧ SqL K H n (nm.map V.str) ∧ NamesOk nm ∧ 0 ≤ lot ∧ lot < 2 ^ nm.length ∧ ∀ H', Same H H' → Q (.str (showF nm lot)) H'
theorem NamesOk.sm {nm : List Str} (ok : NamesOk nm) {lot : Int} (hl : 0 ≤ lot) (hb : lot < 2 ^ nm.length) : Sm lot := ⟨hl, Int.lt_of_lt_of_le hb (by
  have : (2 : Int) ^ nm.length ≤ 2 ^ 12 := by exact_mod_cast Nat.pow_le_pow_right (n := 2) (by decide) ok.hi
  exact this)⟩
end OL

namespace OL
open PySem L2
noncomputable def CpOk (x : Str) : Prop := ∀ c ∈ cps x, c < 0x110000
theorem NameOk.cp {x : Str} (h : NameOk x) : CpOk x := fun c hc => by have := h.all c hc; unfold letter at this; omega
theorem drs_strs {K : PySem.W.Frag} {H : Hp} : ∀ ss : List Str, DRs K H (ss.map V.str) (ss.map PyData.str)
  | [] => .nil
  | _ :: r => .cons (.str _) (drs_strs r)
theorem lay_str {x : Str} (h : CpOk x) : (PyData.str x).canLay0 = true := by
  show x.cps.all (fun c => decide (c < 0x110000)) = true
  rw [← Array.all_toList, List.all_eq_true]
  exact fun c hc => decide_eq_true (h c hc)
theorem lay_strs : ∀ {ss : List Str}, (∀ s ∈ ss, CpOk s) → PyData.canLayAll0 (ss.map PyData.str) = true
  | [], _ => rfl
  | s :: ss, h => by
    show ((PyData.str s).canLay0 && PyData.canLayAll0 (ss.map PyData.str)) = true
    rw [lay_str (h s (.head _)), lay_strs fun y hy => h y (.tail _ hy)]; rfl
theorem depth_strs : ∀ ss : List Str, PyData.depthAll (ss.map PyData.str) = 0
  | [] => rfl
  | _ :: r => by
    show max 0 (PyData.depthAll (r.map PyData.str)) = 0
    rw [depth_strs r]; rfl
theorem shaped_strs {ss : List Str} (h : ∀ s ∈ ss, CpOk s) : PySem.SeqAt.shaped (.list (ss.map PyData.str)) = true := by
  unfold PySem.SeqAt.shaped
  have h1 : PyData.canLay0 (.list (ss.map PyData.str)) = true := lay_strs h
  have h2 : PyData.depth (.list (ss.map PyData.str)) ≤ 64 := by
    show PyData.depthAll (ss.map PyData.str) + 1 ≤ 64
    rw [depth_strs]; decide
  rw [h1, Bool.true_and]
  exact decide_eq_true h2
theorem eqv_strs : ∀ ss rr : List Str, PyData.eqvAll (ss.map PyData.str) (rr.map PyData.str) = decide (ss = rr)
  | [], [] => rfl
  | [], _ :: _ => rfl
  | _ :: _, [] => rfl
  | x :: l, y :: m => by
    show ((x == y) && PyData.eqvAll (l.map PyData.str) (m.map PyData.str)) = _
    rw [eqv_strs l m]
    by_cases c1 : x = y <;> by_cases c2 : l = m <;> simp [c1, c2]
theorem ne_strs {K : PySem.W.Frag} {H : Hp} {a b : Addr} {ss rr : List Str} {Q : VK} (ha : SqL K H a (ss.map V.str)) (hb : SqL K H b (rr.map V.str)) (h1 : ∀ s ∈ ss, CpOk s) (h2 : ∀ s ∈ rr, CpOk s) (q : Q (.bl (!decide (ss = rr))) H) : rEqD K true (.ref a) (.ref b) H Q := by
  refine ⟨_, _, .lst ha (drs_strs _), .lst hb (drs_strs _), shaped_strs h1, shaped_strs h2, ?_⟩
  have e : PyData.eqv (.list (ss.map PyData.str)) (.list (rr.map PyData.str)) = decide (ss = rr) := eqv_strs ss rr
  rw [e]; exact q
theorem eq_strs {K : PySem.W.Frag} {H : Hp} {a b : Addr} {ss rr : List Str} {Q : VK} (ha : SqL K H a (ss.map V.str)) (hb : SqL K H b (rr.map V.str)) (h1 : ∀ s ∈ ss, CpOk s) (h2 : ∀ s ∈ rr, CpOk s) (q : Q (.bl (decide (ss = rr))) H) : rEqD K false (.ref a) (.ref b) H Q := by
  refine ⟨_, _, .lst ha (drs_strs _), .lst hb (drs_strs _), shaped_strs h1, shaped_strs h2, ?_⟩
  have e : PyData.eqv (.list (ss.map PyData.str)) (.list (rr.map PyData.str)) = decide (ss = rr) := eqv_strs ss rr
  rw [e]; exact q
theorem ne_nilS {K : PySem.W.Frag} {H : Hp} {a : Addr} {ss : List Str} {Q : VK} (ha : H a = some (.lst (ss.map V.str))) (h1 : ∀ s ∈ ss, CpOk s) (q : ∀ H', Same H H' → Q (.bl (!ss.isEmpty)) H') : ([] : List V).length ≤ sizeLine ∧ ∀ p, H p = none → rEqD K true (.ref a) (.ref p) (upd H p (.lst [])) Q := by
  refine ⟨(by show 0 ≤ sizeLine; decide), fun p hp => ?_⟩
  refine ne_strs (ss := ss) (rr := []) (SqL.of (same_new hp _ _ _ ha)) (SqL.of upd_same) h1 (fun s hs => nomatch hs) ?_
  rw [show decide (ss = []) = ss.isEmpty by cases ss <;> rfl]
  exact q _ (same_new hp _)
theorem eq_nilS {K : PySem.W.Frag} {H : Hp} {a : Addr} {ss : List Str} {Q : VK} (ha : H a = some (.lst (ss.map V.str))) (h1 : ∀ s ∈ ss, CpOk s) (q : ∀ H', Same H H' → Q (.bl ss.isEmpty) H') : ([] : List V).length ≤ sizeLine ∧ ∀ p, H p = none → rEqD K false (.ref a) (.ref p) (upd H p (.lst [])) Q := by
  refine ⟨(by show 0 ≤ sizeLine; decide), fun p hp => ?_⟩
  refine eq_strs (ss := ss) (rr := []) (SqL.of (same_new hp _ _ _ ha)) (SqL.of upd_same) h1 (fun s hs => nomatch hs) ?_
  rw [show decide (ss = []) = ss.isEmpty by cases ss <;> rfl]
  exact q _ (same_new hp _)
theorem pick_permS {ls : List Str} {k : Nat} (h : k < ls.length) : (ls.getD k "" :: ls.eraseIdx k).Perm ls := by
  have e : ls.getD k "" = ls[k] := by rw [List.getD_eq_getElem?_getD, List.getElem?_eq_getElem h]; rfl
  rw [e, List.eraseIdx_eq_take_drop_succ]
  have z : ls.take k ++ ls[k] :: ls.drop (k + 1) = ls := by rw [← List.drop_eq_getElem_cons h, List.take_append_drop]
  refine List.perm_middle.symm.trans ?_
  rw [z]
theorem seqIdx_natS {d : Int} {n : Nat} (h0 : 0 ≤ d) (h1 : d < (n : Int)) : seqIndex? d n = some d.toNat := by
  simp [seqIndex?, show ¬ d < 0 by omega, h0, h1]
theorem erase_strs (ls : List Str) (k : Nat) : (ls.map V.str).eraseIdx k = (ls.eraseIdx k).map V.str := by
  rw [List.eraseIdx_eq_take_drop_succ, List.eraseIdx_eq_take_drop_succ, List.map_append, List.map_take, List.map_drop]
noncomputable def listHS (H : Hp) (x : Addr) : List V := match H x with | some (.lst vs) => vs | _ => []
noncomputable def spOrderS : Sp := fun vs H Q _ => ∃ (p l : Addr) (x y z : Int) (bs : List Str), vs = [.ref p, .ref l] ∧ H p = some (.lst [.int x, .int y, .int z]) ∧ H l = some (.lst (bs.map V.str)) ∧ p ≠ l ∧ bs.length ≤ 500 ∧ (∀ s ∈ bs, CpOk s) ∧
  ∀ (r : Addr) (bs' : List Str) (x' y' z' : Int) (H' : Hp), SameB p H H' → H r = none → H' r = some (.lst (bs'.map V.str)) → bs'.Perm bs → H' p = some (.lst [.int x', .int y', .int z']) → Q (.ref r) H'
noncomputable def spNames (K : PySem.W.Frag) : Sp := fun vs H Q _ => ∃ (a : Addr) (ns : List Int) (k : Int), vs = [.ref a, .int k] ∧ SqL K H a (ns.map V.int) ∧ 0 ≤ k ∧
  ∀ (r : Addr) (nm : List Str) (H' : Hp), Same H H' → H r = none → H' r = some (.lst (nm.map V.str)) → NamesOk nm → Q (.ref r) H'
noncomputable def spLotN (K : PySem.W.Frag) : Sp := fun vs H Q _ => ∃ (p n : Addr) (nm : List Str), vs = [.ref p, .ref n] ∧ p ≠ n ∧ (∃ x y z : Int, H p = some (.lst [.int x, .int y, .int z])) ∧ H n = some (.lst (nm.map V.str)) ∧ 1 ≤ nm.length ∧ nm.length ≤ 12 ∧
  ∀ (lot : Int) (H' : Hp), SameB p H H' → 0 ≤ lot → lot < 2 ^ nm.length → (∃ x y z : Int, H' p = some (.lst [.int x, .int y, .int z])) → Q (.int lot) H'
noncomputable def letL : List Nat := (List.range 26).map (· + 97)
noncomputable abbrev letters : Str := "abcdefghijklmnopqrstuvwxyz"
theorem cps_letters : cps letters = letL := by decide +kernel
theorem let_at {i : Int} (h0 : 0 ≤ i) (h1 : i < 26) : atI letters.cps.toList i = some (97 + i.toNat) := by
  show atI (cps letters) i = _
  rw [cps_letters]
  obtain ⟨n, rfl⟩ : ∃ n : Nat, i = (n : Int) := ⟨i.toNat, by omega⟩
  refine atI_nat ?_
  unfold letL
  rw [List.getElem?_map, List.getElem?_eq_getElem (by rw [List.length_range]; omega)]
  simp; omega
noncomputable def nameA (base : List Nat) (at_ : Nat) (c : Nat) : List Nat := base.take at_ ++ c :: base.drop at_
noncomputable def numL (first k : Nat) : Nat := 97 + (first + 7 * k) % 26
theorem num_letter (first k : Nat) : letter (numL first k) := by unfold letter numL; omega
theorem num_inj {first j k : Nat} (hj : j < 12) (hk : k < 12) (h : numL first j = numL first k) : j = k := by unfold numL at h; omega
theorem nameA_inj {base : List Nat} {at_ c d : Nat} (h : nameA base at_ c = nameA base at_ d) : c = d := by
  unfold nameA at h
  have := List.append_cancel_left h
  exact (List.cons.inj this).1
theorem nodup_of {f : Nat → Str} : ∀ {n : Nat}, (∀ i j, i < n → j < n → f i = f j → i = j) → ((List.range n).map f).Nodup := fun {n} h => by
  unfold List.Nodup
  rw [List.pairwise_map]
  refine List.Pairwise.imp_of_mem (fun {a b} ha hb hab e => ?_) (List.nodup_range (n := n))
  exact hab (h a b (List.mem_range.mp ha) (List.mem_range.mp hb) e)
structure NamesPre (nm : List Str) : Prop where
  hi : nm.length ≤ 12
  nd : nm.Nodup
  ok : ∀ x ∈ nm, NameOk x
theorem NamesPre.filter {nm : List Str} (h : NamesPre nm) (p : Str → Bool) : NamesPre (nm.filter p) :=
  ⟨Nat.le_trans (List.length_filter_le _ _) h.hi, h.nd.sublist List.filter_sublist, fun x hx => h.ok x (List.mem_filter.mp hx).1⟩
theorem NamesPre.perm {nm nm' : List Str} (h : NamesPre nm) (hne : nm ≠ []) (hn : ∀ x ∈ nm, x ≠ noneT) (p : nm'.Perm nm) : NamesOk nm' :=
  ⟨by rw [p.length_eq]; exact List.length_pos_iff.mpr hne, by rw [p.length_eq]; exact h.hi, p.nodup_iff.mpr h.nd, fun x hx => h.ok x (p.mem_iff.mp hx), fun x hx => hn x (p.mem_iff.mp hx)⟩
theorem nine_nn : ∀ x ∈ (["nine"] : List Str), x ≠ noneT := fun x hx => by rw [List.mem_singleton.mp hx]; decide +kernel
theorem nine_pre : NamesPre ["nine"] := by
  refine ⟨by decide, by simp, fun x hx => ?_⟩
  rw [List.mem_singleton.mp hx]
  have e : cps ("nine" : Str) = [110, 105, 110, 101] := by decide +kernel
  refine ⟨by rw [e]; simp, by rw [e]; decide, fun c hc => ?_⟩
  rw [e] at hc
  unfold letter
  simp only [List.mem_cons, List.not_mem_nil, or_false] at hc
  omega
theorem pre_of {f : Nat → Str} {n : Nat} (hn : n ≤ 12) (h1 : ∀ i, i < n → NameOk (f i)) (h2 : ∀ i j, i < n → j < n → f i = f j → i = j) : NamesPre ((List.range n).map f) :=
  ⟨by rw [List.length_map, List.length_range]; exact hn, nodup_of h2, fun x hx => by
    obtain ⟨i, hi, rfl⟩ := List.mem_map.mp hx
    exact h1 i (List.mem_range.mp hi)⟩
theorem ix_strK {X : Cx} (K : PySem.W.Frag) (hK : X.K = K) : IxR X rIxS := ix_str
noncomputable def nameS (bse : Str) (at_ : Int) (first k : Nat) : Str := Txt.slice bse none (some at_) ++ ⟨#[numL first k]⟩ ++ Txt.slice bse (some at_) none
theorem cps_nameS {bse : Str} {at_ : Int} (h0 : 0 ≤ at_) (h1 : at_ ≤ (cps bse).length) (first k : Nat) : cps (nameS bse at_ first k) = nameA (cps bse) at_.toNat (numL first k) := by
  unfold nameS nameA
  rw [cps_app, cps_app, cps_upto h0 h1, cps_from h0 h1, List.append_assoc]; rfl
theorem nameS_ok {bse : Str} {at_ : Int} (h0 : 0 ≤ at_) (h1 : at_ ≤ (cps bse).length) (hl : ∀ c ∈ cps bse, letter c) (hb : (cps bse).length ≤ 7) (first k : Nat) : NameOk (nameS bse at_ first k) := by
  have e := cps_nameS h0 h1 first k
  refine ⟨?_, ?_, fun c hc => ?_⟩
  · rw [e]; unfold nameA; simp
  · rw [e]
    unfold nameA
    rw [List.length_append, List.length_cons, List.length_take, List.length_drop]
    omega
  · rw [e] at hc
    unfold nameA at hc
    rcases List.mem_append.mp hc with w | w
    · exact hl c (List.mem_of_mem_take w)
    · rcases List.mem_cons.mp w with v | v
      · rw [v]; exact num_letter first k
      · exact hl c (List.mem_of_mem_drop v)
theorem nameS_inj {bse : Str} {at_ : Int} (h0 : 0 ≤ at_) (h1 : at_ ≤ (cps bse).length) {first j k : Nat} (hj : j < 12) (hk : k < 12) (h : nameS bse at_ first j = nameS bse at_ first k) : j = k := by
  have e := congrArg cps h
  rw [cps_nameS h0 h1, cps_nameS h0 h1] at e
  exact num_inj hj hk (nameA_inj e)
noncomputable abbrev aToH : Str := "abcdefgh"
theorem cps_aToH : cps aToH = [97, 98, 99, 100, 101, 102, 103, 104] := by decide +kernel
noncomputable def wordS (bse : Str) : Str := Txt.slice (bse ++ aToH) none (some 8)
theorem wordS_cps {bse : Str} (hl : ∀ c ∈ cps bse, letter c) : (cps (wordS bse)).length = 8 ∧ ∀ c ∈ cps (wordS bse), letter c := by
  have hlen : (8 : Int) ≤ (cps (bse ++ aToH)).length := by rw [cps_app, List.length_append, cps_aToH]; show (8 : Int) ≤ ((_ + 8 : Nat) : Int); omega
  have e : cps (wordS bse) = (cps (bse ++ aToH)).take 8 := cps_upto (by decide) hlen
  refine ⟨by rw [e, List.length_take]; omega, fun c hc => ?_⟩
  rw [e] at hc
  have hc := List.mem_of_mem_take hc
  rw [cps_app] at hc
  rcases List.mem_append.mp hc with w | w
  · exact hl c w
  · rw [cps_aToH] at w
    unfold letter
    simp only [List.mem_cons, List.not_mem_nil, or_false] at w
    omega
theorem pre_word {bse : Str} (hl : ∀ c ∈ cps bse, letter c) {n : Nat} (hn : n ≤ 8) : NamesPre ((List.range n).map fun (k : Nat) => Txt.slice (wordS bse) none (some ((k : Int) + 1))) := by
  obtain ⟨h8, hlet⟩ := wordS_cps hl
  have e : ∀ k : Nat, k < n → cps (Txt.slice (wordS bse) none (some ((k : Int) + 1))) = (cps (wordS bse)).take (k + 1) := fun k hk => by
    rw [cps_upto (by omega) (by omega)]
    congr 1
  refine pre_of (by omega) (fun i hi => ⟨?_, ?_, fun c hc => ?_⟩) (fun i j hi hj h => ?_)
  · rw [e i hi]
    intro z
    have := congrArg List.length z
    rw [List.length_take, h8] at this
    have : min (i + 1) 8 = 0 := this
    omega
  · rw [e i hi, List.length_take]; omega
  · rw [e i hi] at hc
    exact hlet c (List.mem_of_mem_take hc)
  · have h : (cps (Txt.slice (wordS bse) none (some ((i : Int) + 1)))).length = (cps (Txt.slice (wordS bse) none (some ((j : Int) + 1)))).length := congrArg (fun s => (cps s).length) h
    rw [e i hi, e j hj, List.length_take, List.length_take] at h
    omega
end OL

namespace OL
open PySem L2
noncomputable def jl (s : List Nat) : List (List Nat) → List Nat
  | [] => []
  | [w] => w
  | w :: v :: r => w ++ s ++ jl s (v :: r)
theorem cps_joinL (s : Str) : ∀ ys : List Str, cps (Txt.join s ys) = jl (cps s) (ys.map cps)
  | [] => rfl
  | [y] => rfl
  | x :: y :: r => by
    have ih := cps_joinL s (y :: r)
    unfold Txt.join at ih ⊢
    rw [StrLaws.glued_eq_join] at ih ⊢
    show cps (x ++ s ++ Str.join s (y :: r)) = cps x ++ cps s ++ jl (cps s) ((y :: r).map cps)
    rw [cps_app, cps_app, ih]
structure Sign (y : Str) (m d : Nat) : Prop where
  at_ : (cps y)[d]? = some m
  fr : ∀ i, i < d → (cps y)[i]? ≠ some m
noncomputable abbrev arrow : Str := " => "
noncomputable abbrev semi : Str := "; "
end OL
namespace OL
open PySem L2
end OL

namespace L2
open PySem PySem.Spec PyProof.Rows
end L2
namespace OL
open PySem L2
noncomputable def spApart : Sp := fun vs H Q _ => ∃ (sg z : Str), vs = [.str sg, .str z] ∧ (sg.length == 0) = false ∧ z.length + 2 ≤ sizeLine ∧ ∀ l H', Same H H' → H l = none → H' l = some (.lst ((if z = noneT then [] else Txt.split z sg).map V.str)) → Q (.ref l) H'
end OL
namespace OL
open PySem L2
theorem paired_mapped {α : Type} {f : α → V} : ∀ as : List α, Paired (fun v t => v = f t) (as.map f) as
  | [] => .nil
  | _ :: as => .cons rfl (paired_mapped as)
end OL

namespace L2
open PySem PySem.Spec PyProof.Rows OL
section
variable {X : Cx}
theorem mt_indexS : MtR X "list.index" (fun x vs H Q => ∃ (l : Addr) (ss : List Str) (y : Str) (j : Nat), x = .ref l ∧ vs = [.str y] ∧ H l = some (.lst (ss.map V.str)) ∧ j < 1000 ∧ ss[j]? = some y ∧ (∀ m, m < j → ss[m]? ≠ some y) ∧ Q (.int (j : Int)) H) := by
  intro pins s σ H x vs v us Q I rx rv h
  obtain ⟨l, ss, y, j, rfl, rfl, hH, hj1, hj, hno, q⟩ := h
  cases rx
  obtain ⟨u, rfl, ru⟩ := rv.one
  obtain ⟨z, its, n, r, hl, e⟩ := I.lstM hH
  have hlen := r.length
  rw [List.length_map] at hlen
  obtain ⟨hjl, ej⟩ := List.getElem?_eq_some_iff.mp hj
  have at_ : ∀ m (hm : m < its.toArray.size), eqU (.str y) its.toArray[m] = eqV (.str (ss.getD m "")) (.str y) := fun m hm => by
    have hm' : m < its.length := by simpa using hm
    have hms : m < ss.length := by omega
    obtain ⟨w, hw, rw'⟩ := r.get (i := m) (x := .str ss[m]) (by rw [List.getElem?_map, List.getElem?_eq_getElem hms]; rfl)
    have ew : its.toArray[m] = w := by
      rw [List.getElem_toArray]
      rw [List.getElem?_eq_getElem hm'] at hw
      exact Option.some.inj hw
    rw [ew, List.getD_eq_getElem?_getD, List.getElem?_eq_getElem hms]
    exact eqU_of rw' rfl
  have key : ∀ m, m < ss.length → (eqV (.str (ss.getD m "")) (.str y) = true ↔ ss[m]? = some y) := fun m hm => by
    rw [List.getD_eq_getElem?_getD, List.getElem?_eq_getElem hm]
    show (ss[m] == y) = true ↔ _
    simp
  refine call_meets F.slot_list_index ⟨_, e, rfl⟩ F.entry_list_index (F.args_list_index_2 _ _) (SeqAt.list_indexAt l its.toArray n _ _ u (eqU (.str y)) j (by simpa using (by omega : j < its.length)) (by omega) ?_ ?_) ⟨e, fun y' hy => mem_eqAt ru rfl r (flat_strs ss) y' (by simpa using hy), ?_⟩
  · rw [at_]; exact (key j hjl).mpr hj
  · intro m hm hmj
    rw [at_]
    exact Bool.eq_false_iff.mpr fun z => hno m hmj ((key m (by omega)).mp z)
  · exact ⟨.int _, H, I.kept fun b o q => q, ⟨_, rfl⟩, q⟩
end
section
variable {X : Cx} {tg : Expr}
end
end L2
namespace OL
open PySem L2
section
variable {m : Nat} {js : List Nat} {g : TG} {c : TT} {te : TE} {σ : St} {H1 : Hp} {Q : VK}
end
end OL

namespace OL
open PySem L2 OL.W41
theorem th_addNew {r : Int} (h0 : 0 ≤ r) {j : Nat} (hn : ¬ Th r j) (i : Nat) : Th (r + 1 * 2 ^ j) i ↔ Th r i ∨ i = j := by
  have e := PyProof.Rows.bitOr_and r (1 * 2 ^ j)
  have e2 : Builtin.bitAnd r (1 * 2 ^ j) = 0 := th_ext (and_nn h0 (nnP j)) (by decide) fun i => by
    rw [th_and h0 (nnP j), th_pow]
    constructor
    · rintro ⟨h1, h2⟩; subst h2; exact absurd h1 hn
    · intro h; unfold Th at h; simp at h
  rw [e2] at e
  have e3 : r + 1 * 2 ^ j = Builtin.bitOr r (1 * 2 ^ j) := by omega
  rw [e3, th_w h0]
noncomputable def Cal (nm nm' : List Str) (lot : Int) (i : Nat) (r : Int) : Prop := 0 ≤ r ∧ ∀ j, Th r j ↔ ∃ k x, k < i ∧ Th lot k ∧ nm[k]? = some x ∧ nm'[j]? = some x
noncomputable abbrev zo : Str := "zo"
end OL

namespace L2
open PySem PySem.Spec PyProof.Rows

noncomputable def DK (h h' : Heap) : Prop := ∀ (b : Addr) (o : Obj), h.objs[b]? = some o → ∃ o' : Obj, h'.objs[b]? = some o' ∧ o'.dict = o.dict
theorem DK.refl (h : Heap) : DK h h := fun _ o e => ⟨o, e, rfl⟩
theorem DK.trans {h1 h2 h3 : Heap} (a : DK h1 h2) (b : DK h2 h3) : DK h1 h3 := fun c o e => by
  obtain ⟨o1, e1, d1⟩ := a c o e
  obtain ⟨o2, e2, d2⟩ := b c o1 e1
  exact ⟨o2, e2, d2.trans d1⟩
theorem get_objs {h : Heap} {b : Addr} {o : Obj} (e : h.get? b = some o) : h.objs[b]? = some o := by
  unfold Heap.get? at e
  cases q : h.objs[b]? with
  | none => rw [q] at e; cases e
  | some u =>
    rw [q] at e
    obtain ⟨c, d, dt, sl⟩ := u
    cases dt <;> first | (cases e; done) | exact e
theorem DK.get {h h' : Heap} {b : Addr} {o o' : Obj} (k : DK h h') (e : h.get? b = some o) (e' : h'.get? b = some o') : o'.dict = o.dict := by
  obtain ⟨o1, h1, d⟩ := k b o (get_objs e)
  rw [get_objs e'] at h1
  cases h1
  exact d
theorem DK.push {h : Heap} {o : Obj} : DK h (h.push o) := fun b u e => by
  refine ⟨u, ?_, rfl⟩
  have lt := (Array.getElem?_eq_some_iff.mp e).1
  show (h.objs.push o)[b]? = some u
  rw [Array.getElem?_push_lt lt]
  exact (Array.getElem?_eq_some_iff.mp e).2 ▸ rfl
theorem DK.update {h : Heap} {a : Addr} {f : Obj → Obj} (hf : ∀ o, (f o).dict = o.dict) : DK h (h.update a f) := fun b u e => by
  have q : (h.update a f).objs[b]? = if a = b then h.objs[b]?.map f else h.objs[b]? := Array.getElem?_modify
  rw [q, e]
  by_cases c : a = b
  · rw [if_pos c]; exact ⟨_, rfl, hf u⟩
  · rw [if_neg c]; exact ⟨_, rfl, rfl⟩
noncomputable def KD {α : Type} : Sem α → Prop
  | .pure _ => True
  | .raise _ => True
  | .unsupported _ => True
  | .finish _ => True
  | .rule _ k => KD (k ())
  | .at _ k => KD (k ())
  | .load _ _ k => ∀ o, KD (k o)
  | .update _ _ f k => (∀ o, (f o).dict = o.dict) ∧ KD (k ())
  | .alloc _ k => ∀ a, KD (k a)
  | .loadIfAlive _ k => ∀ o, KD (k o)
  | .point _ k => KD (k ())
  | .register _ _ => True
  | .fresh k => ∀ t, KD (k t)
  | .ask k => ∀ x, KD (k x)
  | .choose _ _ k => ∀ n, KD (k n)
  | .os _ _ k => ∀ r, KD (k r)
  | .call _ _ _ _ _ => False
  | .handled _ k => ∀ v, KD (k v)
  | .newGen _ k => ∀ n, KD (k n)
  | .genState _ k => ∀ x, KD (k x)
  | .resume _ _ _ _ => False
  | .yield _ _ _ _ => True
  | .stack k => ∀ l, KD (k l)
  | .fork _ _ => True
  | .thread k => ∀ n, KD (k n)
  | .await _ _ _ _ _ => True
theorem KD.bind {α β : Type} {t : Sem α} {f : α → Sem β} (h : KD t) (hf : ∀ a, KD (f a)) : KD (t.bind f) := by
  induction t with
  | pure a => exact hf a
  | raise e => trivial
  | unsupported w => trivial
  | finish e => trivial
  | rule g k ih => exact ih () h
  | «at» p k ih => exact ih () h
  | load a p k ih => exact fun o => ih o (h o)
  | update a p g k ih => exact ⟨h.1, ih () h.2⟩
  | alloc o k ih => exact fun a => ih a (h a)
  | loadIfAlive a k ih => exact fun o => ih o (h o)
  | point l k ih => exact ih () h
  | register a k ih => trivial
  | fresh k ih => exact fun t => ih t (h t)
  | ask k ih => exact fun x => ih x (h x)
  | choose s n k ih => exact fun n => ih n (h n)
  | os q l k ih => exact fun r => ih r (h r)
  | call c hh g l k ih => exact h.elim
  | handled o k ih => exact fun v => ih v (h v)
  | newGen c k ih => exact fun n => ih n (h n)
  | genState g k ih => exact fun x => ih x (h x)
  | resume g r l k ih => exact h.elim
  | yield v g l k ih => trivial
  | stack k ih => exact fun l => ih l (h l)
  | fork c k ih => trivial
  | thread k ih => exact fun n => ih n (h n)
  | await a t d l k ih => trivial
theorem kd_wp {α : Type} {M : Model} {Γ : PySem.Ctx} {E : Value → Pos → Shared → Prop} {t : Sem α} (k : KD t) : ∀ {Q : α → Pos → Shared → Prop} {p : Pos} {s : Shared}, Sem.wp M Γ t Q E p s → Sem.wp M Γ t (fun a p' s' => Q a p' s' ∧ DK s.heap s'.heap) E p s := by
  have go : ∀ (t : Sem α), KD t → ∀ {Q : α → Pos → Shared → Prop} {p : Pos} {s : Shared} (h0 : Heap), DK h0 s.heap → Sem.wp M Γ t Q E p s → Sem.wp M Γ t (fun a p' s' => Q a p' s' ∧ DK h0 s'.heap) E p s := by
    intro t
    induction t with
    | pure a => intro _ Q p s h0 d h; rw [Sem.wp] at h ⊢; exact ⟨h, d⟩
    | raise e => intro _ Q p s h0 d h; rw [Sem.wp] at h ⊢; exact h
    | unsupported w => intro _ Q p s h0 d h; rw [Sem.wp] at h; exact h.elim
    | finish e => intro _ Q p s h0 d h; rw [Sem.wp] at h; exact h.elim
    | rule g k ih => intro K Q p s h0 d h; rw [Sem.wp] at h ⊢; exact ih () K h0 d h
    | «at» p' k ih => intro K Q p s h0 d h; rw [Sem.wp] at h ⊢; exact ih () K h0 d h
    | load a p' k ih => intro K Q p s h0 d h; rw [Sem.wp] at h ⊢; obtain ⟨o, e, q⟩ := h; exact ⟨o, e, ih o (K o) h0 d q⟩
    | update a p' g k ih => intro K Q p s h0 d h; rw [Sem.wp] at h ⊢; exact ⟨h.1, ih () K.2 h0 (d.trans (.update K.1)) h.2⟩
    | alloc o k ih => intro K Q p s h0 d h; rw [Sem.wp] at h ⊢; exact ih _ (K _) h0 (d.trans .push) h
    | loadIfAlive a k ih => intro K Q p s h0 d h; rw [Sem.wp] at h ⊢; exact ih _ (K _) h0 d h
    | point l k ih => intro K Q p s h0 d h; rw [Sem.wp] at h ⊢; exact ih () K h0 d h
    | register a k ih => intro K Q p s h0 d h; rw [Sem.wp] at h; exact h.elim
    | fresh k ih => intro K Q p s h0 d h; rw [Sem.wp] at h ⊢; exact ih _ (K _) h0 d h
    | ask k ih => intro K Q p s h0 d h; rw [Sem.wp] at h ⊢; exact ih _ (K _) h0 d h
    | choose s' n k ih => intro K Q p s h0 d h; rw [Sem.wp] at h ⊢; exact ⟨h.1, ih _ (K _) h0 d h.2⟩
    | os q l k ih => intro K Q p s h0 d h; rw [Sem.wp] at h ⊢; exact ih _ (K _) h0 d h
    | call c hh g l k ih => intro K; exact K.elim
    | handled o k ih => intro K Q p s h0 d h; rw [Sem.wp] at h ⊢; exact ih _ (K _) h0 d h
    | newGen c k ih => intro K Q p s h0 d h; rw [Sem.wp] at h ⊢; exact ih _ (K _) h0 d h
    | genState g k ih => intro K Q p s h0 d h; rw [Sem.wp] at h ⊢; obtain ⟨o, e, q⟩ := h; exact ⟨o, e, ih _ (K _) h0 d q⟩
    | resume g r l k ih => intro K; exact K.elim
    | yield v g l k ih => intro K Q p s h0 d h; rw [Sem.wp] at h; exact h.elim
    | stack k ih => intro K Q p s h0 d h; rw [Sem.wp] at h ⊢; exact ih _ (K _) h0 d h
    | fork c k ih => intro K Q p s h0 d h; rw [Sem.wp] at h; exact h.elim
    | thread k ih => intro K Q p s h0 d h; rw [Sem.wp] at h ⊢; exact ih _ (K _) h0 d h
    | await a t d' l k ih => intro K Q p s h0 d h; rw [Sem.wp] at h; exact h.elim
  exact fun {Q p s} h => go t k _ (.refl _) h
theorem kd_any {α : Type} {M : Model} {A : Around} {E : Value → Shared → Prop} {t : Sem α} {Q : α → Shared → Prop} {s : Shared} (k : KD t) (h : wpAny M A t Q E s) : wpAny M A t (fun a s' => Q a s' ∧ DK s.heap s'.heap) E s :=
  fun Γ p i => kd_wp k (h Γ p i)
theorem kd_pure {α : Type} {a : α} : KD (pure a : Sem α) := trivial
theorem kd_b {α β : Type} {t : Sem α} {f : α → Sem β} (h : KD t) (hf : ∀ a, KD (f a)) : KD (t >>= f) := KD.bind h hf
theorem kd_load {a : Addr} : KD (load a) := fun _ => trivial
theorem kd_upd {a : Addr} {f : Obj → Obj} (hf : ∀ o, (f o).dict = o.dict) : KD (update a f) := ⟨hf, trivial⟩
theorem mapFields_dict (g : Array Value → Array Value) (o : Obj) : (Obj.mapFields g o).dict = o.dict := by
  obtain ⟨c, d, dt, sl⟩ := o; cases dt <;> rfl
theorem kd_fieldsOf {v : Value} : KD (fieldsOf v) := by
  cases v <;> first | trivial | (refine kd_b kd_load fun o => ?_; obtain ⟨c, d, dt, sl⟩ := o; cases dt <;> trivial)
theorem kd_field {v : Value} {i : Nat} : KD (field v i) := by
  refine kd_b kd_fieldsOf fun vs => ?_
  show KD (match vs[i]? with | some x => pure x | none => unsupported "internal:no-such-field")
  cases vs[i]? <;> trivial
theorem kd_setField {v : Value} {i : Nat} {x : Value} : KD (setField v i x) := by
  cases v <;> first | trivial | skip
  refine kd_b kd_load fun o => ?_
  obtain ⟨c, d, dt, sl⟩ := o
  cases dt <;> first | trivial | skip
  rename_i vs
  show KD (if i < vs.size then update _ (Obj.mapFields (·.setIfInBounds i x)) else unsupported "internal:no-such-field")
  split
  · exact kd_upd (mapFields_dict _)
  · trivial
theorem kd_setFlight {v : Value} {f : Option Addr} : KD (setFlight v f) := by
  refine kd_b kd_field fun tb => ?_
  show KD (if (tb != .none) = true then setField tb 3 (f.elim .none fun f => rawInt f) else pure ())
  split
  · exact kd_setField
  · trivial
theorem kd_stack {α : Type} {k : List (Code × Pos) → Sem α} (h : ∀ l, KD (k l)) : KD (stack >>= k) := kd_b (fun _ => trivial) h
theorem kd_frameEnvs : KD frameEnvs := kd_stack fun _ => trivial
theorem kd_isImport {env : Env} {l : List Env} : KD (behindIsImport env l) := by
  unfold behindIsImport
  split
  · trivial
  · split
    · trivial
    · exact kd_b kd_field fun _ => trivial
theorem kd_back {env : Env} {i : Bool} {l : List Env} : KD (keptBack env i l) := by
  cases l with
  | nil =>
    show KD (if (env.scope.isGenerator || env.scope.isCoroutine) = true then pure Value.none else do
      let q ← underTheClaimsCaller
      pure (if q = true then Value.notImplemented else Value.none))
    split
    · trivial
    · exact kd_b (kd_stack fun _ => kd_pure) fun _ => kd_pure
  | cons c r => trivial
theorem kd_ready : ∀ l : List Env, KD (readyFrames l)
  | [] => trivial
  | env :: outer => by
    unfold readyFrames
    cases env.frame with
    | none => trivial
    | some f =>
      refine kd_b kd_load fun o => ?_
      split
      · trivial
      · exact kd_b kd_isImport fun _ => kd_b kd_back fun _ => kd_b (kd_upd fun _ => rfl) fun _ => kd_ready outer
theorem kd_frameOf {env : Env} : KD (frameOf env) := by
  refine kd_b kd_frameEnvs fun l => kd_b ?_ fun o => ?_
  · cases l.dropWhile (·.frame != env.frame) with
    | nil => trivial
    | cons e r => exact kd_b (kd_ready _) fun _ => trivial
  · cases o <;> trivial
theorem kd_place {f : Addr} {b : Bool} : KD (entryPlaceOf f b) := by
  refine kd_stack fun l => ?_
  split <;> trivial
theorem kd_newFields (vs : List Value) : KD (newFields "traceback" vs) := by
  unfold newFields newObj
  dsimp only
  have as : ∀ d, KD (newObjAsIs (.type "traceback") d) := fun d => kd_b (fun _ => kd_pure) fun _ => kd_pure
  split
  · trivial
  · exact as _
theorem kd_note {e : Value} {env : Env} : KD (noteFrame e env) := by
  unfold noteFrame
  cases env.frame with
  | none => trivial
  | some f =>
    refine kd_b kd_field fun hd => ?_
    have last : KD (do setField e 1 (← EntryCells.newEntry hd (← frameOf env) .none (rawInt f) .none (← entryPlaceOf f (hd != .none)))) := by
      refine kd_b kd_frameOf fun _ => kd_b kd_place fun _ => kd_b ?_ fun _ => kd_setField
      exact kd_newFields _
    dsimp only
    split
    · refine kd_b kd_field fun x => ?_
      split
      · trivial
      · exact kd_b kd_setField fun _ => last
    · exact last
theorem kd_leaving {e : Value} {env : Env} : KD (leaving env e) := kd_b kd_note fun _ => kd_setFlight
end L2

namespace L2
open PySem PySem.Spec PyProof.Rows

noncomputable def ExcAt (C a : Addr) (h : Heap) : Prop := ∃ o, h.get? a = some o ∧ o.cls = .ref C ∧ o.dict = none ∧ PySem.W.notCls o = true
noncomputable def excO (C a : Addr) : HO := .ext (ExcAt C a)
theorem excO_ok {P : Program} {w : World} {H : Hp} {h : Heap} {C a : Addr} (e : ExcAt C a h) : ObjOk P w H h a (excO C a) :=
  ⟨e, let ⟨o, ho, _⟩ := e; ⟨o, ho⟩, fun h1 h2 ⟨o, ho, hc⟩ k => ⟨o, k o ho, hc⟩⟩
theorem exc_on {h h' B : Heap} {l : List Env} {C a : Addr} {a0 : Value} (e : ExcAt C a h) (f : Heap.FlyingW B l a (.ref C) a0 h') (k : DK h h') : ExcAt C a h' := by
  obtain ⟨o, h1, h2, h3, h4⟩ := e
  obtain ⟨oe, vs, g1, g2, g3, _⟩ := f.first
  exact ⟨oe, g1, g2, (k.get h1 g1).trans h3, by unfold PySem.W.notCls; rw [g3]⟩
theorem ObjOk.get {P : Program} {w : World} {H : Hp} {h : Heap} {a : Addr} {o : HO} (x : ObjOk P w H h a o) : ∃ u, h.get? a = some u := by
  cases o with
  | lst xs => obtain ⟨_, _, _, _, e⟩ := x; exact ⟨_, e⟩
  | tup xs => obtain ⟨_, _, _, ob, e, _⟩ := x; exact ⟨_, e⟩
  | dK kvs => obtain ⟨_, _, _, _, o, _, _, e, _⟩ := x; exact ⟨_, e⟩
  | dT kvs => obtain ⟨_, _, _, _, o, _, _, e, _⟩ := x; exact ⟨_, e⟩
  | set S n => obtain ⟨o, _, _, _, e, _⟩ := x; exact ⟨_, e⟩
  | ins C dx fs => obtain ⟨_, _, _, e, _⟩ := x; exact ⟨_, e⟩
  | own y => exact x
  | xd fs => obtain ⟨_, ⟨_, _, _, e, _⟩, _⟩ := x; exact ⟨_, e⟩
  | rng lo hi => obtain ⟨_, _, _, e⟩ := x; exact ⟨_, e⟩
  | frz ob u => obtain ⟨e, _⟩ := x; exact ⟨_, e⟩
  | tbl ps => exact ⟨_, (show h.get? a = some _ from x)⟩
  | met f y => exact ⟨_, (show h.get? a = some _ from x)⟩
  | ext φ => obtain ⟨_, e, _⟩ := x; exact e

structure FlyD (P : Program) (w : World) (l : List Env) (H : Hp) (h B : Heap) (a C : Addr) (H' : Hp) (h1 : Heap) : Prop where
  un : Un (frs l) [] H H' h h1
  hok : HOk P w H' h1
  stays : B.StaysIn h1
  trk : ∀ b u, H' b = some u → b ≠ a → ∃ o, B.get? b = some o
  old : ∀ b o, h.get? b = some o → H b = none → b ∉ frs l → B.get? b = some o
  older : ∀ b o, h.get? b = some o → b ∉ frs l → ∃ o', B.get? b = some o'
  exc : H' a = some (excO C a)
  new : h.get? a = none

section
variable {P : Program} {w : World} {l : List Env} {H H' : Hp} {h h1 h2 B : Heap} {a C : Addr}
theorem nin {b : Addr} : b ∉ ([] : List Addr) := fun z => by cases z
theorem FlyD.move (D : FlyD P w l H h B a C H' h1) (k : B.StaysIn h2) (th : ExcAt C a h2) (sm : h1.UpToSlots h2) (fr : h1.FunFrames B l) : FlyD P w l H h B a C H' h2 := by
  have slot : ∀ b o, h.get? b = some o → H b = none → b ∈ frs l → ∃ sl, h2.get? b = some { o with slots := sl } := fun b o q n hb => by
    obtain ⟨sl, e⟩ := D.un.slot b o q n hb nin
    obtain ⟨_, o', ho', nf⟩ := fr.mem hb
    rw [e] at ho'
    cases ho'
    obtain ⟨sl2, e2⟩ := sm _ _ e nf
    exact ⟨sl2, e2⟩
  refine ⟨⟨fun b o q n hb _ => k _ _ (D.old b o q n hb), fun b o q n hb _ => slot b o q n hb, D.un.free, fun b o q _ => ?_, D.un.tups, D.un.frzs, D.un.tbls⟩, fun b u e => ?_, k, D.trk, D.old, D.older, D.exc, D.new⟩
  · by_cases hb : b ∈ frs l
    · obtain ⟨_, o', ho', nf⟩ := fr.mem hb
      obtain ⟨sl, e⟩ := sm _ _ ho' nf
      exact ⟨_, e⟩
    · obtain ⟨o', e⟩ := D.older b o q hb
      exact ⟨o', k _ _ e⟩
  · by_cases hb : b = a
    · subst hb
      rw [D.exc] at e
      cases e
      exact excO_ok th
    · refine (D.hok b u e).stay (fun c v hc q => ?_) (fun _ z => z) fun _ _ z => z
      obtain ⟨o, ho⟩ : ∃ o, B.get? c = some o := by
        rcases hc with rfl | hc
        · exact D.trk c u e hb
        · exact D.trk c _ hc fun z => by rw [z, D.exc] at hc; cases hc
      have := D.stays _ _ ho
      rw [q] at this
      cases this
      exact k _ _ ho
end

section
variable {X : Cx} {pins : List (Addr × Obj)} {σ : St} {H H' : Hp} {s : Shared} {h h1 B : Heap} {a C : Addr} {vs : List Value}
theorem FlyD.up (I : Inv X pins σ H s) (hx : X.ex = []) (D : FlyD X.prog X.w X.stack H s.heap B a C H' h1) : FlyD X.prog X.w X.outer X.H₀ X.s₀.heap B a C H' h1 := by
  have nx : ∀ {b : Addr}, b ∉ X.ex := fun {b} z => by rw [hx] at z; cases z
  have out : ∀ {b : Addr} {o : Obj}, X.s₀.heap.get? b = some o → b ∉ frs X.outer → b ∉ frs X.stack := fun {b o} q n z => by
    rcases List.mem_cons.mp (I.stkSub b z) with e | e
    · exact absurd (Nat.lt_of_lt_of_le (Heap.lt_size q) (e ▸ I.ok.above)) (Nat.lt_irrefl _)
    · exact n e
  have kp := fun b o q n hb => I.base.keep b o q n hb (nx (b := b))
  have fe := fun b o q n => I.base.free b o q n (nx (b := b))
  refine ⟨⟨fun b o q n hb _ => D.un.keep b o (kp b o q n hb) (fe b o q n) (out q hb) nin, fun b o q n hb _ => ?_, fun b o q n _ => ?_, fun b o q _ => ?_, fun b xs q => D.un.tups _ _ (I.base.tups _ _ q), fun b o u q => D.un.frzs _ _ _ (I.base.frzs _ _ _ q), fun b ps q => ?_⟩,
    D.hok, D.stays, D.trk, fun b o q n hb => D.old b o (kp b o q n hb) (fe b o q n) (out q hb), fun b o q hb => ?_, D.exc, ?_⟩
  · obtain ⟨sl, e⟩ := I.base.slot b o q n hb nx
    obtain ⟨sl2, e2⟩ := D.un.any e (fe b o q n) nin
    exact ⟨sl2, e2⟩
  · obtain ⟨o', e⟩ := I.base.there b o q nx
    exact D.un.free b o' e (fe b o q n) nin
  · obtain ⟨o', e⟩ := I.base.there b o q nx
    exact D.un.there b o' e nin
  · obtain ⟨m1, e1⟩ := I.base.tbls b ps q
    obtain ⟨m2, e2⟩ := D.un.tbls b _ e1
    exact ⟨m1 ++ m2, by rw [e2, Array.append_assoc]⟩
  · obtain ⟨o', e⟩ := I.base.there b o q nx
    exact D.older b o' e (out q hb)
  · cases q : X.s₀.heap.get? a with
    | none => rfl
    | some o =>
      obtain ⟨o', e⟩ := I.base.there a o q nx
      rw [D.new] at e; cases e

noncomputable abbrev noFr (X : Cx) (h : Heap) : Heap := PySem.W.hideAll h (frs X.stack)
theorem frames_on {B h' : Heap} : ∀ {l : List Env}, h.FunFrames X.base l → (∀ b ∈ frs l, B.get? b = none) → (∀ b o, h.get? b = some o → h'.get? b = some o) → h'.FunFrames B l
  | [], _, _, _ => trivial
  | env :: r, ⟨k, ⟨L, o, hf, _, ho, nf⟩, hr⟩, hn, kp => ⟨k, ⟨L, o, hf, hn L (by unfold frs; rw [List.filterMap_cons, hf]; exact List.mem_cons_self), kp _ _ ho, nf⟩,
      frames_on hr (fun b hb => hn b (by unfold frs; rw [List.filterMap_cons, hf]; exact List.mem_cons_of_mem _ hb)) kp⟩
theorem FlyD.first (I : Inv X pins σ H s) (m : Heap.MadeExcOf s.heap h1 a (.ref C) vs) : FlyD X.prog X.w X.stack H s.heap (noFr X s.heap) a C (upd H a (excO C a)) h1 ∧ h1.FunFrames (noFr X s.heap) X.stack ∧ (noFr X s.heap).get? a = none := by
  have hn : H a = none := by
    cases q : H a with
    | none => rfl
    | some u =>
      obtain ⟨o, e⟩ := (I.hok a u q).get
      rw [m.new] at e; cases e
  have na : ∀ {b : Addr} {o : Obj}, s.heap.get? b = some o → b ≠ a := fun {b o} q z => by rw [z, m.new] at q; cases q
  have hide : ∀ b o, s.heap.get? b = some o → b ∉ frs X.stack → (noFr X s.heap).get? b = some o := fun b o q n => PySem.W.hideAll_get _ q n
  have un : Un (frs X.stack) [] H (upd H a (excO C a)) s.heap h1 := ⟨fun b o q _ _ _ => m.keeps b o q, fun b o q _ _ _ => ⟨o.slots, m.keeps b o q⟩, fun b o q n _ => by rw [upd_ne (na q)]; exact n, fun b o q _ => ⟨o, m.keeps b o q⟩,
    fun b xs q => by rw [upd_ne (ne_of_none q hn)]; exact q, fun b o u q => by rw [upd_ne (ne_of_none q hn)]; exact q, fun b ps q => ⟨#[], by rw [upd_ne (ne_of_none q hn), q]; simp⟩⟩
  obtain ⟨t, ht, _⟩ := m.there
  refine ⟨⟨un, fun b u e => ?_, fun b o q => m.keeps _ _ (PySem.W.of_hideAll _ q), fun b u e hb => ?_, fun b o q _ hb => hide b o q hb, fun b o q hb => ⟨o, hide b o q hb⟩, upd_same, m.new⟩,
    frames_on I.stack (fun b hb => PySem.W.hideAll_none _ hb) m.keeps, ?_⟩
  · by_cases hb : b = a
    · subst hb
      rw [upd_same] at e
      cases e
      exact excO_ok ⟨_, ht, rfl, rfl, rfl⟩
    · rw [upd_ne hb] at e
      exact (I.hok b u e).stay (fun c v _ q => m.keeps c v q) (fun c q => by rw [upd_ne (ne_of_none q hn)]; exact q) fun c xs q => by rw [upd_ne (ne_of_none q hn)]; exact q
  · rw [upd_ne hb] at e
    obtain ⟨o, ho⟩ := (I.hok b u e).get
    exact ⟨o, hide b o ho fun z => by rw [I.stkFree b z] at e; cases e⟩
  · cases q : (noFr X s.heap).get? a with
    | none => rfl
    | some o => exact absurd rfl (na (PySem.W.of_hideAll _ q))
theorem FlyD.land {s' : Shared} (I : Inv X pins σ H s) (D : FlyD X.prog X.w X.stack H s.heap B a C H' s'.heap) (ho : s'.os = s.os) (hg : AllBare s'.gens) : Inv X pins σ H' s' :=
  I.call' ho D.un D.hok hg fun b z => absurd z nin
end

noncomputable def CXN (P : Program) (w : World) : CXT := fun l H s E e s' => ∃ (a C : Addr) (H' : Hp) (B : Heap) (a0 : Value), e = .ref a ∧ s'.os = s.os ∧ AllBare s'.gens ∧ FlyD P w l H s.heap B a C H' s'.heap ∧ Heap.FlyingW B l a (.ref C) a0 s'.heap ∧ E (.ref C) (some a) H'

section
variable {P : Program} {w : World} {K : PySem.W.Frag} {mg : Str → Option Value} {base : Heap} {N : List Str} {qual : Str} {scope : Scope} {f : Addr} {cd : Value} {A : Around} {outer : List Env} {s₀ : Shared} {H₀ : Hp} {E : XK}
theorem passN : Passes (CXN P w) (cxOf (CXN P w) P w K mg base N qual scope f cd A outer s₀ H₀ E) E := by
  rintro pins σ H s e s' I ⟨a, C, H', B, a0, rfl, os, bare, D, fl, q⟩
  show wpAny (model P w) _ (leaving _ (.ref a)) _ _ s'
  have e : ExcAt C a s'.heap := (D.hok a _ D.exc).1
  refine wpAny_mono (kd_any kd_leaving (wpAny_leaves_onW (Q := fun _ s2 => ∃ h', s2 = { s' with heap := h' } ∧ Heap.FlyingW B outer a (.ref C) a0 h' ∧ s'.heap.UpToSlots h') I.ok.frames rfl fl fun h' fl' sm => ⟨h', rfl, fl', sm⟩)) ?_ fun _ _ z => z
  rintro _ s2 ⟨⟨h', rfl, fl', sm⟩, dk⟩
  exact ⟨a, C, H', B, a0, rfl, os.trans I.os, bare, (FlyD.up I rfl D).move fl'.1 (exc_on e fl' dk) sm fl.2.2.1.2.2, fl', q⟩
theorem raiseN {pins : List (Addr × Obj)} {σ : St} {H : Hp} {s : Shared} {h' : Heap} {a C : Addr} {vs : List Value} (I : Inv (cxOf (CXN P w) P w K mg base N qual scope f cd A outer s₀ H₀ E) pins σ H s)
    (m : Heap.MadeExcOf s.heap h' a (.ref C) vs) (q : E (.ref C) (some a) (upd H a (excO C a))) : (cxOf (CXN P w) P w K mg base N qual scope f cd A outer s₀ H₀ E).xe (.ref a) { s with heap := h' } := by
  obtain ⟨D, fr, hn⟩ := FlyD.first I m
  obtain ⟨t, ht, _⟩ := m.there
  show wpAny (model P w) _ (leaving _ (.ref a)) _ _ { s with heap := h' }
  have e : ExcAt C a h' := ⟨_, ht, rfl, rfl, rfl⟩
  refine wpAny_mono (kd_any kd_leaving (wpAny_leaving_firstW (base := noFr (cxOf (CXN P w) P w K mg base N qual scope f cd A outer s₀ H₀ E) s.heap) (Q := fun _ s2 => ∃ h2, s2 = { s with heap := h2 } ∧ Heap.LeftW (noFr (cxOf (CXN P w) P w K mg base N qual scope f cd A outer s₀ H₀ E) s.heap) (_ :: outer) a (.ref C) _ h' h2) I.ok.frames fr rfl ht D.stays hn rfl rfl rfl fun h2 L => ⟨h2, rfl, L⟩)) ?_ fun _ _ z => z
  rintro _ s2 ⟨⟨h2, rfl, k1, k2, k3, k4⟩, dk⟩
  have fl : Heap.FlyingW _ outer a (.ref C) _ h2 := ⟨k1, hn, k2.2.2, k3⟩
  exact ⟨a, C, _, _, _, rfl, I.os, I.bare, (FlyD.up I rfl D).move k1 (exc_on e fl dk) (fun b o h n => k4 b o h n) fr.2.2, fl, q⟩
end
end L2

namespace L2
open PySem PySem.Spec PyProof.Rows

abbrev bmVE : List Value := [.type "ValueError", .type "Exception", .type "BaseException", .type "object"]
structure XCls (K : PySem.W.Frag) (x : Str) (C : Addr) : Prop where
  at_ : PySem.W.nsIn K mainGlobals x = some (some (.ref C))
  ex : PySem.W.excIn K C bmVE "ValueError.__new__" = true
theorem nsFind_none {es : Array DictEntry} {x : Str} (h : ∀ e ∈ es, e.key.isStr x = false) : nsFind es x = none := by
  unfold nsFind findBy
  rw [Option.map_eq_none_iff, Array.find?_eq_none]
  intro e he
  show ¬ e.key.isStr x = true
  rw [h e he]
  decide
theorem XCls.own {K : PySem.W.Frag} {mg : Str → Option Value} {h : Heap} {x : Str} {C : Addr} (c : XCls K x C) (X : K.In h) (M : Mod K mg h) : OwnCls x C bmVE "ValueError.__new__" mg h := by
  obtain ⟨e, q⟩ := c
  obtain ⟨mb, b1, b2⟩ := M.blt
  obtain ⟨o, es, ep, ho, hd, hk, hm⟩ := id M.glob
  refine PySem.W.own_of_in (p := default) (loose := es.toList.filterMap fun e => match e.key with | .str y _ => some y | _ => none) X ⟨M.glob, b1, M.nolimit, b2, fun y _ hy _ _ _ => ?_⟩ e q
  rw [← hm y]
  refine nsFind_none fun e he => ?_
  obtain ⟨n, t, hn⟩ := hk e he
  rw [hn]
  cases z : (Value.str n t).isStr y with
  | false => rfl
  | true =>
    refine absurd (List.mem_filterMap.mpr ⟨e, Array.mem_toList_iff.mpr he, ?_⟩) hy
    rw [hn]
    have : n = y := by
      unfold Value.isStr at z
      exact beq_iff_eq.mp z
    rw [this]

section
variable {P : Program} {w : World} {K : PySem.W.Frag} {mg : Str → Option Value} {base : Heap} {N : List Str} {qual : Str} {scope : Scope} {f : Addr} {cd : Value} {A : Around} {outer : List Env} {s₀ : Shared} {H₀ : Hp} {E : XK}
noncomputable def tRaise (C : Addr) (E : XK) (t : TA) : TS := fun _ σ H => t σ H fun vs H1 => vs.length ≤ sizeLine ∧ ∀ a, H1 a = none → E (.ref C) (some a) (upd H1 a (excO C a))
theorem ps_raise {x : Str} {C : Addr} {np cpos pos : Pos} {e : Expr} {es : List Expr} {t : TA} {k : Nat} (hC : XCls K x C) (hr : Room k (A.deeper (envOfC qual scope s₀.heap.objs.size f cd)))
    (ha : PA (cxOf (CXN P w) P w K mg base N qual scope f cd A outer s₀ H₀ E) (e :: es) t) (hg : Gl (cxOf (CXN P w) P w K mg base N qual scope f cd A outer s₀ H₀ E) x) (hd : (x == ("__debug__" : Str)) = false := by decide)
    (he : starEach (e :: es) (envOfC qual scope s₀.heap.objs.size f cd) = (false, eval e (envOfC qual scope s₀.heap.objs.size f cd)) :: starEach es (envOfC qual scope s₀.heap.objs.size f cd) := by rfl)
    (hpl : (backTo cpos (starEach es (envOfC qual scope s₀.heap.objs.size f cd))).any (·.1) = false := by rfl) :
    PS (cxOf (CXN P w) P w K mg base N qual scope f cd A outer s₀ H₀ E) (.Raise (some (.Call (.Name x np) (e :: es) [] cpos)) none pos) (tRaise C E t) := by
  intro pins s σ H D I h
  have own := hC.own I.ok.mod.kin I.ok.mod
  obtain ⟨tl, Nn, nm, q, bs, hdct, sn, sub, ab, col, dd, k0, k1, k2, k3, k5, mN, hC1, hN, hni, T⟩ := own.obj
  refine wpAny_Raise_call_subT (C := C) (nm := nm) (q := q) (N := Nn) (bs := bs) (bm := tl) (hdct := hdct) (sn := sn) (sub := sub) (ab := ab) (col := col) (dd := dd) (k0 := k0) (k1 := k1) (k2 := k2) (k3 := k3) (k5 := k5)
    PySem.F.excBase_ValueError (mN := mN) (T.hasType PySem.F.excBase_ValueError.hasBase) hr.hd (by rw [show starEach (e :: es) (cxOf (CXN P w) P w K mg base N qual scope f cd A outer s₀ H₀ E).env = _ from he]; show (false || (backTo cpos (starEach es (envOfC qual scope s₀.heap.objs.size f cd))).any (·.1)) = false; rw [hpl]; rfl) hni (ld_glob I hg own.bound ⟨rfl, ?_⟩ hd)
  have hp := ha cpos pins s σ H _ I h
  rw [show starEach (e :: es) (cxOf (CXN P w) P w K mg base N qual scope f cd A outer s₀ H₀ E).env = _ from he] at hp ⊢
  refine Calls.evalArgs_plain (thn hp fun us s2 ⟨vs, H1, I1, r, z, q⟩ => ⟨rfl, by rw [← r.length]; exact z, I1.bk _ _ hC1, hN.keeps I1.bk, T.keeps I1.bk, fun h' a m => ?_⟩)
  refine raiseN I1 m (q a ?_)
  cases z : H1 a with
  | none => rfl
  | some u =>
    obtain ⟨o, ho⟩ := (I1.hok a u z).get
    rw [m.new] at ho; cases ho
end

structure DfnN (P : Program) (w : World) (K : PySem.W.Frag) (mg : Str → Option Value) (base : Heap) (k : Nat) (x : Str) (ps : List Str) (sp : Sp) : Prop where
  ex : ∃ f fd, FnOk P w K mg base (CXN P w) k f fd ps sp ∧ Binds K fd ps [] ∧ PySem.W.keepIn K (.ref f) = true ∧ mg x = some (.ref f)
section
variable {P : Program} {w : World} {K : PySem.W.Frag} {mg : Str → Option Value} {base : Heap}
theorem DfnN.mono {j k : Nat} {x : Str} {ps : List Str} {sp : Sp} (D : DfnN P w K mg base j x ps sp) (h : j ≤ k) : DfnN P w K mg base k x ps sp := by
  obtain ⟨f, fd, F, b, kp, m⟩ := D.ex
  exact ⟨f, fd, F.mono h, b, kp, m⟩
theorem DfnN.of {k : Nat} {x qual : Str} {st : Stmt} {f : Addr} {fd : FuncData} {N ps : List Str} {sp : Sp} (F : Fun K x qual st f fd) (b : Binds K fd ps []) (m : mg x = some (.ref f)) (S : FnScope N ps (defScope st)) (len : ∀ vs H Q E, sp vs H Q E → vs.length = ps.length)
    (hbody : ∀ (cdv : Value) (A : Around) (outer : List Env) (s : Shared) (H : Hp) (vs : List V) (Q : VK) (E : XK), Room k (A.deeper (envOfC qual (defScope st) s.heap.objs.size f cdv)) → sp vs H Q E →
      ∃ t, PSs (cxOf (CXN P w) P w K mg base N qual (defScope st) f cdv A outer s H E) (defBody st) t ∧ t { nx := fun _ H' => Q .non H', rt := Q } (start N vs) H) : DfnN P w K mg base (k + 1) x ps sp := by
  refine ⟨f, fd, ?_, b, F.kp, m⟩
  obtain ⟨oc, od, kV, doc, pm, an, cdv, ct, osl, rfl, lk, hcd⟩ := F.ex
  exact fn_of lk hcd S len fun A outer s H vs Q E hr hsp => hbody cdv A outer s H vs Q E hr hsp
end
theorem PS.nox {X : Cx} {st : Stmt} {t : TS} (h : PS X.nox st t) : PS X st t := fun pins s σ H D I hw =>
  wpAny_mono (h pins s σ H D (I.wish _) hw) (fun _ _ q => q.unwish) fun _ _ z => False.elim z
theorem pe_defN {P : Program} {w : World} {K : PySem.W.Frag} {mg : Str → Option Value} {base : Heap} {N : List Str} {qual : Str} {scope : Scope} {f : Addr} {cd : Value} {A : Around} {outer : List Env} {s₀ : Shared} {H₀ : Hp} {E : XK} {k j : Nat} {x : Str} {ps : List Str} {sp : Sp} {e : Expr} {es : List Expr} {t : TA} {p pos : Pos}
    (D : DfnN P w K mg base k x ps sp) (hr : Room j (A.deeper (envOfC qual scope s₀.heap.objs.size f cd))) (hj : k ≤ j) (hg : Gl (cxOf (CXN P w) P w K mg base N qual scope f cd A outer s₀ H₀ E) x) (ha : PA (cxOf (CXN P w) P w K mg base N qual scope f cd A outer s₀ H₀ E) (e :: es) t)
    (hdb : (x == ("__debug__" : Str)) = false := by decide) (he : starEach (e :: es) (envOfC qual scope s₀.heap.objs.size f cd) = (false, eval e (envOfC qual scope s₀.heap.objs.size f cd)) :: starEach es (envOfC qual scope s₀.heap.objs.size f cd) := by rfl)
    (hpl : (backTo pos (starEach es (envOfC qual scope s₀.heap.objs.size f cd))).any (·.1) = false := by rfl) :
    PE (cxOf (CXN P w) P w K mg base N qual scope f cd A outer s₀ H₀ E) (.Call (.Name x p) (e :: es) [] pos) (tCall sp [] E t) := by
  obtain ⟨g, gd, F, b, kp, m⟩ := D.ex
  exact pe_call F (hr.mono hj) hg m kp b .nil passN ha hdb he hpl

noncomputable def Thrown (X : Cx) (pins : List (Addr × Obj)) (Ex : St → XK) (e : Value) (s' : Shared) : Prop := ∃ σ H s E, Inv X pins σ H s ∧ CXN X.prog X.w X.stack H s E e s' ∧ ∀ c o H', E c o H' → Ex σ c o H'
noncomputable abbrev TX := Ends → (St → XK) → St → Hp → Prop
noncomputable def PSx (X : Cx) (st : Stmt) (t : TX) : Prop :=
  ∀ (pins : List (Addr × Obj)) (s : Shared) (σ : St) (H : Hp) (D : Ends) (Ex : St → XK), Inv X pins σ H s → t D Ex σ H → wpAny (model X.prog X.w) X.A (exec st X.env) (SP X pins D) (Thrown X pins Ex) s
section
variable {X : Cx} {pins : List (Addr × Obj)} {σ : St} {H : Hp} {s : Shared} {k j : Nat} {x n : Str} {ps : List Str} {sp : Sp} {e : Expr} {es : List Expr} {t : TA} {p pos pos' : Pos} {Q : VK} {us : List Value} {vs : List V}
theorem run_fnx {f : Addr} {fd : FuncData} {E : XK} {Ex : St → XK} (F : FnOk X.prog X.w X.K X.mg X.base (CXN X.prog X.w) k f fd ps sp) (hr : Room k X.A) (hb : Binds X.K fd ps []) (hE : ∀ c o H', E c o H' → Ex σ c o H')
    (I : Inv X pins σ H s) (r : Vals vs us) (h : sp vs H Q E) : wpAny (model X.prog X.w) X.A (call (.ref f) us) (EP X pins σ Q) (Thrown X pins Ex) s := by
  have hl : (us ++ []).length = ps.length := by rw [List.append_nil, ← r.length]; exact F.len _ _ _ _ h
  refine wpAny_call (codeAny_mono (F.run X.A X.stack s H ⟨us, []⟩ (us ++ []) vs Q E hr I.env0 (hb s us I.kIn hl) (by rw [List.append_nil]; exact r) h) fun r s' hq => ?_)
  cases r with
  | error e => exact ⟨σ, H, s, E, I, hq, hE⟩
  | ok fl =>
    cases fl with
    | ret u => exact I.after hq
    | next => exact False.elim hq
    | brk => exact False.elim hq
    | cont => exact False.elim hq
end

noncomputable abbrev Cx.caught (X : Cx) (a : Addr) : Cx := { X with A := X.A.mark (some (.ref a)), calm := false, xe := fun _ _ => False }
section
variable {X : Cx} {pins : List (Addr × Obj)} {σ σ' : St} {H : Hp} {s : Shared} {a : Addr}
theorem Inv.caught (I : Inv X pins σ H s) (a : Addr) : Inv (X.caught a) pins σ H s :=
  ⟨⟨I.ok.mod, I.ok.kind, I.ok.glob, I.ok.blt, I.ok.above, I.ok.inj, I.ok.has, I.ok.cab, fun z => (by cases z), I.ok.frames, I.ok.stk, I.ok.exf, I.ok.bs, I.ok.bsz, I.ok.noex, I.ok.exfs, I.ok.funs, I.ok.frf⟩, I.os, I.bare, I.base, I.loc, I.cell, I.free, I.freeC, I.pin, I.hok, I.len⟩
theorem Inv.uncaught (hc : X.A.handled = none) (J : X.Ok) (I : Inv (X.caught a) pins σ H s) : Inv X pins σ H s :=
  ⟨J, I.os, I.bare, I.base, I.loc, I.cell, I.free, I.freeC, I.pin, I.hok, I.len⟩
theorem Inv.relocal {h' : Heap} {m' : Str → Option Value} {t' : Nat} (I : Inv X pins σ H s) (hs : Heap.SameBut X.env.locals s.heap h') (hn : h'.Ns X.env.locals m')
    (hl : ∀ (i : Nat) (y : Str) (v : V), X.N[i]? = some y → σ'[i]? = some (some v) → Vis X.env.scope y → ∃ u, RelV v u ∧ Look X.env h' m' y u) (len : σ'.length = σ.length) :
    Inv X pins σ' H { s with heap := h', toks := t' } := by
  have lt : ∀ {b : Addr} {o : Obj}, X.s₀.heap.get? b = some o → b ≠ X.env.locals := fun {b o} e => Nat.ne_of_lt (Nat.lt_of_lt_of_le (Heap.lt_size e) I.ok.above)
  have tr : ∀ {b : Addr} {u : HO}, H b = some u → b ≠ X.env.locals := fun {b u} e z => by rw [z, I.free] at e; cases e
  refine ⟨I.ok, I.os, I.bare, ⟨fun b o e n hb hx => (hs.2 b (lt e)).trans (I.base.keep b o e n hb hx), fun b o e n hb hx => ?_, I.base.free, fun b o e hx => ?_, I.base.tups, I.base.frzs, I.base.tbls⟩, ⟨m', hn, hl⟩, fun y c e => ?_, I.free, I.freeC, fun p hp => ?_, fun b u e => ?_, len.trans I.len⟩
  · obtain ⟨sl, e1⟩ := I.base.slot b o e n hb hx
    exact ⟨sl, (hs.2 b (lt e)).trans e1⟩
  · obtain ⟨o', e1⟩ := I.base.there b o e hx
    exact ⟨o', (hs.2 b (lt e)).trans e1⟩
  · obtain ⟨v, z⟩ := I.cell y c e
    exact ⟨v, z.sameBut hs (I.cne y c e)⟩
  · obtain ⟨e, n, ne, nf, d⟩ := I.pin p hp
    exact ⟨(hs.2 p.1 ne).trans e, n, ne, nf, d⟩
  · refine (I.hok b u e).stay (fun c w hc q => (hs.2 c ?_).trans q) (fun _ q => q) fun _ _ q => q
    rcases hc with rfl | hc
    · exact tr e
    · exact tr hc
theorem name_goes {A : Around} {E : Value → Shared → Prop} {Q : Unit → Shared → Prop} {i : Nat} {n : Str} {pos : Pos} (I : Inv X pins σ H s) (hN : X.N.Nodup) (hi : X.N[i]? = some n) (hl : X.env.kindOf n = some .local)
    (h : ∀ s', Inv X pins (σ.set i none) H s' → Q () s') : wpAny (model X.prog X.w) A (do bindName X.env n .none; unbindBehindTheSuite X.env n pos) Q E s := by
  obtain ⟨m, hn, hl'⟩ := id I.loc
  refine wpAny_nameGoes_keeps hl hn (by rw [I.ok.kind]; rfl) fun h' v hn' hs => h _ (I.relocal hs hn' (fun j y w e1 e2 e3 => ?_) (by rw [List.length_set]))
  by_cases hj : j = i
  · subst hj
    rw [List.getElem?_set] at e2
    split at e2
    · split at e2 <;> cases e2
    · rename_i z; exact absurd rfl z
  · rw [List.getElem?_set_ne (Ne.symm hj)] at e2
    obtain ⟨u, r, q⟩ := hl' j y w e1 e2 e3
    refine ⟨u, r, ?_⟩
    have hy : y ≠ n := fun z => hj (nodup_ix hN e1 (z ▸ hi))
    rcases q with ⟨k1, q⟩ | ⟨k1, c, e, q⟩
    · exact .inl ⟨k1, (if_neg hy).trans q⟩
    · exact .inr ⟨k1, c, e, q.sameBut hs (I.cne y c e)⟩
end

noncomputable def tTry (K : PySem.W.Frag) (cC : Addr) (i : Nat) (tx : TX) (ts : TS) : TS := fun D σ H =>
  tx D (fun σ1 c o H1 => ∃ C a, c = .ref C ∧ o = some a ∧ PySem.W.exmOne K (.ref C) (.ref cC) = some true ∧
    ts { nx := fun σ2 H2 => D.nx (σ2.set i none) H2, rt := D.rt, bk := fun σ2 H2 => D.bk (σ2.set i none) H2, ct := fun σ2 H2 => D.ct (σ2.set i none) H2 } (σ1.set i (some (.ref a))) H1) σ H
theorem ps_try {X : Cx} {i k : Nat} {n cn : Str} {cC : Addr} {st b₀ : Stmt} {suite : List Stmt} {np hpos pos : Pos} {tx : TX} {ts : TS} (hr : Room k X.A) (hk : X.stack = X.env :: X.outer) (hf : X.env.frame = some X.env.locals) (hN : X.N.Nodup) (hi : X.N[i]? = some n)
    (hl : X.env.scope.names.lookup n = some .local) (hl' : X.env.kindOf n = some .local) (hg : Gl X cn) (hm : X.mg cn = some (.ref cC)) (hx : PSx X st tx) (hs : ∀ a, PSs (X.caught a) (b₀ :: suite) ts) (hd : (cn == ("__debug__" : Str)) = false := by decide) :
    PS X (.Try [st] [.ExceptHandler (some (.Name cn np)) (some n) (b₀ :: suite) hpos] [] [] pos) (tTry X.K cC i tx ts) := by
  intro pins s σ H D I h
  refine wpAny_Try_except (wpAny_execs_cons (wpAny_mono (hx pins s σ H D _ I h) (fun fl s1 q => ?_) fun e s1 q => ?_))
  · cases fl with
    | next => exact wpAny_execs_nil (wpAny_execs_nil q)
    | brk => exact q
    | cont => exact q
    | ret u => exact q
  obtain ⟨σ1, H1, s0, E, I1, ⟨a, C, H2, B, a0, rfl, os, bare, Dd, fl, hq⟩, hE⟩ := q
  obtain ⟨C', a', e1, e2, hsub, hts⟩ := hE _ _ _ hq
  cases e1; cases e2
  have hfr : X.A.frames = some (X.env :: X.outer) := by rw [I.ok.frames, hk]
  rw [hk] at fl
  have ex : ExcAt C a s1.heap := (Dd.hok a _ Dd.exc).1
  refine wpAny_mono (kd_any kd_note (wpAny_looks_onW (Q := fun _ s2 => ∃ h2, s2 = { s1 with heap := h2 } ∧ Heap.HeldW B (X.env :: X.outer) a (.ref C) a0 X.env.locals h2 ∧ s1.heap.UpToSlots h2) hfr hf fl fun h2 hh sm1 => ⟨h2, rfl, hh, sm1⟩)) ?_ fun _ _ z => z
  rintro _ s2 ⟨⟨h2, rfl, hh, sm1⟩, dk1⟩
  refine wpAny_mono (kd_any kd_setFlight (wpAny_landsW (s := { s1 with heap := h2 }) (Q := fun _ s2 => ∃ h3, s2 = { s1 with heap := h3 } ∧ Heap.FlyingW B (X.env :: X.outer) a (.ref C) a0 h3 ∧ h2.UpToSlots h3) hh fun h3 fl3 sm2 => ⟨h3, rfl, fl3, sm2⟩)) ?_ fun _ _ z => z
  rintro _ s2 ⟨⟨h3, rfl, fl3, sm2⟩, dk2⟩
  have mv : ∀ {h' : Heap}, Heap.FlyingW B (X.env :: X.outer) a (.ref C) a0 h' → s1.heap.UpToSlots h' → DK s1.heap h' → Inv X pins σ1 H2 { s1 with heap := h' } := fun {h'} f sm dk =>
    FlyD.land I1 (Dd.move f.1 (exc_on ex f dk) sm (by rw [hk]; exact fl.2.2.1)) os bare
  have I3 := mv fl3 (sm1.trans sm2) (dk1.trans dk2)
  refine wpAny_handleBy_cons (codeAny_handlers_test (ld_glob (X := X.caught a) (I3.caught a) hg hm ?_ hd)) (by intro q; cases q)
  obtain ⟨ob, q1, q2⟩ := fl3.there
  have LT : PySem.W.Looks (model X.prog X.w) h3 (typeOf (.ref a)) (.ref C) := by
    rw [← q2]
    exact (PySem.W.Looks.ld q1).andThen .now
  refine (PySem.W.exm_one (I3.kIn) LT hsub).here ?_
  refine codeAny_handlers_suite_as ?_
  refine wpAny_mono (kd_any kd_setFlight (lands_againW (s := { s1 with heap := h3 }) (Q := fun _ s2 => ∃ h4, s2 = { s1 with heap := h4 } ∧ Heap.FlyingW B (X.env :: X.outer) a (.ref C) a0 h4 ∧ h3.UpToSlots h4) fl3 fun h4 fl4 sm3 => ⟨h4, rfl, fl4, sm3⟩)) ?_ fun _ _ z => z
  rintro _ s4 ⟨⟨h4, rfl, fl4, sm3⟩, dk3⟩
  have I4 := mv fl4 ((sm1.trans sm2).trans sm3) ((dk1.trans dk2).trans dk3)
  refine store_ok2 (X := X.caught a) (I4.caught a) hN hi (.inl hl) (show RelV (.ref a) (.ref a) from rfl) (fun s5 I5 _ => ?_) (.inr hl)
  refine wpAny_mono (hs a pins s5 _ H2 _ I5 hts) (fun fl s6 q => ?_) fun _ _ z => False.elim z
  cases fl with
  | next =>
    obtain ⟨σ', H', J, q⟩ := q
    exact name_goes (J.uncaught hr.hd I.ok) hN hi hl' fun s7 J7 => ⟨_, H', J7, q⟩
  | brk =>
    obtain ⟨σ', H', J, q⟩ := q
    exact name_goes (J.uncaught hr.hd I.ok) hN hi hl' fun s7 J7 => ⟨_, H', J7, q⟩
  | cont =>
    obtain ⟨σ', H', J, q⟩ := q
    exact name_goes (J.uncaught hr.hd I.ok) hN hi hl' fun s7 J7 => ⟨_, H', J7, q⟩
  | ret u =>
    obtain ⟨v, σ', H', J, r, q⟩ := q
    exact name_goes (J.uncaught hr.hd I.ok) hN hi hl' fun s7 J7 => ⟨v, _, H', J7, r, q⟩

section
open PySem.Calls PyProof.Rows
theorem ga_check {M : Model} {A : Around} {x C : Addr} {ox : Obj} {od : Option Obj} {K : PySem.W.Frag} {nameV : Value} {E : Value → Shared → Prop} {s : Shared} {Q : Unit → Shared → Prop} (X : K.In s.heap) (I : PySem.W.InstAt s.heap x ox C od) (hb : PySem.W.mroIn K C (.type "BaseException") = some true) (q : Q () s) :
    wpAny M A (checkBuiltinCall "BaseException.__getattribute__" ⟨[.ref x, nameV], []⟩) Q E s := by
  obtain ⟨hh, g, d, t, os⟩ := s
  have hk : builtinKind "BaseException.__getattribute__" = some .slot := by decide +kernel
  have hsplit : splitId "BaseException.__getattribute__" = some ("BaseException", "__getattribute__") := by decide +kernel
  have ha := F.args_bexc_ga (.ref x) nameV
  have L0 := I.type (M := M)
  have L1 := PySem.W.looks_mroIn (M := M) X hb
  have LI : PySem.W.Looks M hh (isInstance (.ref x) (.type "BaseException")) true := L0.andThen L1
  simp only [checkBuiltinCall, hk, hsplit]
  refine wpAny_bind ?_
  refine LI.at ?_
  repeat (first | assumption | wp_step)
theorem exc_class {prog : Program} {w : World} {A : Around} {x C : Addr} {ox : Obj} {od : Option Obj} {K : PySem.W.Frag} {E : Value → Shared → Prop} {s : Shared} {Q : Option Value → Shared → Prop} (X : K.In s.heap) (I : PySem.W.InstAt s.heap x ox C od)
    (hga : PySem.W.findIn K (.ref C) "__getattribute__" = some (some (.builtin "BaseException.__getattribute__"))) (hgt : PySem.W.findIn K (.ref C) "__getattr__" = some none) (hb : PySem.W.mroIn K C (.type "BaseException") = some true) (hm : PySem.W.mroIn K C (.type "object") = some true)
    (hf : PySem.W.findObj K C od "__class__" = some (.bind (.builtin "getset_descriptor.__get__") (.builtin "object.__class__"))) (q : Q (some (.ref C)) { s with toks := s.toks + 1 }) :
    wpAny (model prog w) A (getAttr? (.ref x) "__class__") Q E s := by
  obtain ⟨hh, g, d, t, os⟩ := s
  have L0 := I.type (M := model prog w)
  have L1 := PySem.W.looks_findIn (M := model prog w) X hga
  have L2 := PySem.W.looks_findIn (M := model prog w) X hgt
  have L3 := PySem.W.looks_find (M := model prog w) X I hf
  unfold getAttr? getAttrBy? getAttrBy
  refine wpAny_bind (wpAny_mkText (wpAny_bind (wpAny_attempt (wpAny_holding (wpAny_bind (L0.at (wpAny_bind (L1.at ?_))))))))
  have e : (onTheHeap (Value.ref C) && Value.builtin "BaseException.__getattribute__" == Value.builtin "object.__getattribute__") = false := by rw [show (Value.builtin "BaseException.__getattribute__" == Value.builtin "object.__getattribute__") = false by decide +kernel]; rfl
  simp only [e, Bool.false_eq_true, if_false]
  unfold getAttrByItsOwn hookBefore
  simp only [onTheHeap, if_true]
  refine wpAny_bind (L2.at ?_)
  refine wpAny_bind (wpAny_attempt (wpAny_holding ?_))
  unfold callGetattribute boundAndCalled
  simp only [Bool.false_and, Bool.false_eq_true, if_false]
  rw [F.excAttr_ValueError.ga.bind (.ref x)]
  refine wpAny_bind (wpAny_pure ?_)
  refine wpAny_call (codeAny_call_builtin F.excAttr_ValueError.ga.plain F.entry_bexc_ga (ga_check (s := ⟨hh, g, d, t + 1, os⟩) X I hb ?_))
  unfold Builtin.«object.__getattribute__»
  refine wpAny_bind (wpAny_pure ?_)
  refine wpAny_bind (wpAny_pure ?_)
  refine wpAny_bind (L0.at (wpAny_bind (L3.at ?_)))
  show wpAny _ _ (holding [_] (call _ [_, .ref x, .ref C]) >>= ret) _ _ _
  refine wpAny_bind (wpAny_holding (wpAny_call (PySem.W.class_get (s := ⟨hh, g, d, t + 1, os⟩) X I hm ?_)))
  refine wpAny_pure ?_
  exact PySem.W.handed_on rfl (wpAny_pure q)
end
structure XAsk (K : PySem.W.Frag) (C : Addr) : Prop where
  hd : PySem.W.hasDictIn K C = true
  ga : PySem.W.findIn K (.ref C) "__getattribute__" = some (some (.builtin "BaseException.__getattribute__"))
  gt : PySem.W.findIn K (.ref C) "__getattr__" = some none
  hb : PySem.W.mroIn K C (.type "BaseException") = some true
  ha : PySem.W.findIn K (.ref C) "__class__" = some (some (.builtin "object.__class__"))
  hn : PySem.W.specialIn K (.builtin "object.__class__") "__get__" = some (some (.builtin "getset_descriptor.__get__"))
  ht : PySem.W.takesIn K (.builtin "object.__class__") = some true
  hm : PySem.W.mroIn K C (.type "object") = some true
section
variable {K : PySem.W.Frag} {C a : Addr}
theorem XAsk.obj (k : XAsk K C) : ∃ cd sl d c, K.lookup C = some ⟨c, d, .cls cd, sl⟩ := by
  have h := k.hd
  unfold PySem.W.hasDictIn PySem.W.clsIn at h
  split at h
  · rename_i c d cd sl q; exact ⟨cd, sl, d, c, q⟩
  · cases h
theorem XAsk.find (k : XAsk K C) : PySem.W.findObj K C none "__class__" = some (.bind (.builtin "getset_descriptor.__get__") (.builtin "object.__class__")) := by
  obtain ⟨cd, sl, d, c, q⟩ := k.obj
  have hc : PySem.W.clsIn K C = some cd := by unfold PySem.W.clsIn; rw [q]
  unfold PySem.W.findObj
  rw [hc, k.ha]
  simp [k.hn, k.ht]
theorem kitx_exc (k : XAsk K C) : PySem.W.KitX K (.ref a) (.ref C) (ExcAt C a) where
  ty := fun M h _ ⟨o, h1, h2, _⟩ => h2 ▸ (PySem.W.Looks.ld h1).andThen .now
  it := fun M h X _ => by
    obtain ⟨cd, sl, d, c, q⟩ := k.obj
    refine fun A Q E s kp z => wpAny_bind (wpAny_loadPart (kp _ _ (X _ _ q)) (wpAny_pure z))
  ne := fun h tp dd its n sl X htp => by
    obtain ⟨cd, sl', d, c, q⟩ := k.obj
    cases z : ((Value.ref C : Value) == .ref tp) with
    | false => rfl
    | true =>
      cases (beq_iff_eq.mp z)
      have := X _ _ q
      rw [htp] at this
      cases this
  ca := fun {_ _ _ _ _ s} X ⟨o, h1, h2, h3, h4⟩ q => by
    have J : PySem.W.InstAt s.heap a o C none := ⟨h1, h2, h4, by rw [h3]; trivial⟩
    exact exc_class X J k.ga k.gt k.hb k.hm k.find q
end
noncomputable def rIsX (K : PySem.W.Frag) : List V → Hp → VK → Prop := fun xs H Q => ∃ x c cv b, xs = [x, c] ∧ ((∃ D, c = .ref D ∧ cv = .ref D) ∨ ∃ T, c = .ty T ∧ cv = .type T) ∧
  ((x = .non ∧ PySem.W.kitOne K (.type "NoneType") cv = some b) ∨ ∃ a C, x = .ref a ∧ H a = some (excO C a) ∧ XAsk K C ∧ PySem.W.kitOne K (.ref C) cv = some b) ∧ Q (.bl b) H
theorem call_isX {X : Cx} : CallR X (.builtin "isinstance") (rIsX X.K) := by
  intro pins s σ H xs us Q I r h
  obtain ⟨x, c, cv, b, rfl, hc, hx, q⟩ := h
  obtain ⟨u, w', rfl, r1, r2⟩ := vals2 r
  have ew : w' = cv := by
    rcases hc with ⟨D, rfl, rfl⟩ | ⟨T, rfl, rfl⟩
    · exact r2
    · exact r2
  subst ew
  rcases hx with ⟨rfl, e⟩ | ⟨a, C, rfl, ha, ask, e⟩
  · cases (show u = Value.none from r1)
    exact PySem.W.kia_one PySem.W.kitx_none I.kIn True.intro e (fun z => nomatch z) fun tk => ⟨.bl b, H, I.tok _, rfl, q⟩
  · cases (show u = Value.ref a from r1)
    have x : ExcAt C a s.heap := (I.hok a _ ha).1
    exact PySem.W.kia_one (kitx_exc ask) I.kIn x e (fun z => nomatch z) fun tk => ⟨.bl b, H, I.tok _, rfl, q⟩
structure XIs (K : PySem.W.Frag) (C : Addr) (no yes : List Value) : Prop where
  ask : XAsk K C
  non : ∀ v ∈ no ++ yes, PySem.W.kitOne K (.type "NoneType") v = some false
  no : ∀ v ∈ no, PySem.W.kitOne K (.ref C) v = some false
  yes : ∀ v ∈ yes, PySem.W.kitOne K (.ref C) v = some true
end L2

namespace L2
open PySem PySem.Spec PyProof.Rows

theorem note_same {env env' : Env} (h : env'.frame = env.frame) (x : Value) : noteFrame x env' = noteFrame x env := by
  unfold noteFrame PySem.frameOf; rw [h]

noncomputable def Marked (B : Heap) (l : List Env) (a : Addr) (cls a0 fl : Value) (h : Heap) : Prop :=
  B.StaysIn h ∧ B.get? a = none ∧ h.FunFrames B l ∧ h.TracedAtW B a cls a0 fl

section
variable {M : Model} {A : Around} {E : Value → Shared → Prop} {s : Shared} {B : Heap} {l : List Env} {a : Addr} {cls a0 fl : Value} {Q : Unit → Shared → Prop}
theorem Marked.remark {h : Heap} (m : Marked B l a cls a0 fl h) : ∃ oe vs T oT ts, h.get? a = some oe ∧ oe.data = .fields vs ∧ vs[1]? = some (.ref T) ∧ h.get? T = some oT ∧ oT.data = .fields ts ∧ ts[3]? = some fl ∧ T ≠ a ∧ B.get? T = none ∧
    ∀ v, Marked B l a cls a0 v (h.update T (Obj.mapFields (·.setIfInBounds 3 v))) ∧ h.UpToSlots (h.update T (Obj.mapFields (·.setIfInBounds 3 v))) := by
  obtain ⟨st, na, fr, oe, vs, T, oT, ts, he, hc, hd, h1, hn, hne, hT, hdT, h3⟩ := m
  refine ⟨oe, vs, T, oT, ts, he, hd, h1, hT, hdT, h3, hne, hn, fun v => ?_⟩
  have off : ∀ b o, h.get? b = some o → b ≠ T → (h.update T (Obj.mapFields (·.setIfInBounds 3 v))).get? b = some o := fun b o q hb => (Heap.get?_update_other _ _ (Ne.symm hb)).trans q
  have nT : ∀ b o, h.get? b = some o → (∀ vs, o.data ≠ .fields vs) → b ≠ T := fun b o q nf z => by
    rw [z, hT] at q; cases q; exact nf _ hdT
  have hdT' := Obj.data_mapFields hdT (·.setIfInBounds 3 v)
  refine ⟨⟨fun b o q => off b o (st b o q) (fun z => by rw [z, hn] at q; cases q), na, fr.of_keeps fun b o q nf => ⟨o, off b o q (nT b o q nf), rfl⟩,
    oe, vs, T, _, _, off _ _ he hne.symm, hc, hd, h1, hn, hne, Heap.get?_update_self _ hT (Obj.isFreed_of_fields hdT'), hdT', ?_⟩, fun b o q nf => ⟨o.slots, off b o q (nT b o q nf)⟩⟩
  rw [Array.getElem?_setIfInBounds, if_pos rfl, if_pos (Array.getElem?_eq_some_iff.mp h3).1]
theorem mark_set (m : Marked B l a cls a0 fl s.heap) (fr : Option Addr) (h : ∀ h', Marked B l a cls a0 (fr.elim .none fun f => rawInt f) h' → s.heap.UpToSlots h' → Q () { s with heap := h' }) :
    wpAny M A (setFlight (.ref a) fr) Q E s := by
  obtain ⟨oe, vs, T, oT, ts, he, hd, h1, hT, hdT, h3, _, _, k⟩ := m.remark
  unfold setFlight
  refine wpAny_bind (wpAny_field he hd h1 ?_)
  rw [if_pos (by simp)]
  exact wpAny_setField hT hdT (Array.getElem?_eq_some_iff.mp h3).1 (h _ (k _).1 (k _).2)
theorem mark_note {env : Env} {outer : List Env} {L : Addr} (hfr : A.frames = some (env :: outer)) (hf : env.frame = some L) (m : Marked B (env :: outer) a cls a0 fl s.heap)
    (h : ∀ h', Marked B (env :: outer) a cls a0 (rawInt L) h' → s.heap.UpToSlots h' → Q () { s with heap := h' }) : wpAny M A (noteFrame (.ref a) env) Q E s := by
  by_cases c : fl = rawInt L
  · subst c
    exact wpAny_noteFrame_againW hf m.2.2.2 (h s.heap m fun b o q _ => ⟨o.slots, q⟩)
  obtain ⟨oe, vs, T, oT, ts, he, hd, h1, hT, hdT, h3, hne, hn, k⟩ := m.remark
  obtain ⟨⟨st, na, fr, oe', vs', _, _, _, he', hc', hd', h1', _⟩, up⟩ := k .none
  unfold noteFrame
  simp only [hf]
  refine wpAny_bind (wpAny_field he hd h1 ?_)
  rw [if_pos (by simp)]
  refine wpAny_bind (wpAny_field hT hdT h3 ?_)
  rw [if_neg (by simpa using c)]
  refine wpAny_bind (wpAny_setField hT hdT (Array.getElem?_eq_some_iff.mp h3).1 ?_)
  obtain ⟨hc1, h0⟩ := hc'
  subst hc1
  exact wpAny_entryW hfr fr hf he' st na hd' (Array.getElem?_eq_some_iff.mp h1').1 h0 fun h' N => h h' ⟨N.1, na, N.2.1, N.2.2.1⟩ (up.trans N.2.2.2)
theorem Marked.off {h h' : Heap} {C : Addr} (m : Marked B l a cls a0 fl h) (hs : Heap.SameBut C h h') (hC : ∃ o, h.get? C = some o ∧ ∀ vs, o.data ≠ .fields vs) (hl : C ∉ frs l) : Marked (B.hide C) l a cls a0 fl h' := by
  obtain ⟨st, na, fr, oe, vs, T, oT, ts, he, hc, hd, h1, hn, hne, hT, hdT, h3⟩ := m
  obtain ⟨oC, qC, nC⟩ := hC
  have nh : ∀ b, B.get? b = none → (B.hide C).get? b = none := fun b q => by
    cases z : (B.hide C).get? b with
    | none => rfl
    | some o => rw [Heap.of_hide z] at q; cases q
  have ne : ∀ b o vs, h.get? b = some o → o.data = .fields vs → b ≠ C := fun b o vs q hd z => by
    rw [z, qC] at q; cases q; exact nC _ hd
  have frs' : ∀ l : List Env, C ∉ frs l → h.FunFrames B l → h'.FunFrames (B.hide C) l := by
    intro l
    induction l with
    | nil => intro _ _; trivial
    | cons env r ih =>
      rintro hn ⟨hk, ⟨L, o, hf, hB, ho, nf⟩, hr⟩
      have hm : frs (env :: r) = L :: frs r := by unfold frs; rw [List.filterMap_cons, hf]
      rw [hm] at hn
      exact ⟨hk, ⟨L, o, hf, nh _ hB, (hs.2 L fun z => hn (z ▸ List.mem_cons_self)).trans ho, nf⟩, ih (fun z => hn (List.mem_cons_of_mem _ z)) hr⟩
  refine ⟨fun b o q => ?_, nh _ na, frs' l hl fr, oe, vs, T, oT, ts, (hs.2 a (ne _ _ _ he hd)).trans he, hc, hd, h1, nh _ hn, hne, (hs.2 T (ne _ _ _ hT hdT)).trans hT, hdT, h3⟩
  have hb : b ≠ C := fun z => by
    rw [z] at q
    have : (B.hide C).get? C = none := by
      cases w : (B.hide C).get? C with
      | none => rfl
      | some o' => have w' : (PySem.W.hideAll B [C]).get? C = some o' := w; rw [PySem.W.hideAll_none [C] (List.mem_singleton.mpr rfl)] at w'; cases w'
    rw [this] at q; cases q
  exact (hs.2 b hb).trans (st b o (Heap.of_hide q))
end

theorem exc_mark {h h' B : Heap} {l : List Env} {C a : Addr} {a0 fl : Value} (e : ExcAt C a h) (m : Marked B l a (.ref C) a0 fl h') (k : DK h h') : ExcAt C a h' := by
  obtain ⟨o, h1, h2, h3, h4⟩ := e
  obtain ⟨_, _, _, oe, vs, _, _, _, g1, g2, g3, _⟩ := m
  exact ⟨oe, g1, g2.1, (k.get h1 g1).trans h3, by unfold PySem.W.notCls; rw [g3]⟩
theorem FlyD.over {P : Program} {w : World} {l : List Env} {H H' : Hp} {h h1 h2 B B' : Heap} {a C : Addr} (D : FlyD P w l H h B a C H' h1) (k : B'.StaysIn h2) (th : ExcAt C a h2)
    (bb : ∀ b o, B.get? b = some o → ((∃ u, h.get? b = some u) ∨ ∃ u, H' b = some u) → B'.get? b = some o) (sm : ∀ b ∈ frs l, ∀ o, h1.get? b = some o → (∀ vs, o.data ≠ .fields vs) → ∃ sl, h2.get? b = some { o with slots := sl }) (fr : h1.FunFrames B l) :
    FlyD P w l H h B' a C H' h2 := by
  have old : ∀ b o, h.get? b = some o → H b = none → b ∉ frs l → B'.get? b = some o := fun b o q n hb => bb b o (D.old b o q n hb) (.inl ⟨o, q⟩)
  refine ⟨⟨fun b o q n hb _ => k _ _ (old b o q n hb), fun b o q n hb _ => ?_, D.un.free, fun b o q _ => ?_, D.un.tups, D.un.frzs, D.un.tbls⟩, fun b u e => ?_, k, fun b u e hb => ?_, old, fun b o q hb => ?_, D.exc, D.new⟩
  · obtain ⟨sl, e⟩ := D.un.slot b o q n hb nin
    obtain ⟨_, o', ho', nf⟩ := fr.mem hb
    rw [e] at ho'; cases ho'
    obtain ⟨sl2, e2⟩ := sm b hb _ e nf
    exact ⟨sl2, e2⟩
  · by_cases hb : b ∈ frs l
    · obtain ⟨_, o', ho', nf⟩ := fr.mem hb
      obtain ⟨sl, e⟩ := sm b hb _ ho' nf
      exact ⟨_, e⟩
    · obtain ⟨o', e⟩ := D.older b o q hb
      exact ⟨o', k _ _ (bb _ _ e (.inl ⟨o, q⟩))⟩
  · by_cases hb : b = a
    · subst hb
      rw [D.exc] at e
      cases e
      exact excO_ok th
    · refine (D.hok b u e).stay (fun c v hc q => ?_) (fun _ z => z) fun _ _ z => z
      obtain ⟨o, ho, hu⟩ : ∃ o, B.get? c = some o ∧ ∃ u, H' c = some u := by
        rcases hc with rfl | hc
        · obtain ⟨o, z⟩ := D.trk c u e hb
          exact ⟨o, z, u, e⟩
        · obtain ⟨o, z⟩ := D.trk c _ hc fun z => by rw [z, D.exc] at hc; cases hc
          exact ⟨o, z, _, hc⟩
      have := D.stays _ _ ho
      rw [q] at this
      cases this
      exact k _ _ (bb _ _ ho (.inr hu))
  · obtain ⟨o, z⟩ := D.trk b u e hb
    exact ⟨o, bb _ _ z (.inr ⟨u, e⟩)⟩
  · obtain ⟨o', e⟩ := D.older b o q hb
    exact ⟨o', bb _ _ e (.inl ⟨o, q⟩)⟩

noncomputable def Thr (Y : Cx) (E : XK) : Value → Shared → Prop := fun e s' => ∃ pins σ H s, Inv Y pins σ H s ∧ CXN Y.prog Y.w Y.stack H s E e s'
theorem passT {Y : Cx} {E : XK} : Passes (CXN Y.prog Y.w) (Y.wish (Thr Y E)) E := fun pins σ H s _ _ I h => ⟨pins, σ, H, s, I.unwish, h⟩
theorem Inv.bare0 {X : Cx} {pins : List (Addr × Obj)} {σ : St} {H : Hp} {s : Shared} (I : Inv X pins σ H s) : Inv X [] σ H s :=
  ⟨I.ok, I.os, I.bare, I.base, I.loc, I.cell, I.free, I.freeC, fun p hp => I.pin p (by rw [List.append_nil] at hp; exact List.mem_append_left _ hp), I.hok, I.len⟩
section
variable {P : Program} {w : World} {K : PySem.W.Frag} {mg : Str → Option Value} {base : Heap} {N : List Str} {qual : Str} {scope : Scope} {f : Addr} {cd : Value} {A : Around} {outer : List Env} {s₀ : Shared} {H₀ : Hp} {E : XK}
theorem pe_defT {Y : Cx} {k j : Nat} {x : Str} {ps : List Str} {sp : Sp} {e : Expr} {es : List Expr} {t : TA} {p pos : Pos}
    (D : DfnN Y.prog Y.w Y.K Y.mg Y.base k x ps sp) (hr : Room j Y.A) (hj : k ≤ j) (hg : Gl Y x) (ha : PA (Y.wish (Thr Y E)) (e :: es) t)
    (hdb : (x == ("__debug__" : Str)) = false := by decide) (he : starEach (e :: es) Y.env = (false, eval e Y.env) :: starEach es Y.env := by rfl)
    (hpl : (backTo pos (starEach es Y.env)).any (·.1) = false := by rfl) :
    PE (Y.wish (Thr Y E)) (.Call (.Name x p) (e :: es) [] pos) (tCall sp [] E t) := by
  obtain ⟨g, gd, F, b, kp, m⟩ := D.ex
  exact pe_call F (hr.mono hj) hg m kp b .nil passT ha hdb he hpl
theorem comp_raised {pins : List (Addr × Obj)} {σ : St} {H : Hp} {s s1 : Shared} {sc : Scope} {own : List Str} {js : List Nat} {cl : List (Str × Addr)} {C : Addr} {fp : List Addr} {e acc : Value} {Q : Value → Shared → Prop}
    (I : Inv (cxOf (CXN P w) P w K mg base N qual scope f cd A outer s₀ H₀ E) pins σ H s) (hf : ∀ b ∈ fp, FpOk (cxOf (CXN P w) P w K mg base N qual scope f cd A outer s₀ H₀ E) pins H b) (hC : s.heap.objs.size ≤ C)
    (t : Thr ((cxOf (CXN P w) P w K mg base N qual scope f cd A outer s₀ H₀ E).comp sc own js cl s H C fp) E e s1) :
    notedBy (model P w) (A.deeper (envOfC qual scope s₀.heap.objs.size f cd)) (compEnvC sc cl C (envOfC qual scope s₀.heap.objs.size f cd))
      (fun e s2 => compPost (model P w) (A.deeper (envOfC qual scope s₀.heap.objs.size f cd)) (cxOf (CXN P w) P w K mg base N qual scope f cd A outer s₀ H₀ E).xe none Q acc C (.error e) s2) e s1 := by
  obtain ⟨pins', σ', H1, sq, J, a, Cc, H', B, a0, rfl, os, bare, D, fl, q⟩ := t
  have I1 := comp_leave I hf J.bare0
  have ex : ExcAt Cc a s1.heap := (D.hok a _ D.exc).1
  show wpAny _ _ (noteFrame _ _) _ _ _
  rw [note_same (env := envOfC qual scope s₀.heap.objs.size f cd) (env' := compEnvC sc cl C (envOfC qual scope s₀.heap.objs.size f cd)) rfl]
  have fl : Heap.FlyingW B (envOfC qual scope s₀.heap.objs.size f cd :: outer) a (.ref Cc) a0 s1.heap := fl
  refine wpAny_mono (kd_any kd_note (wpAny_looks_onW (Q := fun _ s2 => ∃ h2, s2 = { s1 with heap := h2 } ∧ Marked B (envOfC qual scope s₀.heap.objs.size f cd :: outer) a (.ref Cc) a0 (rawInt s₀.heap.objs.size) h2 ∧ s1.heap.UpToSlots h2) I.ok.frames rfl fl fun h2 hh sm => ⟨h2, rfl, hh, sm⟩)) ?_ fun _ _ z => z
  rintro _ s2 ⟨⟨h2, rfl, m2, sm⟩, dk2⟩
  obtain ⟨m, ⟨o, es, ep, ho, hd, hr⟩, _⟩ := J.loc
  have nfo : ∀ vs, o.data ≠ .fields vs := fun vs z => by rw [hd] at z; cases z
  have nC : C ∉ frs (envOfC qual scope s₀.heap.objs.size f cd :: outer) := fun z => by
    obtain ⟨_, o', ho', _⟩ := I.stack.mem z
    exact Nat.lt_irrefl _ (Nat.lt_of_lt_of_le (Heap.lt_size ho') hC)
  have ho1 : s1.heap.get? C = some o := D.un.keep C o ho J.free nC nin
  obtain ⟨sl, ho2⟩ := sm C o ho1 nfo
  refine ⟨m, ⟨_, es, ep, ho2, hd, hr⟩, fun h3 hs3 cenv _ => ?_⟩
  have m3 := m2.off hs3 ⟨_, ho2, nfo⟩ nC
  have e2 : ExcAt Cc a h2 := exc_mark ex m2 dk2
  have e3 : ExcAt Cc a h3 := by
    obtain ⟨oa, q1, q2⟩ := e2
    obtain ⟨_, _, _, oe, vs, _, _, _, g1, g2, g3, _⟩ := m2
    refine ⟨oa, (hs3.2 a fun z => ?_).trans q1, q2⟩
    rw [z, ho2] at g1
    cases g1
    exact nfo _ g3
  obtain ⟨oe, vs, T, _, _, he, hdv, hv1, _⟩ := m3.remark
  show wpAny _ _ (PySem.passOn _ _ _) _ _ _
  unfold PySem.passOn
  refine wpAny_bind (wpAny_field he hdv hv1 ?_)
  rw [if_neg (by simp)]
  refine wpAny_bind (wpAny_mono (kd_any kd_setFlight (mark_set (s := { s1 with heap := h3 }) (Q := fun _ s4 => ∃ h4, s4 = { s1 with heap := h4 } ∧ Marked (B.hide C) (envOfC qual scope s₀.heap.objs.size f cd :: outer) a (.ref Cc) a0 (cenv.frame.elim .none fun f => rawInt f) h4 ∧ h3.UpToSlots h4) m3 cenv.frame fun h4 m4 sm4 => ⟨h4, rfl, m4, sm4⟩)) ?_ fun _ _ z => z)
  rintro _ s4 ⟨⟨h4, rfl, m4, sm4⟩, dk4⟩
  refine wpAny_throw ?_
  show wpAny (model P w) _ (leaving _ (.ref a)) _ _ _
  refine wpAny_mono (kd_any kd_leaving (?_ : wpAny (model P w) (A.deeper (envOfC qual scope s₀.heap.objs.size f cd)) (leaving (envOfC qual scope s₀.heap.objs.size f cd) (.ref a)) (fun _ s6 => ∃ h6, s6 = { s1 with heap := h6 } ∧ Heap.FlyingW (B.hide C) (envOfC qual scope s₀.heap.objs.size f cd :: outer) a (.ref Cc) a0 h6 ∧ h4.UpToSlots h6) _ { s1 with heap := h4 })) (?_ : ∀ _ _, _) fun _ _ z => z
  · unfold leaving
    exact wpAny_bind (mark_note (s := { s1 with heap := h4 }) I.ok.frames rfl m4 fun h5 m5 sm5 => wpAny_landsW (s := { s1 with heap := h5 }) m5 fun h6 f6 sm6 => ⟨h6, rfl, f6, sm5.trans sm6⟩)
  rintro _ s6 ⟨⟨h6, rfl, f6, sm6⟩, dk6⟩
  have e6 : ExcAt Cc a h6 := exc_on e3 f6 (dk4.trans dk6)
  have HC : H' C = none := D.un.free C o ho J.free nin
  have fo : Heap.FlyingW (B.hide C) outer a (.ref Cc) a0 h6 := ⟨f6.1, f6.2.1, f6.2.2.1.2.2, f6.2.2.2⟩
  refine ⟨a, Cc, H', B.hide C, a0, rfl, os.trans I1.os, bare, (FlyD.up I1 rfl D).over f6.1 e6 (fun b o q hb => (Heap.hide_ne B fun z => ?_).trans q) (fun b hb o q nf => ?_) fl.2.2.1.2.2, fo, q⟩
  · rw [z] at hb
    rcases hb with ⟨u, hu⟩ | ⟨u, hu⟩
    · exact Nat.lt_irrefl _ (Nat.lt_of_lt_of_le (Heap.lt_size hu) (Nat.le_trans I.sz hC))
    · rw [HC] at hu; cases hu
  · obtain ⟨s2, q2⟩ := sm b o q nf
    have q3 := (hs3.2 b fun z => nC (by unfold frs; rw [List.filterMap_cons]; exact List.mem_cons_of_mem _ (z ▸ hb))).trans q2
    obtain ⟨s4, q4⟩ := sm4 b _ q3 nf
    obtain ⟨s6, q6⟩ := sm6 b _ q4 nf
    exact ⟨s6, q6⟩
end

noncomputable abbrev Blk (X : Cx) (E : XK) (sc : Scope) (own : List Str) (js : List Nat) (cl : List (Str × Addr)) (s : Shared) (H : Hp) (C : Addr) (fp : List Addr) : Cx := (X.comp sc own js cl s H C fp).wish (Thr (X.comp sc own js cl s H C fp) E)
theorem compLoop_anyN {F : Value → Shared → Prop} {prog : Program} {w : World} {A : Around} {R : Result → Shared → Prop} {s : Shared} {elt target iter : Expr} {ifs : List Expr} {scope : Scope} {pos : Pos} {it acc : Value} {env : Env} (I : Nat → Shared → Prop)
    (turn : ∀ n s, I n s → wpAny (model prog w) A (pyNext it) (fun r s1 => match r with
      | none => R (.ok .next) s1
      | some v => wpAny (model prog w) A (letOwnedTupleGo target it v) (fun _ s1' => wpAny (model prog w) A (assign target env v) (fun _ s2 =>
          wpAny (model prog w) A (forIn ifs true fun c r => if r = true then do let ok ← isTrue c env (eval c env); pure (ForInStep.yield ok) else pure (ForInStep.yield r)) (fun ok s3 =>
            if ok = true then wpAny (model prog w) A (eval elt env) (fun x s4 =>
              wpAny (model prog w) A (call (.builtin "list.append") [acc, x]) (fun _ s5 => ∃ m, m < n ∧ I m s5) F s4) F s3
            else ∃ m, m < n ∧ I m s3) F s2) F s1') F s1) F s)
    (hF : ∀ e s, F e s → notedBy (model prog w) A env (fun e s => R (.error e) s) e s) (n : Nat) (h : I n s) : codeAny (model prog w) A (.compLoop (.ListComp elt [⟨target, iter, ifs, 0⟩] scope pos) 0 it acc env) R s := by
  refine codeAny_loop rfl I (fun n s hI => ?_) n h
  show wpAny _ A ((compTurn (.ListComp elt [⟨target, iter, ifs, 0⟩] scope pos) 0 it acc env).onRaise (fun x => do noteFrame x env; theTreesLotGoes x)) _ _ s
  refine wpAny_noted (wpAny_mono (Q := _) (E := F) ?_ (fun _ _ x => x) fun _ _ x => hF _ _ x)
  rw [compTurn_list]
  refine wpAny_bind (wpAny_standAt (wpAny_bind (thn (turn n s hI) (fun r s1 h1 => ?_))))
  cases r with
  | none => exact wpAny_pure h1
  | some v =>
    refine wpAny_bind (thn h1 fun _ s1' h1' => wpAny_bind (thn h1' fun _ s2 h2 => wpAny_bind (thn h2 fun ok s3 h3 => ?_)))
    cases ok with
    | false => exact wpAny_pure ⟨rfl, h3⟩
    | true => exact wpAny_bind (wpAny_bind (thn h3 fun x s4 h4 => wpAny_bind (thn h4 fun _ s5 h5 => wpAny_pure (wpAny_pure ⟨rfl, h5⟩))))

section
variable {X : Cx} {E : XK} {sc : Scope} {own : List Str} {js : List Nat} {tg iter elt : Expr} {ifs : List Expr} {pos : Pos} {wi : TI} {g : TG} {c : TT} {te : TE}
theorem comp_coreN {pins : List (Addr × Obj)} {σ : St} {H : Hp} {s : Shared} {cl : List (Str × Addr)} {fp : List Addr} {it : Addr} {tn : Nat → Heap → Prop} {J : It} {Q : VK} {E₀ : Value → Shared → Prop} {RR : Value → Addr → Result → Shared → Prop}
    (hc : X.calm = true) (S : CompScope X sc own js) (I : Inv X pins σ H s) (T : Turn X.prog X.w X.K tg J fp it tn) (t0 : tn 0 s.heap) (hf : ∀ b ∈ fp, FpOk X pins H b)
    (hcl : ∀ x c, cl.lookup x = some c → X.env.cells.lookup x = some c) (hcl2 : ∀ n, (n, NameKind.free) ∈ sc.names → ∃ c, cl.lookup n = some c)
    (hg : ∀ cl s H C fp, PG (Blk X E sc own js cl s H C fp) tg g) (hi : ∀ cl s H C fp, PIfs (Blk X E sc own js cl s H C fp) ifs c) (he : ∀ cl s H C fp, PE (Blk X E sc own js cl s H C fp) elt te)
    (q : tCompR own.length js g c te J σ H Q)
    (hRE : ∀ acc C e s1, s.heap.objs.size ≤ C → Thr (X.comp sc own js cl s H C fp) E e s1 → notedBy (model X.prog X.w) X.A (compEnvC sc cl C X.env) (fun e s2 => RR (.ref acc) C (.error e) s2) e s1)
    (hRR : ∀ acc C H' s', s.heap.objs.size ≤ C → Inv (Blk X E sc own js cl s H C fp) [] (pick own.length js σ) H' s' → Q (.ref acc) H' → RR (.ref acc) C (.ok .next) s') :
    wpAny (model X.prog X.w) X.A (newList []) (fun acc s3 => wpAny (model X.prog X.w) X.A (newFunctionEnv sc X.env.globals cl [] X.env.qual none .none (some X.env)) (fun cenv s4 =>
      codeAny (model X.prog X.w) X.A (.compStart (.ListComp elt [⟨tg, iter, ifs, 0⟩] sc pos) 0 (.ref it) acc { cenv with scope := relabel sc X.env }) (RR acc cenv.locals) s4) E₀ s3) E₀ s := by
  refine wpAny_newObj_type (wpAny_newFunctionEnv S.cell (by intro y hy; simp at hy) (fun h1 hns1 hsb1 => ?_) S.kind)
  dsimp only at hns1 hsb1 ⊢
  generalize hH2 : s.heap.push { cls := .type "list", dict := none, data := .seq ([] : List Value).toArray } = H2 at hns1 hsb1 ⊢
  have hC : @Eq Nat H2.objs.size (s.heap.objs.size + 1) := by rw [← hH2, Heap.size_push]
  have hDC : s.heap.objs.size ≠ H2.objs.size := by rw [hC]; exact Nat.ne_of_lt (Nat.lt_succ_self _)
  have hCle : s.heap.objs.size ≤ H2.objs.size := by rw [hC]; exact Nat.le_succ _
  have old : ∀ b o, s.heap.get? b = some o → h1.get? b = some o := fun b o e => hsb1.extBut b o (by
    have := Heap.lt_size e
    exact Nat.ne_of_lt (Nat.lt_of_lt_of_le this hCle)) (Heap.get?_push_of_some _ (hH2 ▸ Heap.get?_push_of_some _ e))
  have hacc : h1.get? s.heap.objs.size = some { cls := .type "list", dict := none, data := .seq ([] : List Value).toArray } := hsb1.extBut _ _ hDC (Heap.get?_push_of_some _ (hH2 ▸ Heap.get?_push_size _ rfl))
  have hfl : ∀ b ∈ fp, FpOk X pins H b ∧ b < s.heap.objs.size := fun b hb => ⟨hf b hb, by
    obtain ⟨o, e, _⟩ := T.obj 0 s.heap t0 b hb
    exact Heap.lt_size e⟩
  obtain ⟨W, ⟨m0, w0⟩, turn⟩ := q s.heap.objs.size (I.hok.fresh (Nat.le_refl _))
  have I1 := comp_start (t1 := s.toks + ([] : List (Str × Value)).length) (o := { cls := .type "list" , data := .seq #[] }) S I hfl hcl hcl2 hC hns1 old hacc
  have t1 : tn 0 h1 := T.keep 0 s.heap h1 t0 fun b _ o e => old b o e
  have stat : ∀ {pins' : List (Addr × Obj)} {H' : Hp}, (∀ b ∈ fp, H' b = none) → (∀ p ∈ pins', p.1 ∉ fp) → ∀ b ∈ fp, FpOk (Blk X E sc own js cl s H H2.objs.size fp) pins' H' b := fun hn hp b hb => by
    obtain ⟨⟨f0, f1, f2, f3, f4, f5⟩, lt⟩ := hfl b hb
    exact ⟨hn b hb, Nat.ne_of_lt (Nat.lt_of_lt_of_le lt hCle), fun z => (List.mem_cons.mp (I.stkSub b z)).elim f1 f2, .inl hb, fun x c e => f4 x c (hcl x c e), fun p hp' z => hp p hp' (z ▸ hb)⟩
  have fr0 : ∀ b ∈ fp, (upd H s.heap.objs.size (.lst [])) b = none := fun b hb => by
    obtain ⟨⟨f0, _⟩, lt⟩ := hfl b hb
    rw [upd_ne (Nat.ne_of_lt lt)]; exact f0
  have loop : ∀ s3 : Shared, s3 = { s with heap := h1, toks := s.toks + ([] : List (Str × Value)).length } →
      codeAny (model X.prog X.w) X.A (.compLoop (.ListComp elt [⟨tg, iter, ifs, 0⟩] sc pos) 0 (.ref it) (.ref s.heap.objs.size) (compEnvC sc cl H2.objs.size X.env)) (RR (.ref s.heap.objs.size) H2.objs.size) s3 := by
    rintro s3 rfl
    refine compLoop_anyN (F := Thr (X.comp sc own js cl s H H2.objs.size fp) E) (fun n s' => ∃ i H', Inv (Blk X E sc own js cl s H H2.objs.size fp) [] (pick own.length js σ) H' s' ∧ tn i s'.heap ∧ (∀ b ∈ fp, H' b = none) ∧ W i n H') ?_ (fun e s h => hRE _ _ e s hCle h) m0 ⟨0, _, I1.wish _, t1, fr0, w0⟩
    rintro n s4 ⟨i, H4, I4, st4, fr4, w4⟩
    have noP : ∀ p ∈ ([] : List (Addr × Obj)), p.1 ∉ fp := fun p hp => nomatch hp
    rcases turn i n H4 w4 with ⟨stop, qn⟩ | ⟨go, step⟩
    · refine thn (T.done (Blk X E sc own js cl s H H2.objs.size fp) rfl rfl rfl hc i [] s4 _ H4 (Thr (X.comp sc own js cl s H H2.objs.size fp) E) I4 (stat fr4 noP) st4 stop) fun r s5 ⟨hr, I5⟩ => ?_
      subst hr
      exact hRR _ _ H4 s5 hCle I5 qn
    · refine thn (T.item (Blk X E sc own js cl s H H2.objs.size fp) rfl rfl rfl hc i [] s4 _ H4 (Thr (X.comp sc own js cl s H H2.objs.size fp) E) I4 (stat fr4 noP) st4 go) fun r s5 ⟨u, hr, h5⟩ => ?_
      subst hr
      refine thn h5 fun _ s6 ⟨x, H6, I6, r6, y6, st6, fr6⟩ => ?_
      have I6' := I6.pinned (stat fr6 noP) (T.obj _ _ st6)
      have again : ∀ {σ7 : St} {H7 : Hp} {s7 : Shared} {m' : Nat}, Wk (pick own.length js σ) σ7 → Inv (Blk X E sc own js cl s H H2.objs.size fp) ([] ++ pinsAt fp s6.heap) σ7 H7 s7 → m' < n → W (i + 1) m' H7 →
          ∃ m, m < n ∧ ∃ i H', Inv (Blk X E sc own js cl s H H2.objs.size fp) [] (pick own.length js σ) H' s7 ∧ tn i s7.heap ∧ (∀ b ∈ fp, H' b = none) ∧ W i m H' := fun {σ7 H7 s7 m'} wk I7 hm w7 => by
        refine ⟨m', hm, i + 1, H7, (I7.unpinned).weak wk.1 wk.2, T.keep _ _ _ st6 fun b hb o e => (I7.pin (b, o) (List.mem_append_right _ (List.mem_append_right _ (mem_pinsAt hb e)))).1, fun b hb => ?_, w7⟩
        obtain ⟨o, e, d⟩ := T.obj _ _ st6 b hb
        exact (I7.pin (b, o) (List.mem_append_right _ (List.mem_append_right _ (mem_pinsAt hb e)))).2.1
      refine thn (hg cl s H H2.objs.size fp _ s6 _ H6 x u _ I6' r6 (step x H6 y6)) fun _ s7 ⟨σ7, H7, I7, wk7, q7⟩ => ?_
      refine thn (hi cl s H H2.objs.size fp _ s7 σ7 H7 _ I7 q7) fun ok s8 ⟨H8, I8, q8⟩ => ?_
      cases ok with
      | false =>
        obtain ⟨m', hm, w8⟩ := (show ∃ m', m' < n ∧ W (i + 1) m' H8 from by simpa using q8)
        exact again wk7 I8 hm w8
      | true =>
        have q8 : te σ7 H8 fun y H4 => ∃ ys, H4 s.heap.objs.size = some (.lst ys) ∧ ys.length < sizeLine ∧ ∃ m', m' < n ∧ W (i + 1) m' (upd H4 s.heap.objs.size (.lst (ys ++ [y]))) := by simpa using q8
        refine thn (he cl s H H2.objs.size fp _ s8 σ7 H8 _ I8 q8) fun yv s9 ⟨y, H9, I9, r9, ys, hy, hz, m', hm, w9⟩ => ?_
        refine thn (mt_append (X := Blk X E sc own js cl s H H2.objs.size fp) _ s9 σ7 H9 (.ref s.heap.objs.size) [y] (.ref s.heap.objs.size) [yv] (fun _ H' => W (i + 1) m' H') I9 rfl (.cons r9 .nil) ⟨_, ys, y, rfl, rfl, hy, hz, w9⟩) fun _ s10 ⟨_, H10, I10, _, w10⟩ => ?_
        exact again wk7 I10 hm w10
  exact codeAny_compStart_list (loop _ rfl) (T.self X.A 0 _ _ _ t1 (loop _ rfl))

end
theorem pe_compN {P : Program} {w : World} {K : PySem.W.Frag} {mg : Str → Option Value} {base : Heap} {N : List Str} {qual : Str} {scope : Scope} {f : Addr} {cd : Value} {A : Around} {outer : List Env} {s₀ : Shared} {H₀ : Hp} {E : XK} {js : List Nat} {tg iter elt : Expr} {ifs : List Expr} {pos : Pos} {wi : TI} {g : TG} {c : TT} {te : TE} {sc cs : Scope} {N' : List Str} (own : List Str) (hsc : scope = sc) (hNN : N = N') (S0 : CompScopeN sc N' cs js) (hit : PI (cxOf (CXN P w) P w K mg base N qual scope f cd A outer s₀ H₀ E) tg iter wi)
    (hg : ∀ cl s H C fp, PG (Blk (cxOf (CXN P w) P w K mg base N qual scope f cd A outer s₀ H₀ E) E cs own js cl s H C fp) tg g) (hi : ∀ cl s H C fp, PIfs (Blk (cxOf (CXN P w) P w K mg base N qual scope f cd A outer s₀ H₀ E) E cs own js cl s H C fp) ifs c) (he : ∀ cl s H C fp, PE (Blk (cxOf (CXN P w) P w K mg base N qual scope f cd A outer s₀ H₀ E) E cs own js cl s H C fp) elt te)
    (hs : ∀ x, foldedSetIterable iter (envOfC qual scope s₀.heap.objs.size f cd) x = pure x := by intro _; rfl) : PE (cxOf (CXN P w) P w K mg base N qual scope f cd A outer s₀ H₀ E) (.ListComp elt [⟨tg, iter, ifs, 0⟩] cs pos) (tComp own.length js wi g c te) := by
  intro pins s σ H Q I h
  have S : CompScope (cxOf (CXN P w) P w K mg base N qual scope f cd A outer s₀ H₀ E) cs own js := S0.cs hsc hNN
  obtain ⟨cl, hcl0, hcl, hcl2⟩ := closure_ok (env := envOfC qual scope s₀.heap.objs.size f cd) (scope := cs) fun n hn => I.ok.has n (S.free _ hn rfl)
  rw [eval_ListComp]
  refine wpAny_comprehension_free (use := none) rfl hs hcl0 S.kind S.names (thn (hit pins s σ H _ I h) fun xv s1 h1 => thn h1 fun itv s2 h2 => ?_)
  obtain ⟨it, fp, tn, J, H2, e, I2, T, st2, f2, q2⟩ := h2
  subst e
  exact comp_coreN (E := E) (RR := fun acc C => compPost (model P w) (A.deeper (envOfC qual scope s₀.heap.objs.size f cd)) (cxOf (CXN P w) P w K mg base N qual scope f cd A outer s₀ H₀ E).xe none (EP (cxOf (CXN P w) P w K mg base N qual scope f cd A outer s₀ H₀ E) pins σ Q) acc C) rfl S I2 T st2 f2 hcl hcl2 hg hi he q2
    (fun acc C e s1 hC t => comp_raised I2 f2 hC t) fun acc C H' s' hC J' q' => by
      obtain ⟨m, hn, _⟩ := J'.loc
      exact ⟨m, hn, fun h' hs' => ⟨.ref acc, H', comp_gone I2 hC (comp_leave I2 f2 J'.unwish) J'.free hs', rfl, q'⟩⟩
end L2

namespace L2
open PySem PySem.Spec PyProof.Rows
noncomputable def Cal (CX : CXT) (P : Program) (w : World) (K : PySem.W.Frag) (mg : Str → Option Value) (base : Heap) (k : Nat) (a : Addr) (sp : Sp) : Prop :=
  ∃ fd ps, FnOk P w K mg base CX k a fd ps sp ∧ Binds K fd ps [] ∧ PySem.W.keepIn K (.ref a) = true
section
variable {P : Program} {w : World} {K : PySem.W.Frag} {mg : Str → Option Value} {base : Heap} {k : Nat} {x : Str} {ps : List Str} {sp : Sp}
noncomputable def Dfn.adr (D : Dfn P w K mg base k x ps sp) : Addr := D.ex.choose
noncomputable def DfnN.adr (D : DfnN P w K mg base k x ps sp) : Addr := D.ex.choose
theorem Dfn.cal (D : Dfn P w K mg base k x ps sp) : Cal CX0 P w K mg base k D.adr sp :=
  let ⟨fd, F, b, kp, _⟩ := D.ex.choose_spec; ⟨fd, ps, F, b, kp⟩
theorem DfnN.cal (D : DfnN P w K mg base k x ps sp) : Cal (CXN P w) P w K mg base k D.adr sp :=
  let ⟨fd, F, b, kp, _⟩ := D.ex.choose_spec; ⟨fd, ps, F, b, kp⟩
theorem Dfn.mgA (D : Dfn P w K mg base k x ps sp) : mg x = some (.ref D.adr) := let ⟨_, _, _, _, m⟩ := D.ex.choose_spec; m
theorem DfnN.mgA (D : DfnN P w K mg base k x ps sp) : mg x = some (.ref D.adr) := let ⟨_, _, _, _, m⟩ := D.ex.choose_spec; m
end
section
variable {X : Cx} {k j i : Nat} {x : Str} {a b e : Expr} {es : List Expr} {te : TE} {t : TA} {p pos p1 pos' : Pos}
theorem pe_gl {r : Addr} (hm : X.mg x = some (.ref r)) (hg : Gl X x) (hd : (x == ("__debug__" : Str)) = false := by decide) : PE X (.Name x p) (fun _ H Q => Q (.ref r) H) :=
  fun _ _ _ H _ I h => ld_glob I hg hm ⟨.ref r, H, I, rfl, h⟩ hd
noncomputable def tCallV (C : Addr → Sp → Prop) (te : TE) (t : TA) : TE := fun σ H Q => te σ H fun v H1 => ∃ (a : Addr) (sp : Sp), v = .ref a ∧ C a sp ∧ t σ H1 fun vs H2 => sp vs H2 Q E0
theorem pe_callV (hf : PE X (.Subscript a b p) te) (hr : Room j X.A) (hj : k ≤ j) (ha : PA X (e :: es) t)
    (he : starEach (e :: es) X.env = (false, eval e X.env) :: starEach es X.env := by rfl) (hpl : (backTo pos (starEach es X.env)).any (·.1) = false := by rfl) :
    PE X (.Call (.Subscript a b p) (e :: es) [] pos) (tCallV (Cal CX0 X.prog X.w X.K X.mg X.base k) te t) := by
  intro pins s σ H Q I h
  show wpAny _ _ (eval (.Subscript a b p) X.env >>= fun f => callWith pos f [] (backTo pos (starEach (e :: es) X.env)) (backToKw pos (keywordEach [] X.env))) _ _ s
  refine wpAny_bind (thn (hf pins s σ H _ I h) fun v s1 ⟨y, H1, I1, r1, q1⟩ => ?_)
  obtain ⟨g, sp, rfl, ⟨fd, ps, F, bd, kp⟩, q⟩ := q1
  cases (show v = Value.ref g from r1)
  refine PySem.W.callWith_K (h₀ := X.base) I1.ok.mod.kin kp (thn (ha pos pins s1 σ H1 _ I1 q) fun us s2 ⟨vs, H2, I2, r2, q2⟩ => ⟨I2.kIn, ?_⟩) he hpl
  exact run_fn (dvs := []) F (hr.mono hj) bd .nil pass0 I2 r2 (by rw [List.append_nil]; exact q2)
theorem psx_setV (hN : X.N.Nodup) (hi : X.N[i]? = some x) (hx : Loc X.env.scope x) (hfn : X.fn x = true ∨ X.env.scope.names.lookup x = some .local) (hf : PE X.nox (.Subscript a b p) te) (hr : Room j X.A) (hj : k ≤ j) (ha : PA X.nox (e :: es) t)
    (he : starEach (e :: es) X.env = (false, eval e X.env) :: starEach es X.env := by rfl) (hpl : (backTo pos (starEach es X.env)).any (·.1) = false := by rfl)
    (hs : swapsWith (.Call (.Subscript a b p) (e :: es) [] pos) (some (.Name x p1)) pos'.line X.env = pure false := by rfl) :
    PSx X (.Assign [.Name x p1] (.Call (.Subscript a b p) (e :: es) [] pos) pos') (fun D Ex σ H => te σ H fun v H1 => ∃ (a : Addr) (sp : Sp), v = .ref a ∧ Cal (CXN X.prog X.w) X.prog X.w X.K X.mg X.base k a sp ∧
      t σ H1 fun vs H2 => sp vs H2 (fun y H3 => D.nx (σ.set i (some y)) H3) (Ex σ)) := by
  intro pins s σ H Dn Ex I h
  refine wpAny_Assign_Name ?_ hs
  show wpAny _ _ (eval (.Subscript a b p) X.env >>= fun f => callWith pos f [] (backTo pos (starEach (e :: es) X.env)) (backToKw pos (keywordEach [] X.env))) _ _ s
  refine wpAny_bind (wpAny_mono (hf pins s σ H _ (I.wish _) h) (fun v s1 ⟨y, H1, I1, r1, q1⟩ => ?_) fun _ _ z => z.elim)
  obtain ⟨g, sp, rfl, ⟨fd, ps, F, bd, kp⟩, q⟩ := q1
  cases (show v = Value.ref g from r1)
  refine PySem.W.callWith_K (h₀ := X.base) I.ok.mod.kin kp (wpAny_mono (ha pos pins s1 σ H1 _ I1 q) (fun us s2 ⟨vs, H2, I2, r2, q2⟩ => ⟨I2.unwish.kIn, ?_⟩) fun _ _ z => z.elim) he hpl
  exact thn (run_fnx F (hr.mono hj) bd (fun _ _ _ z => z) I2.unwish r2 q2) fun v s3 ⟨y, H3, I3, r3, q3⟩ => store_ok I3 hN hi hx r3 (fun s4 I4 => ⟨_, H3, I4, q3⟩) hfn
noncomputable def rUpper : V → List V → Hp → VK → Prop := fun x xs H Q => ∃ z : Str, x = .str z ∧ xs = [] ∧ Builtin.Str.tooLong (Txt.upper z).length = false ∧ Q (.str (Txt.upper z)) H
theorem mt_upper : MtR X "str.upper" rUpper := by
  intro pins s σ H x xs v us Q I rx rs h
  obtain ⟨z, rfl, rfl, hz, q⟩ := h
  obtain ⟨t, rfl⟩ := rx
  cases rs
  exact SC.upper hz ⟨.str (Txt.upper z), H, I.tok _, ⟨_, rfl⟩, q⟩
end
end L2

namespace OL.K39
open PySem PySem.Spec L2 OL PyProof.Rows
theorem join_back (z s : Str) : Txt.join s (Txt.split z s) = z := by
  unfold Txt.join
  rw [StrLaws.glued_eq_join]
  exact StrLaws.join_split z s
theorem th_lt {x : Int} (h0 : 0 ≤ x) {n : Nat} (h : ∀ j, Th x j → j < n) : x < 2 ^ n := by
  have hx : x.toNat < 2 ^ n := Nat.lt_pow_two_of_testBit _ fun j hj => by
    cases c : x.toNat.testBit j with
    | false => rfl
    | true => exact absurd (h j c) (by omega)
  have : ((x.toNat : Nat) : Int) < ((2 ^ n : Nat) : Int) := by exact_mod_cast hx
  rw [Int.toNat_of_nonneg h0] at this
  simpa using this
noncomputable def maskL (p : Nat → Bool) (n : Nat) : Int := lotOf (((List.range n).filter p).map fun (i : Nat) => (i : Int))
theorem mask_ok (p : Nat → Bool) : ∀ n, 0 ≤ maskL p n ∧ ∀ i, Th (maskL p n) i ↔ i < n ∧ p i = true := by
  intro n
  induction n with
  | zero => exact ⟨Int.le_refl 0, fun i => ⟨fun h => by have h : Th 0 i := h; unfold Th at h; simp at h, fun h => absurd h.1 (Nat.not_lt_zero _)⟩⟩
  | succ m ih =>
    obtain ⟨h0, ih⟩ := ih
    have e : maskL p (m + 1) = if p m = true then Builtin.bitOr (maskL p m) (1 * 2 ^ m) else maskL p m := by
      unfold maskL lotOf
      rw [List.range_succ, List.filter_append, List.map_append, List.foldl_append, List.filter_cons, List.filter_nil]
      by_cases c : p m = true
      · rw [if_pos c, if_pos c]; rfl
      · rw [if_neg c, if_neg c]; rfl
    rw [e]
    by_cases c : p m = true
    · rw [if_pos c]
      refine ⟨or_nn h0 (pow_nn m), fun i => ?_⟩
      rw [th_or h0 (pow_nn m), ih, th_pow]
      constructor
      · rintro (⟨h1, h2⟩ | rfl)
        · exact ⟨by omega, h2⟩
        · exact ⟨by omega, c⟩
      · rintro ⟨h1, h2⟩
        by_cases z : i = m
        · exact .inr z
        · exact .inl ⟨by omega, h2⟩
    · rw [if_neg c]
      refine ⟨h0, fun i => ?_⟩
      rw [ih]
      constructor
      · rintro ⟨h1, h2⟩; exact ⟨by omega, h2⟩
      · rintro ⟨h1, h2⟩
        have : i ≠ m := fun z => c (z ▸ h2)
        exact ⟨by omega, h2⟩
theorem mask_lt (p : Nat → Bool) (n : Nat) : maskL p n < 2 ^ n := th_lt (mask_ok p n).1 fun j hj => (((mask_ok p n).2 j).mp hj).1
noncomputable def sumP (is : List Nat) : Int := (is.map fun (i : Nat) => 1 * (2 : Int) ^ i).sum
theorem sum_ok : ∀ {is : List Nat}, is.Nodup → 0 ≤ sumP is ∧ ∀ j, Th (sumP is) j ↔ j ∈ is := by
  intro is
  induction is with
  | nil => intro _; exact ⟨Int.le_refl 0, fun j => ⟨fun h => by have h : Th 0 j := h; unfold Th at h; simp at h, fun h => nomatch h⟩⟩
  | cons i r ih =>
    intro nd
    obtain ⟨hn, nd⟩ := List.nodup_cons.mp nd
    obtain ⟨h0, h1⟩ := ih nd
    have e : sumP (i :: r) = sumP r + 1 * 2 ^ i := by unfold sumP; rw [List.map_cons, List.sum_cons, Int.add_comm]
    have hp : (0 : Int) < 2 ^ i := Int.pow_pos (by decide)
    rw [e]
    refine ⟨by omega, fun j => ?_⟩
    rw [th_addNew h0 (fun z => hn ((h1 i).mp z)), h1, List.mem_cons]
    exact Or.comm
noncomputable def idxs (nm ws : List Str) : List Nat := ws.map fun w => nm.idxOf w
noncomputable def upB : List Nat → Bool
  | i :: j :: r => decide (i < j) && upB (j :: r)
  | _ => true
theorem up_iff : ∀ {is : List Nat}, upB is = true ↔ is.Pairwise (· < ·) := by
  intro is
  induction is with
  | nil => exact ⟨fun _ => .nil, fun _ => rfl⟩
  | cons i r ih =>
    cases r with
    | nil => exact ⟨fun _ => List.pairwise_singleton _ _, fun _ => rfl⟩
    | cons j r =>
      show (decide (i < j) && upB (j :: r)) = true ↔ _
      rw [Bool.and_eq_true, decide_eq_true_eq, ih]
      constructor
      · rintro ⟨h1, h2⟩
        refine List.pairwise_cons.mpr ⟨fun k hk => ?_, h2⟩
        rcases List.mem_cons.mp hk with rfl | hk
        · exact h1
        · have := (List.pairwise_cons.mp h2).1 k hk; omega
      · exact fun h => ⟨(List.pairwise_cons.mp h).1 j List.mem_cons_self, (List.pairwise_cons.mp h).2⟩
noncomputable def inW (nm : List Str) (ws : List Str) : Option Int := if ws.all (fun w => decide (w ∈ nm)) && upB (idxs nm ws) then some (sumP (idxs nm ws)) else none
noncomputable def lotIn (nm : List Str) (z : Str) : Option Int := if z = dash then some 0 else inW nm (Txt.split z spc)
variable {nm : List Str}
theorem idx_at (ok : NamesOk nm) {w : Str} (h : w ∈ nm) : nm.idxOf w < nm.length ∧ nm.getD (nm.idxOf w) "" = w := by
  have hl := List.idxOf_lt_length_of_mem h
  refine ⟨hl, ?_⟩
  rw [List.getD_eq_getElem?_getD, List.getElem?_eq_getElem hl]
  exact List.getElem_idxOf hl
theorem idx_get (ok : NamesOk nm) {i : Nat} (h : i < nm.length) : nm.idxOf (nm.getD i "") = i := by
  obtain ⟨a, b⟩ := idx_at ok (getD_nm h)
  refine (List.getElem?_inj a ok.nd).mp ?_
  rw [List.getElem?_eq_getElem a, List.getElem?_eq_getElem h]
  have e1 : nm.getD i "" = nm[i] := by rw [List.getD_eq_getElem?_getD, List.getElem?_eq_getElem h]; rfl
  rw [← e1]
  congr 1
  have := b
  rw [List.getD_eq_getElem?_getD, List.getElem?_eq_getElem a] at this
  exact this
theorem dash_not (ok : NamesOk nm) : dash ∉ nm := fun h => by
  have := (ok.ok _ h).all 45 (by rw [cps_dash]; exact List.mem_singleton.mpr rfl)
  unfold letter at this; omega
theorem split_ne (z s : Str) : Txt.split z s ≠ [] := fun h => by
  have hp := PyProof.Rows.split_pos z s
  rw [h] at hp; exact absurd hp (by decide)
theorem lot_in_iff (ok : NamesOk nm) {z : Str} {l : Int} : lotIn nm z = some l ↔ 0 ≤ l ∧ l < 2 ^ nm.length ∧ showF nm l = z := by
  constructor
  · intro h
    unfold lotIn at h
    by_cases c : z = dash
    · rw [if_pos c] at h
      cases h
      exact ⟨Int.le_refl 0, Int.pow_pos (by decide), by rw [show_zero]; exact c.symm⟩
    · rw [if_neg c] at h
      unfold inW at h
      split at h
      · rename_i hc
        rw [Bool.and_eq_true, List.all_eq_true] at hc
        obtain ⟨hm, hu⟩ := hc
        have up := up_iff.mp hu
        have nd : (idxs nm (Txt.split z spc)).Nodup := up.imp fun {a b} h e => by omega
        obtain ⟨h0, h1⟩ := sum_ok nd
        cases h
        have hlt : ∀ j, j ∈ idxs nm (Txt.split z spc) → j < nm.length := fun j hj => by
          obtain ⟨w, hw, rfl⟩ := List.mem_map.mp hj
          exact (idx_at ok (of_decide_eq_true (hm w hw))).1
        refine ⟨h0, th_lt h0 fun j hj => hlt j ((h1 j).mp hj), ?_⟩
        have ne : sumP (idxs nm (Txt.split z spc)) ≠ 0 := fun e => by
          cases q : Txt.split z spc with
          | nil => exact split_ne _ _ q
          | cons w r =>
            have : Th (sumP (idxs nm (Txt.split z spc))) (nm.idxOf w) := (h1 _).mpr (by rw [q]; exact List.mem_cons_self)
            rw [e] at this; unfold Th at this; simp at this
        have et : thingsF (sumP (idxs nm (Txt.split z spc))) = (idxs nm (Txt.split z spc)).map fun (i : Nat) => (i : Int) := by
          have nd1 : (thingsF (sumP (idxs nm (Txt.split z spc)))).Nodup := (OL.W41.things_up _).imp fun {a b} h e => by omega
          have up2 : ((idxs nm (Txt.split z spc)).map fun (i : Nat) => (i : Int)).Pairwise (· < ·) := List.pairwise_map.mpr (up.imp fun {a b} h => by omega)
          have pm : (thingsF (sumP (idxs nm (Txt.split z spc)))).Perm ((idxs nm (Txt.split z spc)).map fun (i : Nat) => (i : Int)) := (List.perm_ext_iff_of_nodup nd1 (up2.imp fun {a b} h e => by omega)).mpr fun x => by
            rw [OL.W41.mem_things h0, List.mem_map]
            exact ⟨fun ⟨t, a, b⟩ => ⟨t, (h1 t).mp a, b.symm⟩, fun ⟨t, a, b⟩ => ⟨t, (h1 t).mpr a, b.symm⟩⟩
          exact List.Perm.eq_of_pairwise (le := (· ≤ ·)) (fun a b _ _ x y => Int.le_antisymm x y) ((OL.W41.things_up _).imp fun {a b} z => Int.le_of_lt z) (up2.imp fun {a b} z => Int.le_of_lt z) pm
        have ew : wordsF nm (sumP (idxs nm (Txt.split z spc))) = Txt.split z spc := by
          unfold wordsF
          rw [if_neg ne, et]
          unfold idxs
          rw [List.map_map, List.map_map]
          refine (List.map_congr_left fun w hw => ?_).trans (List.map_id _)
          show nm.getD ((nm.idxOf w : Nat) : Int).toNat "" = w
          rw [Int.toNat_natCast]
          exact (idx_at ok (of_decide_eq_true (hm w hw))).2
        unfold showF
        rw [ew]
        exact join_back z spc
      · cases h
  · rintro ⟨l0, l1, rfl⟩
    unfold lotIn
    by_cases e : l = 0
    · subst e; rw [show_zero, if_pos rfl]
    · have hsp := split_show ok l0 l1
      have hw : wordsF nm l = (thingsF l).map fun t => nm.getD t.toNat "" := if_neg e
      have hmem : ∀ w ∈ wordsF nm l, w ∈ nm := fun w hm => by
        rw [hw] at hm
        obtain ⟨t, ht, rfl⟩ := List.mem_map.mp hm
        obtain ⟨k, rfl, hk, _⟩ := ok.th l0 l1 ht
        exact getD_nm (by omega)
      have nd : showF nm l ≠ dash := fun q => by
        have : Txt.split (showF nm l) spc = [dash] := by rw [q]; decide +kernel
        rw [hsp] at this
        exact dash_not ok (hmem dash (by rw [this]; exact List.mem_singleton.mpr rfl))
      rw [if_neg nd, hsp]
      have ei : idxs nm (wordsF nm l) = (thingsF l).map Int.toNat := by
        unfold idxs
        rw [hw, List.map_map]
        refine List.map_congr_left fun t ht => ?_
        obtain ⟨k, rfl, hk, _⟩ := ok.th l0 l1 ht
        show nm.idxOf (nm.getD ((k : Int)).toNat "") = _
        rw [Int.toNat_natCast]
        exact idx_get ok hk
      have hnn : ∀ t ∈ thingsF l, 0 ≤ t := fun t ht => by obtain ⟨k, rfl, _⟩ := ok.th l0 l1 ht; omega
      have up : ((thingsF l).map Int.toNat).Pairwise (· < ·) := by
        rw [List.pairwise_map]
        refine List.Pairwise.imp_of_mem ?_ (OL.W41.things_up l)
        intro a b ha hb h
        have := hnn a ha; omega
      unfold inW
      rw [ei, if_pos (Bool.and_eq_true_iff.mpr ⟨List.all_eq_true.mpr fun w hm => decide_eq_true (hmem w hm), up_iff.mpr up⟩)]
      congr 1
      obtain ⟨h0, h1⟩ := sum_ok (is := (thingsF l).map Int.toNat) (up.imp fun {a b} h e => by omega)
      refine th_ext h0 l0 fun j => ?_
      rw [h1, List.mem_map]
      constructor
      · rintro ⟨t, ht, rfl⟩
        obtain ⟨k, hk, rfl⟩ := (OL.W41.mem_things l0).mp ht
        exact hk
      · exact fun h => ⟨(j : Int), (OL.W41.mem_things l0).mpr ⟨j, h, rfl⟩, Int.toNat_natCast j⟩
noncomputable def readL (nm : List Str) (z : Str) : Int := maskL (fun i => (Txt.split z spc).any fun w => decide (w = nm.getD i "")) nm.length
theorem read_lot_iff (ok : NamesOk nm) {z : Str} : (showF nm (readL nm z) = z → lotIn nm z = some (readL nm z)) ∧ (showF nm (readL nm z) ≠ z → lotIn nm z = none) := by
  have m0 := mask_ok (fun i => (Txt.split z spc).any fun w => decide (w = nm.getD i "")) nm.length
  have m1 := mask_lt (fun i => (Txt.split z spc).any fun w => decide (w = nm.getD i "")) nm.length
  refine ⟨fun h => (lot_in_iff ok).mpr ⟨m0.1, m1, h⟩, fun h => ?_⟩
  cases q : lotIn nm z with
  | none => rfl
  | some l =>
    obtain ⟨l0, l1, e⟩ := (lot_in_iff ok).mp q
    refine absurd ?_ h
    have : readL nm z = l := by
      refine th_ext m0.1 l0 fun i => ?_
      refine (m0.2 i).trans ?_
      have hI : InB ((nm.length : Nat) : Int) l := ⟨l0, by rw [Int.toNat_natCast]; exact l1⟩
      constructor
      · rintro ⟨h1, h2⟩
        have h2 : ((Txt.split z spc).any fun w => decide (w = nm.getD i "")) = true := h2
        rw [← e, split_show ok l0 l1, in_words ok l0 l1 h1] at h2
        exact (has_th l0 i).mp h2
      · intro h1
        have hi : i < nm.length := by have := hI.th h1; rwa [Int.toNat_natCast] at this
        refine ⟨hi, ?_⟩
        show ((Txt.split z spc).any fun w => decide (w = nm.getD i "")) = true
        rw [← e, split_show ok l0 l1, in_words ok l0 l1 hi]
        exact (has_th l0 i).mpr h1
    rw [this]; exact e

noncomputable def ruleIn (nm : List Str) (z : Str) : Option PyData := match (Txt.split z arrow).map (lotIn nm) with
  | [some a, some b] => some (.tuple [.int a, .int b])
  | _ => none
noncomputable def daysF (os : List (Option Int)) : Option PyData := if os.all Option.isSome then some (.list ((os.map fun o => o.getD 0).map PyData.int)) else none
noncomputable def dayIn (nm : List Str) (z : Str) : Option PyData := if z = noneT then some (.list []) else daysF ((Txt.split z semi).map (lotIn nm))
noncomputable def oneIn (nm : List Str) (z : Str) : Option PyData := (lotIn nm z).map PyData.int
theorem jl_le {s : List Nat} : ∀ {ws : List (List Nat)} {w : List Nat}, w ∈ ws → w.length ≤ (jl s ws).length := by
  intro ws
  induction ws with
  | nil => intro w h; cases h
  | cons v r ih =>
    intro w h
    cases r with
    | nil => rw [List.mem_singleton.mp h]; exact Nat.le_refl _
    | cons v2 r =>
      have e : jl s (v :: v2 :: r) = v ++ s ++ jl s (v2 :: r) := rfl
      rw [e, List.length_append, List.length_append]
      rcases List.mem_cons.mp h with rfl | h
      · omega
      · have := ih h; omega
theorem piece_le {z s y : Str} (h : y ∈ Txt.split z s) : y.length ≤ z.length := by
  have e := cps_joinL s (Txt.split z s)
  rw [join_back] at e
  rw [← cps_len, ← cps_len, e]
  exact jl_le (List.mem_map.mpr ⟨y, h, rfl⟩)
theorem split_few (z s : Str) : (Txt.split z s).length ≤ z.length + 2 := PyProof.Rows.split_le z s
noncomputable def BigT : Nat := 60000
noncomputable def spDu39 (K : PySem.W.Frag) (F : List Str → Str → Option PyData) : Sp := fun vs H Q _ => ∃ (n : Addr) (nm : List Str) (z : Str), vs = [.ref n, .str z] ∧ H n = some (.lst (nm.map V.str)) ∧ NamesOk nm ∧ z.length ≤ BigT ∧
  (∀ d, F nm z = some d → ∀ v H', Same H H' → DR K H' v d → Q v H') ∧ (F nm z = none → ∀ H', Same H H' → Q .non H')
noncomputable def spReadN (K : PySem.W.Frag) (C : Addr) (F : List Str → Str → Option PyData) : Sp := fun vs H Q E => ∃ (n : Addr) (nm : List Str) (z : Str), vs = [.ref n, .str z] ∧ SqL K H n (nm.map V.str) ∧ NamesOk nm ∧ z.length ≤ BigT ∧
  (∀ d, F nm z = some d → ∀ v H', Same H H' → DR K H' v d → Q v H') ∧ (F nm z = none → ∀ a H', Same H H' → H a = none → H' a = some (excO C a) → E (.ref C) (some a) H')
noncomputable def spSplitN (C : Addr) : Sp := fun vs H Q E => ∃ (z sg : Str) (many : Nat), vs = [.str z, .str sg, .int (many : Int)] ∧ (sg.length == 0) = false ∧ z.length + 2 ≤ sizeLine ∧
  ((Txt.split z sg).length = many → ∀ l H', Same H H' → H l = none → H' l = some (.lst ((Txt.split z sg).map V.str)) → Q (.ref l) H') ∧
  ((Txt.split z sg).length ≠ many → ∀ a H', Same H H' → H a = none → H' a = some (excO C a) → E (.ref C) (some a) H')
noncomputable def spShown : Sp := fun vs H Q _ => ∃ (n : Addr) (nm : List Str) (lot : Int), vs = [.ref n, .int lot] ∧ H n = some (.lst (nm.map V.str)) ∧ NamesOk nm ∧ 0 ≤ lot ∧ ∀ (z : Str) H', Same H H' → z.length ≤ 200 → Q (.str z) H'
noncomputable def spIsText (K : PySem.W.Frag) (C : Addr) : Sp := fun vs H Q _ => ∃ a : Addr, vs = [.ref a] ∧ H a = some (excO C a) ∧ ∀ H', Same H H' → Q (.bl true) H'
noncomputable def spJudge : Sp := fun vs H Q _ => ∃ (n : Addr) (nm : List Str) (z : Str), vs = [.ref n, .str z] ∧ H n = some (.lst (nm.map V.str)) ∧ NamesOk nm ∧ z.length ≤ BigT ∧ ∀ H', Same H H' → Q (.bl true) H'
noncomputable def spBent : Sp := fun vs H Q _ => ∃ (z : Str) (p n : Addr) (nm : List Str) (x y w : Int), vs = [.str z, .ref p, .ref n] ∧ p ≠ n ∧ H p = some (.lst [.int x, .int y, .int w]) ∧ H n = some (.lst (nm.map V.str)) ∧ NamesOk nm ∧ z.length ≤ 20000 ∧
  ∀ (z' : Str) (x' y' w' : Int) H', SameB p H H' → H' p = some (.lst [.int x', .int y', .int w']) → z'.length ≤ 4 * z.length + 100 → Q (.str z') H'
noncomputable def spOdd : Sp := fun vs H Q _ => ∃ (n : Addr) (nm : List Str), vs = [.ref n] ∧ H n = some (.lst (nm.map V.str)) ∧ NamesOk nm ∧ ∀ (l : Addr) (ss : List Str) H', Same H H' → H l = none → H' l = some (.lst (ss.map V.str)) → (∀ s ∈ ss, s.length ≤ 200) → ss.length ≤ 100 → Q (.ref l) H'
theorem up_adj : ∀ {is : List Nat}, upB is = true ↔ ∀ i, i + 1 < is.length → is.getD i 0 < is.getD (i + 1) 0 := by
  intro is
  induction is with
  | nil => exact ⟨fun _ i h => absurd h (Nat.not_lt_zero _), fun _ => rfl⟩
  | cons a r ih =>
    cases r with
    | nil => exact ⟨fun _ i h => by have h : i + 1 < 1 := h; omega, fun _ => rfl⟩
    | cons b r =>
      show (decide (a < b) && upB (b :: r)) = true ↔ _
      rw [Bool.and_eq_true, decide_eq_true_eq, ih]
      constructor
      · rintro ⟨h1, h2⟩ i hi
        cases i with
        | zero => exact h1
        | succ i =>
          have := h2 i (by have : i + 1 + 1 < (b :: r).length + 1 := hi; omega)
          simpa using this
      · intro h
        refine ⟨h 0 (by simp), fun i hi => ?_⟩
        have := h (i + 1) (by show i + 1 + 1 < (b :: r).length + 1; omega)
        simpa using this
noncomputable def badF (is : List Nat) (n : Nat) : List Int := ((List.range n).filter fun i => decide ((is.getD (1 + i) 0) ≤ is.getD i 0)).map fun (i : Nat) => (1 : Int) + (i : Int)
theorem bad_up (is : List Nat) : (badF is (is.length - 1)).isEmpty = upB is := by
  have : (badF is (is.length - 1)).isEmpty = true ↔ upB is = true := by
    rw [up_adj, List.isEmpty_iff]
    unfold badF
    rw [List.map_eq_nil_iff, List.filter_eq_nil_iff]
    constructor
    · intro h i hi
      have := h i (List.mem_range.mpr (by omega))
      rw [decide_eq_true_eq, Nat.add_comm 1 i] at this
      omega
    · intro h i hi
      have hi := List.mem_range.mp hi
      have := h i (by omega)
      rw [decide_eq_true_eq, Nat.add_comm 1 i]
      omega
  exact Bool.eq_iff_iff.mpr this
theorem dr_int {K : PySem.W.Frag} {H : Hp} {v : V} {l : Int} (h : DR K H v (.int l)) : v = .int l := by cases h; rfl
end OL.K39

namespace Stb
open PySem PySem.W PyProof.Rows
noncomputable def goT {α : Type} (lt : Nat → Nat → Bool) : KasT α → α
  | .ret a => a
  | .ask i j k => goT lt (k (lt i j))
section
variable {key : Nat → Int} {p : Array Nat} {N : Nat}
noncomputable abbrev ix (p : Array Nat) (t : Nat) : Nat := p.getD t 0
noncomputable def Rk (key : Nat → Int) (i j : Nat) : Prop := key i < key j ∨ (key i = key j ∧ i < j)
noncomputable def Up (key : Nat → Int) (p : Array Nat) (b : Nat) : Prop := ∀ i j, i < j → j < b → Rk key (ix p i) (ix p j)
noncomputable def Dn (key : Nat → Int) (p : Array Nat) (b : Nat) : Prop := ∀ i j, i < j → j < b → Rk key (ix p j) (ix p i)
structure Lo (p : Array Nat) (b N : Nat) : Prop where
  sz : p.size = N
  low : ∀ t, t < b → ix p t < b
  id : ∀ t, b ≤ t → t < N → ix p t = t
structure De (key : Nat → Int) (p : Array Nat) (n q N : Nat) : Prop where
  lo : Lo p n N
  le : n ≤ N
  bk : q + 1 ≤ n
  dn : Dn key p (n - (q + 1))
  over : ∀ i j, i < n - (q + 1) → n - (q + 1) ≤ j → j < n → key (ix p j) < key (ix p i)
  same : ∀ i j, n - (q + 1) ≤ i → i < j → j < n → key (ix p i) = key (ix p j) ∧ ix p i < ix p j
structure Rn (key : Nat → Int) (r : Nat × Array Nat) (N : Nat) : Prop where
  one : 1 ≤ r.1
  le : r.1 ≤ N
  lo : Lo r.2 r.1 N
  up : Up key r.2 r.1
end
section
variable {lt : Nat → Nat → Bool} {N : Nat}
noncomputable def Rt {α : Type} (N : Nat) (lt : Nat → Nat → Bool) : KasT α → Prop
  | .ret _ => True
  | .ask i j k => i < N ∧ j < N ∧ Rt N lt (k (lt i j))
end
end Stb

namespace L2
open PySem PyProof.Rows
noncomputable def Rise (xs : Array Nat) : Prop := xs.toList.Pairwise (· < ·)
structure Tidy (led : Bool) (t : SetTable) : Prop where
  rise : Rise t.place
  dum : t.dummies = #[]
  led : t.led = led
end L2

namespace L2
open PySem PyProof.Rows
section
variable {prog : Program} {w : World} {A : Around} {E : Value → Shared → Prop} {s : Shared}
noncomputable def byT (w : World) : Bool := w.params.followText "set-order"
end
end L2

namespace L2
open PySem PyProof.Rows
section
variable {prog : Program} {w : World} {A : Around} {E : Value → Shared → Prop} {s : Shared}
noncomputable def draws (w : World) (es : Array (Int × Value)) (t : SetTable) : Bool := !byT w && (!t.plain && decide (es.size > 1))
end
end L2

namespace OL
open PySem L2
open Builtin.Int (intBits)
noncomputable def subB : List Int → List Int → Bool
  | _, [] => true
  | [], _ :: _ => false
  | v :: vs, l :: ls => if hasF v l then subB vs ls else subB vs (l :: ls)
noncomputable def fpN (vs row : List Int) : Nat → List Int
  | 0 => []
  | n + 1 => if (fpN vs row n).length < row.length ∧ hasF (vs.getD n 0) (row.getD (fpN vs row n).length 0) = true then fpN vs row n ++ [(n : Int)] else fpN vs row n
noncomputable def VR (m : Nat) (row : List Int) : Prop := ∀ l ∈ row, 0 < l ∧ l < 2 ^ m
noncomputable def wtR (row : List Int) : Nat := (row.map fun l => popc l.toNat).sum
noncomputable def growF (m : Nat) (row : List Int) : List (List Int) := ((List.range m).map fun (t : Nat) => row ++ [(2 : Int) ^ t]) ++ match row.getLast? with
  | none => []
  | some x => (List.range (m - intBits x)).map fun (i : Nat) => row.dropLast ++ [x + 2 ^ (intBits x + i)]
structure IsS (m w : Nat) (rows : List (List Int)) : Prop where
  nd : rows.Nodup
  mem : ∀ r, r ∈ rows ↔ VR m r ∧ wtR r = w
  ord : rows.Pairwise fun a b => ¬ b < a
noncomputable def lvlR (m : Nat) : Nat → List (List Int)
  | 0 => [[]]
  | n + 1 => (lvlR m n).flatMap (growF m)
noncomputable def srt (m w : Nat) : List (List Int) := (lvlR m w).mergeSort fun a b => decide (¬ b < a)
end OL

namespace OL
open PySem L2
noncomputable abbrev What := Int ⊕ List Int
noncomputable abbrev Rsn := Int × Str × What
noncomputable abbrev PRow := Int × Int × List Rsn
set_option synthInstance.maxSize 4000 in
instance decRsn : DecidableEq Rsn := fun a b => inferInstance
set_option synthInstance.maxSize 4000 in
instance decPRow : DecidableEq PRow := fun a b => inferInstance
noncomputable def Wds : List Str := ["leads", "rare", "", "Leads"]
structure RsnNice (r : Rsn) : Prop where
  wd : r.2.1 ∈ Wds
  lo : 0 ≤ r.1
  hi : r.1 < 1000000
  num : ∀ n, r.2.2 = .inl n → 0 ≤ n ∧ n < 1000000
  pls : ∀ l, r.2.2 = .inr l → l.length ≤ 30 ∧ ∀ x ∈ l, 0 ≤ x ∧ x < 1000000
structure PRowNice (r : PRow) : Prop where
  lo : 0 ≤ r.1 ∧ r.1 < 1000000
  cn : 0 ≤ r.2.1 ∧ r.2.1 < 1000000
  ln : r.2.2.length ≤ 12
  rs : ∀ x ∈ r.2.2, RsnNice x
inductive ListA {α : Type} (R : Hp → V → α → List Addr → Prop) (H : Hp) : List V → List α → List Addr → Prop
  | nil : ListA R H [] [] []
  | cons {v : V} {x : α} {a b : List Addr} {vs : List V} {xs : List α} : R H v x a → ListA R H vs xs b → ListA R H (v :: vs) (x :: xs) (a ++ b)
section
variable {α : Type} {R : Hp → V → α → List Addr → Prop} {H H' : Hp}
end
section
variable {many : Int} {bs : List Int} (hb : ∀ x ∈ bs, InB many x)
include hb
end
section
variable {K : PySem.W.Frag} {m : Nat} {js : List Nat} {g : TG} {c : TT} {te : TE} {σ : St} {H1 : Hp} {Q : VK} {α β : Type}
end
end OL

namespace OL.Q39
open PySem L2 OL
noncomputable def top (i : Nat) : Stmt := PySem.Challenge.pw_oftenlots_k39_texts_refused.main.body.getD i (.Pass ⟨0, 0, 0, 0⟩)
structure CC where
  OftenError : Addr
  NoDay : Addr
  NoLeast : Addr
  NoText : Addr
  NoLine : Addr
  NoThings : Addr
  NoRoom : Addr
structure Xs (K : PySem.W.Frag) (mg : Str → Option Value) (cc : CC) : Prop where
  m_OftenError : mg "OftenError" = some (.ref cc.OftenError)
  m_NoDay : mg "NoDay" = some (.ref cc.NoDay)
  m_NoLeast : mg "NoLeast" = some (.ref cc.NoLeast)
  m_NoText : mg "NoText" = some (.ref cc.NoText)
  m_NoLine : mg "NoLine" = some (.ref cc.NoLine)
  m_NoThings : mg "NoThings" = some (.ref cc.NoThings)
  m_NoRoom : mg "NoRoom" = some (.ref cc.NoRoom)
  r_NoText : XCls K "NoText" cc.NoText
  is_ : XIs K cc.NoText [.ref cc.NoDay, .ref cc.NoLeast, .ref cc.NoLine, .ref cc.NoRoom, .ref cc.NoThings] [.ref cc.NoText, .type "ValueError"]
  em_ : PySem.W.exmOne K (.ref cc.NoText) (.ref cc.OftenError) = some true
noncomputable abbrev sHas : Stmt := top 9
noncomputable abbrev sHasT : Stmt := top 10
noncomputable abbrev sWith : Stmt := top 11
noncomputable abbrev sLotOf : Stmt := top 12
noncomputable abbrev sThings : Stmt := top 13
noncomputable abbrev s_show_lot : Stmt := top 15
noncomputable abbrev s_read_lot : Stmt := top 16
noncomputable abbrev s_read_rule : Stmt := top 17
noncomputable abbrev s_read_day : Stmt := top 18
noncomputable abbrev s_taken_apart : Stmt := top 19
noncomputable abbrev s_split_in : Stmt := top 20
noncomputable abbrev sMixed : Stmt := top 22
noncomputable abbrev sPile : Stmt := top 23
noncomputable abbrev sTake : Stmt := top 24
noncomputable abbrev s_L_order : Stmt := top 25
noncomputable abbrev s_L_names : Stmt := top 26
noncomputable abbrev s_L_lot : Stmt := top 27
noncomputable abbrev s_L_shown : Stmt := top 28
noncomputable abbrev s_L_lot_in : Stmt := top 29
noncomputable abbrev s_L_rule_in : Stmt := top 30
noncomputable abbrev s_L_day_in : Stmt := top 31
noncomputable abbrev s_L_is_text : Stmt := top 32
noncomputable abbrev s_L_judged : Stmt := top 33
noncomputable abbrev s_L_bent : Stmt := top 34
noncomputable abbrev s_L_odd : Stmt := top 35
noncomputable abbrev s_law : Stmt := top 36
section
variable {P : Program} {w : World} {K : PySem.W.Frag} {mg : Str → Option Value} {base : Heap} {f : Addr} {fd : FuncData} {k : Nat}
open OL.K39
theorem iteF' {b : Bool} {A B : Prop} (e : b = false) (h : B) : if b = true then A else B := by rw [e]; exact h
theorem iteT' {b : Bool} {A B : Prop} (e : b = true) (h : A) : if b = true then A else B := by rw [e]; exact h
theorem scHas : FnScope ["one", "other"] ["one", "other"] (defScope sHas) := ⟨rfl, rfl, rfl, by decide +kernel, rfl, by decide +kernel, by decide +kernel⟩
theorem ok_has (F : Fun K "has" "has" sHas f fd) (b : Binds K fd ["one", "other"] []) (m : mg "has" = some (.ref f)) : Dfn P w K mg base (k + 1) "has" ["one", "other"] spHas := by
  refine .of F b m scHas (fun vs H Q E h => ?_) (fun cdv A outer s H vs Q E hr h => ?_)
  · obtain ⟨x, y, rfl, _⟩ := h; rfl
  obtain ⟨x, y, rfl, q⟩ := h
  refine ⟨_, pss_one (ps_ret (pe_cmpR op_eq (pe_op op_and (pv 0) (pv 1)) (pv 1) (nomark _))), ?_⟩
  refine ⟨_, rfl, _, rfl, _, _, rfl, rfl, _, rfl, rfl, ?_⟩
  rw [int_eq]; exact q

theorem scHasT : FnScope ["lot", "thing"] ["lot", "thing"] (defScope sHasT) := ⟨rfl, rfl, rfl, by decide +kernel, rfl, by decide +kernel, by decide +kernel⟩
theorem ok_hasT (F : Fun K "has_thing" "has_thing" sHasT f fd) (b : Binds K fd ["lot", "thing"] []) (m : mg "has_thing" = some (.ref f)) (G : Dfn P w K mg base k "has" ["one", "other"] spHas) : Dfn P w K mg base (k + 1) "has_thing" ["lot", "thing"] spHasT := by
  refine .of F b m scHasT (fun vs H Q E h => ?_) (fun cdv A outer s H vs Q E hr h => ?_)
  · obtain ⟨lot, t, rfl, _⟩ := h; rfl
  obtain ⟨lot, t, rfl, t0, t1, q⟩ := h
  refine ⟨_, pss_one (ps_ret (pe_def G hr (Nat.le_refl _) rfl (pa_cons (pv 0) (pa_cons (pe_op op_shl pe_int (pv 1)) pa_nil)))), ?_⟩
  exact ⟨_, rfl, _, rfl, _, _, rfl, rfl, ⟨t0, by omega, by decide⟩, _, _, rfl, q⟩

theorem scWith : FnScope ["lot", "thing"] ["lot", "thing"] (defScope sWith) := ⟨rfl, rfl, rfl, by decide +kernel, rfl, by decide +kernel, by decide +kernel⟩
theorem ok_with (F : Fun K "with_thing" "with_thing" sWith f fd) (b : Binds K fd ["lot", "thing"] []) (m : mg "with_thing" = some (.ref f)) : Dfn P w K mg base (k + 1) "with_thing" ["lot", "thing"] spWith := by
  refine .of F b m scWith (fun vs H Q E h => ?_) (fun cdv A outer s H vs Q E hr h => ?_)
  · obtain ⟨x, y, rfl, _⟩ := h; rfl
  obtain ⟨x, y, rfl, h0, h1, q⟩ := h
  exact ⟨_, pss_one (ps_ret (pe_op op_or (pv 0) (pe_op op_shl pe_int (pv 1)))), _, rfl, _, rfl, _, _, rfl, rfl, ⟨h0, by omega, by decide⟩, _, _, rfl, rfl, q⟩
theorem scLotOf : FnScope ["things", "lot", "thing"] ["things"] (defScope sLotOf) := ⟨rfl, rfl, rfl, by decide +kernel, rfl, by decide +kernel, by decide +kernel⟩
theorem ok_lotOf (F : Fun K "lot_of" "lot_of" sLotOf f fd) (b : Binds K fd ["things"] []) (m : mg "lot_of" = some (.ref f)) (G : Dfn P w K mg base k "with_thing" ["lot", "thing"] spWith) : Dfn P w K mg base (k + 1) "lot_of" ["things"] (spLotOf K) := by
  refine .of F b m scLotOf (fun vs H Q E h => ?_) (fun cdv A outer s H vs Q E hr h => ?_)
  · obtain ⟨p, ps, rfl, _⟩ := h; rfl
  obtain ⟨p, ps, rfl, hp, hps, q⟩ := h
  have nd := scLotOf.nd
  refine ⟨_, pss_cons (ps_set (i := 1) nd rfl (Or.inl rfl) pe_int) (pss_cons (ps_for PassesOwn.never rfl (pi_list (pv 0)) (pg_name (i := 2) nd rfl (Or.inl rfl)) (pss_one (ps_set (i := 1) nd rfl (Or.inl rfl) (pe_def G hr (Nat.le_refl _) rfl (pa_cons (pv 1) (pa_cons (pv 2) pa_nil)))))) (pss_one (ps_ret (pv 1)))), ?_⟩
  refine ⟨_, rfl, p, rfl, ⟨_, hp⟩, for_list (xs := ps.map V.int) (fun i σ H' => ∃ z2 : Option V, σ = [some (.ref p), some (.int (lotOf (ps.take i))), z2] ∧ H' = H) ⟨_, rfl, rfl⟩ (fun i σ H' _ h => by obtain ⟨_, _, rfl⟩ := h; exact hp) ?_ ?_⟩
  · rintro i x σ H' hx ⟨z2, rfl, rfl⟩
    have hi : i < ps.length := by have := (List.getElem?_eq_some_iff.mp hx).1; rwa [List.length_map] at this
    have hx' := ints_get hx
    subst hx'
    obtain ⟨h0, h1⟩ := hps _ (getD_mem hi)
    refine ⟨_, rfl, _, rfl, _, _, rfl, h0, h1, some (.int (ps.getD i 0)), ?_, rfl⟩
    have e : lotOf (ps.take (i + 1)) = Builtin.bitOr (lotOf (ps.take i)) (1 * 2 ^ (ps.getD i 0).toNat) := by
      unfold lotOf; rw [take_get hi, List.foldl_append]; rfl
    rw [e]; rfl
  · rintro σ H' ⟨z2, rfl, rfl⟩
    rw [List.length_map, List.take_length]
    exact ⟨_, rfl, q⟩
theorem scThings : FnScope ["lot"] ["lot"] (defScope sThings) := ⟨rfl, rfl, rfl, by decide +kernel, rfl, by decide +kernel, by decide +kernel⟩
theorem ndTL : (["thing", "lot"] : List Str).Nodup := by decide +kernel
theorem ok_things (F : Fun K "things_in" "things_in" sThings f fd) (b : Binds K fd ["lot"] []) (m : mg "things_in" = some (.ref f)) (mr : mg "range" = none) (G : Dfn P w K mg base k "has_thing" ["lot", "thing"] spHasT) : Dfn P w K mg base (k + 1) "things_in" ["lot"] (spInts thingsF) := by
  refine .of F b m scThings (fun vs H Q E h => ?_) (fun cdv A outer s H vs Q E hr h => ?_)
  · obtain ⟨lot, rfl, _⟩ := h; rfl
  obtain ⟨lot, rfl, hs, q⟩ := h
  refine ⟨_, pss_one (ps_ret (pe_comp ["thing"] [0] (sc := defScope sThings) (N := ["lot"]) rfl rfl ⟨rfl, by decide +kernel, by decide +kernel, by decide +kernel, by decide +kernel⟩ rfl
    (pi_range1 rfl mr (pa_cons (pe_bm0 PySem.F.plainAttrs_int PySem.F.slot_int_bit_length PySem.F.type_int_bit_length mt_bits (pv 0)) pa_nil)) (fun cl s H C fp => pg_name (i := 0) ndTL rfl (Or.inl rfl))
    (fun cl s H C fp => pifs_one (pt_val (pe_def G hr (Nat.le_refl _) rfl (pa_cons (pv 1) (pa_cons (pv 0) pa_nil))))) (fun cl s H C fp => pv 0))), ?_⟩
  have hb := hs.bits
  refine ⟨_, rfl, rfl, _, rfl, rfl, _, rfl, by omega, by omega, ?_⟩
  rw [Int.toNat_natCast]
  refine comp_range (fun i => (upto (fun t => hasF lot (1 * 2 ^ t.toNat)) i).map V.int) rfl (fun acc i H2 hacc hi S h0 => ?_) (fun acc H2 hacc S h0 => q acc H2 S hacc h0)
  rw [show (0 + (i : Int)) = (i : Int) from Int.zero_add _]
  refine ⟨(Wk.refl _).set (by decide), _, rfl, _, rfl, _, _, rfl, by omega, by omega, _, rfl, ?_⟩
  refine ite2 (fun c => ?_) (fun c => ?_)
  · refine ⟨_, rfl, cput hi hacc S h0 (Same.refl _) ?_ ?_⟩
    · show (upto _ (i + 1)).map V.int = _
      rw [upto_yes (p := fun t => hasF lot (1 * 2 ^ t.toNat)) c, List.map_append]; rfl
    · rw [List.length_map]
      have := upto_len (fun t => hasF lot (1 * 2 ^ t.toNat)) i
      exact small1000 (by omega)
  · refine cskip hi S h0 (Same.refl _) ?_
    show (upto _ (i + 1)).map V.int = _
    rw [upto_no (p := fun t => hasF lot (1 * 2 ^ t.toNat)) c]

noncomputable abbrev n_show_lot : List Str := ["names", "lot"]
theorem sc_show_lot : FnScope n_show_lot ["names", "lot"] (defScope s_show_lot) := ⟨rfl, rfl, rfl, by decide +kernel, rfl, by decide +kernel, by decide +kernel⟩
theorem nd_show_lot_0 : (["thing", "names"] : List Str).Nodup := by decide +kernel
theorem ok_show_lot (F : Fun K "show_lot" "show_lot" s_show_lot f fd) (b : Binds K fd ["names", "lot"] []) (m : mg "show_lot" = some (.ref f))  (G_things_in : Dfn P w K mg base k "things_in" ["lot"] (spInts thingsF)) : Dfn P w K mg base (k + 1) "show_lot" ["names", "lot"] (spShow K) := by
  refine .of F b m sc_show_lot (fun vs H Q E h => ?_) (fun cdv A outer s H vs Q E hr h => ?_)
  · obtain ⟨n, nm, lot, rfl, hn, ok, l0, l1, q⟩ := h; rfl
  obtain ⟨n, nm, lot, rfl, hn, ok, l0, l1, q⟩ := h
  have nd := sc_show_lot.nd
  have le := Nat.le_refl k
  refine ⟨_, pss_cons (ps_if (pt_cmpR op_eq (pv 1) pe_int (nomark _)) (pss_one (ps_ret pe_str)) pss_nil)
    (pss_one (ps_ret (pe_bm PySem.F.plainAttrs_str PySem.F.slot_str_join PySem.F.type_str_join mt_join pe_str (pa_cons (pe_compC ["thing"] [0] (sc := defScope s_show_lot) (N := n_show_lot) (.inl rfl) rfl ⟨rfl, by decide +kernel, by decide +kernel, by decide +kernel, by decide +kernel⟩ rfl (pi_list (pe_def G_things_in hr le rfl (pa_cons (pv 1) pa_nil))) (fun cl s H C fp => (pg_name (i := 0) nd_show_lot_0 rfl (Or.inl rfl))) (fun cl s H C fp => pifs_nil) (fun cl s H C fp => (pe_ix (ix_listK K rfl) (pv 1) (pv 0) (fun _ _ => rfl)))) pa_nil)))), ?_⟩
  have hs := ok.sm l0 l1
  have hfw := few_len hs
  refine seq_if (b := decide (V.int lot = V.int 0)) (.pure fun Q h => ⟨_, rfl, rfl, _, rfl, h⟩) fun H1 S1 => ?_
  refine ite2 (fun c => ?_) (fun c => ?_)
  · have e : lot = 0 := by have := of_decide_eq_true c; injection this
    subst e
    rw [show_zero] at q
    exact q H1 S1
  have e : lot ≠ 0 := fun z => c (by rw [z]; exact decide_eq_true rfl)
  dsimp only [tNext]
  refine ⟨rfl, _, rfl, lot, rfl, hs, fun th H2 S2 hth0 hth => ⟨th, rfl, ⟨_, SqL.of hth⟩, compV_list (SqL.of hth) (fun _ => true) (fun t => .str (nm.getD t.toNat "")) (by omega) (fun t H3 ht S3 => ?_) (fun acc H3 hacc S3 hacc3 => ?_)⟩⟩
  · obtain ⟨k, rfl, hk, _⟩ := ok.th l0 l1 ht
    exact turn_pick (y := .str (nm.getD (k : Int).toNat "")) look_yes (fun _ H4 S4 => .pure fun Q h => ⟨_, rfl, _, rfl, n, _, _, _, rfl, rfl, (S1.trans (S2.trans (S3.trans S4))).seq hn, atS_map (by omega) (by omega), h⟩) fun _ _ _ => rfl
  rw [filter_true] at hacc3
  have hw : wordsF nm lot = (thingsF lot).map fun t => nm.getD t.toNat "" := if_neg e
  have hl := show_len ok l0 l1
  rw [hw] at hl
  have hq := q _ (S1.trans (S2.trans S3))
  unfold showF at hq
  rw [hw] at hq
  generalize hws : ((thingsF lot).map fun t => nm.getD t.toNat "") = ws at hl hq
  have hacc4 : H3 acc = some (.lst (ws.map V.str)) := by rw [← hws, List.map_map]; exact hacc3
  exact ⟨spc, acc, ws, rfl, rfl, SqL.of hacc4, Nat.le_trans hl (by decide), hq⟩

end
end OL.Q39

namespace OL.Q39
open PySem L2 OL
section
variable {P : Program} {w : World} {K : PySem.W.Frag} {mg : Str → Option Value} {base : Heap} {f : Addr} {fd : FuncData} {k : Nat}
open OL.K39
noncomputable abbrev n_read_lot : List Str := ["names", "text", "words", "lot"]
theorem sc_read_lot : FnScope n_read_lot ["names", "text"] (defScope s_read_lot) := ⟨rfl, rfl, rfl, by decide +kernel, rfl, by decide +kernel, by decide +kernel⟩
theorem nd_read_lot_0 : (["thing", "name", "words"] : List Str).Nodup := by decide +kernel
set_option maxHeartbeats 1000000 in
theorem ok_read_lot (F : Fun K "read_lot" "read_lot" s_read_lot f fd) (b : Binds K fd ["names", "text"] []) (m : mg "read_lot" = some (.ref f)) (M_enumerate : mg "enumerate" = none) {cc : CC} (kX : Xs K mg cc) (G_lot_of : Dfn P w K mg base k "lot_of" ["things"] (spLotOf K)) (G_show_lot : Dfn P w K mg base k "show_lot" ["names", "lot"] (spShow K)) : DfnN P w K mg base (k + 1) "read_lot" ["names", "text"] (spReadN K cc.NoText oneIn) := by
  refine .of F b m sc_read_lot (fun vs H Q E h => ?_) (fun cdv A outer s H vs Q E hr h => ?_)
  · obtain ⟨n, nm, z, rfl, hn, ok, hz, qs, qn⟩ := h; rfl
  obtain ⟨n, nm, z, rfl, hn, ok, hz, qs, qn⟩ := h
  have nd := sc_read_lot.nd
  have le := Nat.le_refl k
  refine ⟨_, pss_cons (PS.nox (ps_set (i := 2) nd rfl (Or.inr rfl) (pe_bm PySem.F.plainAttrs_str PySem.F.slot_str_split PySem.F.type_str_split mt_split (pv 1) (pa_cons pe_str pa_nil))))
    (pss_cons (PS.nox (ps_set (i := 3) nd rfl (Or.inl rfl) (pe_def G_lot_of hr le rfl (pa_cons (pe_compC ["thing", "name"] [2] (sc := defScope s_read_lot) (N := n_read_lot) (.inl rfl) rfl ⟨rfl, by decide +kernel, by decide +kernel, by decide +kernel, by decide +kernel⟩ rfl (pi_enum rfl M_enumerate (pa_cons (pv 0) pa_nil)) (fun cl s H C fp => (pg_tupK (n := 2) K rfl rfl (pgs_cons (pg_name (i := 0) nd_read_lot_0 rfl (Or.inl rfl)) (pgs_cons (pg_name (i := 1) nd_read_lot_0 rfl (Or.inl rfl)) pgs_nil)))) (fun cl s H C fp => pifs_one (pt_cmpR (op_inK K rfl) (pv 1) (pv 2) (by rfl))) (fun cl s H C fp => (pv 0))) pa_nil))))
    (pss_cons (ps_if (pt_cmpR op_ne (pe_def G_show_lot hr le rfl (pa_cons (pv 0) (pa_cons (pv 3) pa_nil))) (pv 1) (nomark _)) (pss_one (ps_raise kX.r_NoText hr (pa_cons pe_str pa_nil) rfl)) pss_nil)
    (pss_one (PS.nox (ps_ret (pv 3)))))), ?_⟩
  have hz' : z.length ≤ 60000 := hz
  have hn12 := ok.hi
  refine ⟨_, rfl, rfl, z, spc, rfl, rfl, (by decide +kernel), Nat.le_trans (Nat.add_le_add_right hz' 2) (by decide), fun wl hwl => ?_⟩
  have S1 := same_new hwl (.lst ((Txt.split z spc).map V.str))
  have hw1 : upd H wl (.lst ((Txt.split z spc).map V.str)) wl = some (.lst ((Txt.split z spc).map V.str)) := upd_same
  generalize upd H wl (.lst ((Txt.split z spc).map V.str)) = H1 at S1 hw1 ⊢
  try dsimp only [gName]
  refine ⟨_, rfl, n, rfl, ⟨_, S1.seq hn⟩, comp_enum (S1.seq hn) (fun j => (((List.range j).filter fun i => (Txt.split z spc).any fun w => decide (w = nm.getD i "")).map fun (i : Nat) => (i : Int)).map V.int) rfl (fun acc j x pp H2 hacc hj hx S h0 hpp => ?_) (fun hl H2 hhl0 S2 hhl => ?_)⟩
  · rw [List.length_map] at hj
    have hx' : x = .str (nm.getD j "") := by
      rw [List.getElem?_map, List.getElem?_eq_getElem hj] at hx
      rw [List.getD_eq_getElem?_getD, List.getElem?_eq_getElem hj]
      exact (Option.some.inj hx).symm
    subst hx'
    have Sp := same_new hpp (.tup [.int (j : Nat), .str (nm.getD j "")])
    refine ⟨pp, _, rfl, SqT.of upd_same, rfl, _, _, rfl, _, _, rfl, rfl, Wk.set (i := 1) ((Wk.refl _).set (i := 0) (by decide)) (by decide), _, rfl, _, rfl, wl, _, rfl, .inl (SqL.of (Sp _ _ (S _ _ hw1))), rfl, flat_strs _, _, rfl, ?_⟩
    have hfl : (((List.range j).filter fun i => (Txt.split z spc).any fun w => decide (w = nm.getD i "")).map fun (i : Nat) => (i : Int)).length ≤ j := by rw [List.length_map]; exact Nat.le_trans (List.length_filter_le _ _) (by rw [List.length_range]; exact Nat.le_refl _)
    show if inV (.str (nm.getD j "")) ((Txt.split z spc).map V.str) = true then _ else _
    rw [in_strs]
    refine ite2 (fun c => ⟨_, rfl, cput (by rw [List.length_map]; exact hj) hacc S h0 Sp ?_ ?_⟩) (fun c => cskip (by rw [List.length_map]; exact hj) S h0 Sp ?_)
    · show (((List.range (j + 1)).filter _).map _).map V.int = _
      rw [List.range_succ, List.filter_append, List.filter_cons, if_pos c, List.map_append, List.map_append]; rfl
    · rw [List.length_map]; exact small1000 (by omega)
    · show (((List.range (j + 1)).filter _).map _).map V.int = _
      rw [List.range_succ, List.filter_append, List.filter_cons, if_neg c]; simp
  rw [List.length_map] at hhl
  refine ⟨hl, _, rfl, SqL.of hhl, fun q hq => ?_, ?_⟩
  · obtain ⟨i, hi, rfl⟩ := List.mem_map.mp hq
    have := List.mem_range.mp (List.mem_filter.mp hi).1
    omega
  have m0 := mask_ok (fun i => (Txt.split z spc).any fun w => decide (w = nm.getD i "")) nm.length
  have m1 := mask_lt (fun i => (Txt.split z spc).any fun w => decide (w = nm.getD i "")) nm.length
  rw [show lotOf (((List.range nm.length).filter fun i => (Txt.split z spc).any fun w => decide (w = nm.getD i "")).map fun (i : Nat) => (i : Int)) = readL nm z from rfl]
  have S12 := S1.trans S2
  obtain ⟨ra, rb⟩ := read_lot_iff ok (z := z)
  have L0 : 0 ≤ readL nm z := m0.1
  have L1 : readL nm z < 2 ^ nm.length := m1
  generalize readL nm z = lot at ra rb L0 L1 ⊢
  try dsimp only [gName]
  refine seq_if (b := !decide (V.str (showF nm lot) = V.str z)) (fun Q h => ⟨_, rfl, _, rfl, n, nm, lot, rfl, S12.seq hn, ok, L0, L1, fun H3 S3 => ⟨_, rfl, rfl, _, rfl, h _ S3⟩⟩) fun H3 S3 => ?_
  by_cases c : showF nm lot = z
  · refine iteF' (by rw [c]; simp) ?_
    try dsimp only [tNext]
    exact ⟨_, rfl, qs _ (by unfold oneIn; rw [ra c]; rfl) _ _ (S12.trans S3) (.int lot)⟩
  · refine iteT' (by simpa using c) ?_
    refine ⟨(by show 1 ≤ sizeLine; decide), fun a ha => qn (by unfold oneIn; rw [rb c]; rfl) a _ ((S12.trans S3).trans (same_new ha _)) ((S12.trans S3).free ha) upd_same⟩
noncomputable abbrev n_split_in : List Str := ["text", "sign", "many", "pieces"]
theorem sc_split_in : FnScope n_split_in ["text", "sign", "many"] (defScope s_split_in) := ⟨rfl, rfl, rfl, by decide +kernel, rfl, by decide +kernel, by decide +kernel⟩
set_option maxHeartbeats 1000000 in
theorem ok_split_in (F : Fun K "split_in" "split_in" s_split_in f fd) (b : Binds K fd ["text", "sign", "many"] []) (m : mg "split_in" = some (.ref f)) (M_len : mg "len" = none) {cc : CC} (kX : Xs K mg cc)  : DfnN P w K mg base (k + 1) "split_in" ["text", "sign", "many"] (spSplitN cc.NoText) := by
  refine .of F b m sc_split_in (fun vs H Q E h => ?_) (fun cdv A outer s H vs Q E hr h => ?_)
  · obtain ⟨z, sg, many, rfl, h0, hz, qs, qn⟩ := h; rfl
  obtain ⟨z, sg, many, rfl, h0, hz, qs, qn⟩ := h
  have nd := sc_split_in.nd
  refine ⟨_, pss_cons (PS.nox (ps_set (i := 3) nd rfl (Or.inl rfl) (pe_bm PySem.F.plainAttrs_str PySem.F.slot_str_split PySem.F.type_str_split mt_split (pv 0) (pa_cons (pv 1) pa_nil))))
    (pss_cons (ps_if (pt_cmpR op_ne (pe_callB call_len_seq (by rfl) M_len PySem.boot_len (pa_cons (pv 3) pa_nil)) (pv 2) (nomark _)) (pss_one (ps_raise kX.r_NoText hr (pa_cons pe_str pa_nil) rfl)) pss_nil)
    (pss_one (PS.nox (ps_ret (pv 3))))), ?_⟩
  refine ⟨_, rfl, rfl, _, rfl, z, sg, rfl, rfl, h0, hz, fun pl hpl => ?_⟩
  have S1 := same_new hpl (.lst ((Txt.split z sg).map V.str))
  have hp1 : upd H pl (.lst ((Txt.split z sg).map V.str)) pl = some (.lst ((Txt.split z sg).map V.str)) := upd_same
  generalize upd H pl (.lst ((Txt.split z sg).map V.str)) = H1 at S1 hp1 ⊢
  try dsimp only [gName]
  refine seq_if (b := !decide (V.int (((Txt.split z sg).map V.str).length : Int) = V.int (many : Int))) (fun Q h => ⟨_, rfl, pl, _, rfl, .inl (SqL.of hp1), _, rfl, rfl, _, rfl, h _ (Same.refl _)⟩) fun H2 S2 => ?_
  have S12 := S1.trans S2
  rw [List.length_map]
  by_cases c : (Txt.split z sg).length = many
  · refine iteF' (by rw [c]; simp) ?_
    try dsimp only [tNext]
    exact ⟨_, rfl, qs c pl _ S12 hpl (S2 _ _ hp1)⟩
  · refine iteT' (by simp; omega) ?_
    exact ⟨(by show 1 ≤ sizeLine; decide), fun a ha => qn c a _ (S12.trans (same_new ha _)) (S12.free ha) upd_same⟩
theorem rule_none {nm : List Str} {z : Str} (h : (Txt.split z arrow).length ≠ 2) : ruleIn nm z = none := by
  unfold ruleIn
  have h : ((Txt.split z arrow).map (lotIn nm)).length ≠ 2 := by rw [List.length_map]; exact h
  generalize (Txt.split z arrow).map (lotIn nm) = os at h
  match os, h with
  | [], _ => rfl
  | [none], _ => rfl
  | [some _], _ => rfl
  | none :: _ :: _ :: _, _ => rfl
  | some _ :: none :: _ :: _, _ => rfl
  | some _ :: some _ :: _ :: _, _ => rfl
  | [_, _], h => exact absurd rfl h
theorem two_of {ws : List Str} (h : ws.length = 2) : ∃ a b, ws = [a, b] := by
  match ws, h with
  | [a, b], _ => exact ⟨a, b, rfl⟩
theorem one_some {nm : List Str} {t : Str} {d : PyData} (h : oneIn nm t = some d) : ∃ l, lotIn nm t = some l ∧ d = .int l := by
  unfold oneIn at h
  cases e : lotIn nm t with
  | none => rw [e] at h; cases h
  | some l => rw [e] at h; cases h; exact ⟨l, rfl, rfl⟩
theorem one_none {nm : List Str} {t : Str} (h : oneIn nm t = none) : lotIn nm t = none := by
  unfold oneIn at h
  cases e : lotIn nm t with
  | none => rfl
  | some l => rw [e] at h; cases h
noncomputable abbrev n_read_rule : List Str := ["names", "text", "sides"]
theorem sc_read_rule : FnScope n_read_rule ["names", "text"] (defScope s_read_rule) := ⟨rfl, rfl, rfl, by decide +kernel, rfl, by decide +kernel, by decide +kernel⟩
set_option maxHeartbeats 1000000 in
theorem ok_read_rule (F : Fun K "read_rule" "read_rule" s_read_rule f fd) (b : Binds K fd ["names", "text"] []) (m : mg "read_rule" = some (.ref f))  {cc : CC} (kX : Xs K mg cc) (G_split_in : DfnN P w K mg base k "split_in" ["text", "sign", "many"] (spSplitN cc.NoText)) (G_read_lot : DfnN P w K mg base k "read_lot" ["names", "text"] (spReadN K cc.NoText oneIn)) : DfnN P w K mg base (k + 1) "read_rule" ["names", "text"] (spReadN K cc.NoText ruleIn) := by
  refine .of F b m sc_read_rule (fun vs H Q E h => ?_) (fun cdv A outer s H vs Q E hr h => ?_)
  · obtain ⟨n, nm, z, rfl, hn, ok, hz, qs, qn⟩ := h; rfl
  obtain ⟨n, nm, z, rfl, hn, ok, hz, qs, qn⟩ := h
  have nd := sc_read_rule.nd
  have le := Nat.le_refl k
  refine ⟨_, pss_cons (ps_set (i := 2) nd rfl (Or.inl rfl) (pe_defN G_split_in hr le rfl (pa_cons (pv 1) (pa_cons pe_str (pa_cons pe_int pa_nil)))))
    (pss_one (ps_ret (pe_tup (pa_cons (pe_defN G_read_lot hr le rfl (pa_cons (pv 0) (pa_cons (pe_ix ix_list (pv 2) pe_int (fun _ _ => rfl)) pa_nil))) (pa_cons (pe_defN G_read_lot hr le rfl (pa_cons (pv 0) (pa_cons (pe_ix ix_list (pv 2) pe_int (fun _ _ => rfl)) pa_nil))) pa_nil))))), ?_⟩
  have hz' : z.length ≤ 60000 := hz
  refine ⟨_, rfl, z, arrow, 2, rfl, by decide +kernel, Nat.le_trans (Nat.add_le_add_right hz' 2) (by decide), fun e2 l H1 S1 hl0 hl1 => ?_, fun ne a H1 S1 ha0 ha1 => qn (rule_none ne) a H1 S1 ha0 ha1⟩
  obtain ⟨y0, y1, hsp⟩ := two_of e2
  have p0 : y0.length ≤ BigT := Nat.le_trans (piece_le (s := arrow) (z := z) (by rw [hsp]; exact List.mem_cons_self)) hz
  have p1 : y1.length ≤ BigT := Nat.le_trans (piece_le (s := arrow) (z := z) (by rw [hsp]; exact List.mem_cons_of_mem _ List.mem_cons_self)) hz
  have hr : ruleIn nm z = match [lotIn nm y0, lotIn nm y1] with | [some a, some b] => some (.tuple [.int a, .int b]) | _ => none := by unfold ruleIn; rw [hsp]; rfl
  rw [hsp] at hl1
  try dsimp only [gName]
  refine ⟨_, rfl, _, rfl, l, _, _, _, rfl, rfl, SqL.of hl1, rfl, n, nm, y0, rfl, S1.seq hn, ok, p0, fun d hd v H2 S2 dr => ?_, fun hd a H2 S2 ha0 ha1 => qn (by rw [hr, one_none hd]) a H2 (S1.trans S2) (S1.free ha0) ha1⟩
  obtain ⟨x0, e0, rfl⟩ := one_some hd
  have ev := dr_int dr
  subst ev
  refine ⟨_, rfl, _, rfl, l, _, _, _, rfl, rfl, SqL.of (S2 _ _ hl1), rfl, n, nm, y1, rfl, (S1.trans S2).seq hn, ok, p1, fun d hd v H3 S3 dr => ?_, fun hd a H3 S3 ha0 ha1 => qn (by rw [hr, e0, one_none hd]) a H3 ((S1.trans S2).trans S3) ((S1.trans S2).free ha0) ha1⟩
  obtain ⟨x1, e1, rfl⟩ := one_some hd
  have ev := dr_int dr
  subst ev
  exact ⟨(by show 2 ≤ sizeLine; decide), fun p hp => qs (.tuple [.int x0, .int x1]) (by rw [hr, e0, e1]) (.ref p) _ ((S1.trans (S2.trans S3)).trans (same_new hp _)) (.tup (SqT.of upd_same) (.cons (.int x0) (.cons (.int x1) .nil)))⟩
noncomputable abbrev n_taken_apart : List Str := ["sign", "text"]
theorem sc_taken_apart : FnScope n_taken_apart ["sign", "text"] (defScope s_taken_apart) := ⟨rfl, rfl, rfl, by decide +kernel, rfl, by decide +kernel, by decide +kernel⟩
theorem ok_taken_apart (F : Fun K "taken_apart" "taken_apart" s_taken_apart f fd) (b : Binds K fd ["sign", "text"] []) (m : mg "taken_apart" = some (.ref f))   : Dfn P w K mg base (k + 1) "taken_apart" ["sign", "text"] spApart := by
  refine .of F b m sc_taken_apart (fun vs H Q E h => ?_) (fun cdv A outer s H vs Q E hr h => ?_)
  · obtain ⟨sg, z, rfl, h0, hz, q⟩ := h; rfl
  obtain ⟨sg, z, rfl, h0, hz, q⟩ := h
  have nd := sc_taken_apart.nd
  refine ⟨_, pss_cons (ps_if (pt_cmpR op_eq (pv 1) pe_str (nomark _)) (pss_one (ps_ret (pe_lst pa_nil))) pss_nil)
    (pss_one (ps_ret (pe_bm PySem.F.plainAttrs_str PySem.F.slot_str_split PySem.F.type_str_split mt_split (pv 1) (pa_cons (pv 0) pa_nil)))), ?_⟩
  refine seq_if (b := decide (V.str z = V.str "none")) (.pure fun Q h => ⟨_, rfl, rfl, _, rfl, h⟩) fun H1 S1 => ?_
  refine ite2 (fun c => ?_) (fun c => ?_)
  · have e : z = noneT := by have := of_decide_eq_true c; injection this
    rw [if_pos e] at q
    exact ⟨nil_len, fun l hl => q l _ (S1.trans (same_new hl _)) (S1.free hl) upd_same⟩
  · have e : z ≠ noneT := fun w => c (by rw [w]; exact decide_eq_true rfl)
    rw [if_neg e] at q
    dsimp only [tNext]
    exact ⟨_, rfl, rfl, _, rfl, z, sg, rfl, rfl, h0, hz, fun l hl => q l _ (S1.trans (same_new hl _)) (S1.free hl) upd_same⟩
theorem days_none {nm : List Str} {z t : Str} (hm : t ∈ (if z = noneT then [] else Txt.split z semi)) (h : lotIn nm t = none) : dayIn nm z = none := by
  unfold dayIn
  by_cases c : z = noneT
  · rw [if_pos c] at hm; cases hm
  · rw [if_neg c] at hm ⊢
    unfold daysF
    rw [if_neg]
    intro z
    rw [List.all_eq_true] at z
    have := z _ (List.mem_map.mpr ⟨t, hm, rfl⟩)
    rw [h] at this; cases this
theorem days_some {nm : List Str} {z : Str} (h : ∀ t ∈ (if z = noneT then [] else Txt.split z semi), (lotIn nm t).isSome = true) : dayIn nm z = some (.list (((if z = noneT then [] else Txt.split z semi).map fun t => (lotIn nm t).getD 0).map PyData.int)) := by
  unfold dayIn
  by_cases c : z = noneT
  · rw [if_pos c, if_pos c]; rfl
  · rw [if_neg c] at h ⊢
    rw [if_neg c]
    unfold daysF
    rw [if_pos (List.all_eq_true.mpr fun o ho => by obtain ⟨t, ht, rfl⟩ := List.mem_map.mp ho; exact h t ht), List.map_map, List.map_map, List.map_map]
    rfl
theorem paired_lots {nm : List Str} : ∀ {ys : List V} {ws : List Str}, Paired (fun y t => ∃ l, lotIn nm t = some l ∧ y = V.int l) ys ws → ys = (ws.map fun t => (lotIn nm t).getD 0).map V.int ∧ ∀ t ∈ ws, (lotIn nm t).isSome = true := by
  intro ys ws h
  induction h with
  | nil => exact ⟨rfl, fun t h => nomatch h⟩
  | cons r _ ih =>
    obtain ⟨l, e, rfl⟩ := r
    refine ⟨by rw [ih.1, List.map_cons, List.map_cons, e]; rfl, fun t ht => ?_⟩
    rcases List.mem_cons.mp ht with rfl | ht
    · rw [e]; rfl
    · exact ih.2 t ht
noncomputable abbrev n_read_day : List Str := ["names", "text"]
theorem sc_read_day : FnScope n_read_day ["names", "text"] (defScope s_read_day) := ⟨rfl, rfl, rfl, by decide +kernel, rfl, by decide +kernel, by decide +kernel⟩
theorem nd_read_day_0 : (["part", "names"] : List Str).Nodup := by decide +kernel
set_option maxHeartbeats 1000000 in
theorem ok_read_day (F : Fun K "read_day" "read_day" s_read_day f fd) (b : Binds K fd ["names", "text"] []) (m : mg "read_day" = some (.ref f))  {cc : CC} (kX : Xs K mg cc) (G_taken_apart : Dfn P w K mg base k "taken_apart" ["sign", "text"] spApart) (G_read_lot : DfnN P w K mg base k "read_lot" ["names", "text"] (spReadN K cc.NoText oneIn)) : DfnN P w K mg base (k + 1) "read_day" ["names", "text"] (spReadN K cc.NoText dayIn) := by
  refine .of F b m sc_read_day (fun vs H Q E h => ?_) (fun cdv A outer s H vs Q E hr h => ?_)
  · obtain ⟨n, nm, z, rfl, hn, ok, hz, qs, qn⟩ := h; rfl
  obtain ⟨n, nm, z, rfl, hn, ok, hz, qs, qn⟩ := h
  have nd := sc_read_day.nd
  have le := Nat.le_refl k
  refine ⟨_, pss_one (ps_ret (pe_compN (js := [0]) (sc := defScope s_read_day) (N' := n_read_day) ["part"] rfl rfl ⟨rfl, by decide +kernel, by decide +kernel, by decide +kernel, by decide +kernel⟩ (pi_list (pe_def G_taken_apart hr le rfl (pa_cons pe_str (pa_cons (pv 1) pa_nil)))) (fun cl s H C fp => (pg_name (i := 0) nd_read_day_0 rfl (Or.inl rfl))) (fun cl s H C fp => pifs_nil) (fun cl s H C fp => (pe_defT G_read_lot hr le rfl (pa_cons (pv 1) (pa_cons (pv 0) pa_nil)))))), ?_⟩
  have hz' : z.length ≤ 60000 := hz
  refine ⟨_, rfl, semi, z, rfl, by decide +kernel, Nat.le_trans (Nat.add_le_add_right hz' 2) (by decide), fun l H1 S1 hl0 hl1 => ?_⟩
  have hle : (if z = noneT then [] else Txt.split z semi).length ≤ 60002 := by
    by_cases c : z = noneT
    · rw [if_pos c]; exact Nat.zero_le _
    · rw [if_neg c]; have := split_few z semi; omega
  have hpc : ∀ t ∈ (if z = noneT then [] else Txt.split z semi), t.length ≤ BigT := fun t ht => by
    by_cases c : z = noneT
    · rw [if_pos c] at ht; cases ht
    · rw [if_neg c] at ht; exact Nat.le_trans (piece_le ht) hz
  have dn := fun t hm h => days_none (nm := nm) (z := z) (t := t) hm h
  have ds := days_some (nm := nm) (z := z)
  generalize (if z = noneT then [] else Txt.split z semi) = ws at hl1 hle hpc dn ds
  refine ⟨l, rfl, ⟨_, SqL.of hl1⟩, compA_list (as := ws) (Re := fun v t => v = .str t) (SqL.of hl1) (paired_mapped ws) (fun _ => true) (fun _ y t => ∃ l, lotIn nm t = some l ∧ y = V.int l) (fun _ _ _ _ _ z => z) (by omega) (fun t v H2 ht e S2 => ?_) (fun acc ys H2 hacc S2 hacc2 hys => ?_)⟩
  · subst e
    intro PUT SKIP hput hskip
    refine ⟨(Wk.refl _).set (by decide), yes_of ⟨_, rfl, _, rfl, n, nm, t, rfl, (S1.trans S2).seq hn, ok, hpc t ht, fun d hd v H5 S5 dr => ?_, fun hd a H5 S5 ha0 ha1 => qn (dn t ht (one_none hd)) a H5 ((S1.trans S2).trans S5) ((S1.trans S2).free ha0) ha1⟩⟩
    obtain ⟨x0, e0, rfl⟩ := one_some hd
    have ev := dr_int dr
    subst ev
    exact hput rfl _ _ S5 ⟨x0, e0, rfl⟩
  · rw [filter_true] at hys
    obtain ⟨e1, e2⟩ := paired_lots hys
    subst e1
    exact qs _ (ds e2) (.ref acc) H2 (S1.trans S2) (.lst (SqL.of hacc2) (DRs.ints _))

end
end OL.Q39

namespace OL.Q39
open PySem L2 OL
section
variable {P : Program} {w : World} {K : PySem.W.Frag} {mg : Str → Option Value} {base : Heap} {f : Addr} {fd : FuncData} {k : Nat}
theorem scMixed : FnScope ["_law_cell", "_law_k", "_law_number"] ["_law_cell", "_law_k"] (defScope sMixed) := ⟨rfl, rfl, rfl, by decide +kernel, rfl, by decide +kernel, by decide +kernel⟩
theorem ok_mixed (F : Fun K "_law_mixed" "_law_mixed" sMixed f fd) (b : Binds K fd ["_law_cell", "_law_k"] []) (m : mg "_law_mixed" = some (.ref f)) : Dfn P w K mg base (k + 1) "_law_mixed" ["_law_cell", "_law_k"] spMixed := by
  refine .of F b m scMixed (fun vs H Q E h => ?_) (fun cdv A outer s H vs Q E hr h => ?_)
  · obtain ⟨c, k, rfl, _⟩ := h; rfl
  obtain ⟨c, i, rfl, q⟩ := h
  refine ⟨_, pss_cons (ps_set (i := 2) scMixed.nd rfl (Or.inl rfl) (pe_op op_mod (pe_op op_add (pe_op op_add (pe_op op_mul (pe_op op_mod (pv 0) pe_int) pe_int) (pe_op op_mul (pv 1) pe_int)) pe_int) pe_int))
    (pss_cons (ps_set (i := 2) scMixed.nd rfl (Or.inl rfl) (pe_op op_mod (pe_op op_mul (pv 2) (pv 2)) pe_int))
    (pss_one (ps_ret (pe_op op_fdiv (pe_op op_mod (pe_op op_mul (pv 2) (pv 2)) pe_int) pe_int)))), ?_⟩
  refine ⟨_, rfl, _, _, rfl, rfl, (by show (0 : Int) < 2147483647; decide), _, _, rfl, rfl, .inl (mod_ok _ (by decide) (by decide)), _, rfl, _, _, rfl, rfl, .inr ⟨by decide, by decide⟩, _, _, rfl, rfl, _, _, rfl, rfl, _, _, rfl, rfl, (by show (0 : Int) < 2147483647; decide), ?_⟩
  refine ⟨_, rfl, _, rfl, _, _, rfl, rfl, .inl (mod_ok _ (by decide) (by decide)), _, _, rfl, rfl, (by show (0 : Int) < 2147483629; decide), ?_⟩
  refine ⟨_, rfl, _, rfl, _, _, rfl, rfl, .inl (mod_ok _ (by decide) (by decide)), _, _, rfl, rfl, (by show (0 : Int) < 2147483587; decide), _, _, rfl, rfl, ⟨by decide, by decide⟩, q _ (Int.ediv_nonneg (Int.emod_nonneg _ (by decide)) (by decide))⟩

theorem scPile : FnScope ["_law_script", "_law_k", "_law_cell"] ["_law_script", "_law_k"] (defScope sPile) := ⟨rfl, rfl, rfl, by decide +kernel, rfl, by decide +kernel, by decide +kernel⟩
theorem ok_pile (F : Fun K "_law_pile" "_law_pile" sPile f fd) (b : Binds K fd ["_law_script", "_law_k"] []) (m : mg "_law_pile" = some (.ref f)) (ml : mg "len" = none) (mi : mg "int" = none) (ma : mg "abs" = none) : Dfn P w K mg base (k + 1) "_law_pile" ["_law_script", "_law_k"] (spPile K) := by
  refine .of F b m scPile (fun vs H Q E h => ?_) (fun cdv A outer s H vs Q E hr h => ?_)
  · obtain ⟨a, ns, k, rfl, _⟩ := h; rfl
  obtain ⟨a, ns, i, rfl, hS, h0, q⟩ := h
  refine ⟨_, pss_cons (ps_set (i := 2) scPile.nd rfl (Or.inl rfl) pe_int)
    (pss_mid (ps_if (pt_cmpR op_lt (pv 1) (pe_callB call_len_seq (by rfl) ml PySem.boot_len (pa_cons (pv 0) pa_nil)) (nomark _)) (pss_one (ps_set (i := 2) scPile.nd rfl (Or.inl rfl) (pe_ix ix_list (pv 0) (pv 1) (fun _ _ => rfl)))) pss_nil)
    (pss_one (ps_ret (pe_lst (pa_cons (pe_op op_mul (pv 2) (pe_callTy call_int1 (by rfl) mi PyProof.Rows.boot_int (pa_cons (pe_cmpR op_ge (pe_callB call_abs (by rfl) ma PyProof.Rows.boot_abs (pa_cons (pv 2) pa_nil)) (pe_op op_pow pe_int pe_int) (nomark _)) pa_nil))) (pa_cons (pv 2) (pa_cons (pe_op op_mul pe_int (pv 1)) pa_nil))))))), ?_⟩
  refine ⟨fun σ H' => ∃ c : Int, σ = [some (.ref a), some (.int i), some (.int c)] ∧ H' = H, ?_, ?_⟩
  · refine ⟨_, rfl, _, rfl, a, _, rfl, .inl hS, _, _, rfl, rfl, _, rfl, ?_⟩
    rw [List.length_map]
    refine ite2 (fun c => ?_) (fun c => ⟨_, rfl, rfl⟩)
    have c' : i < (ns.length : Int) := of_decide_eq_true c
    exact ⟨_, rfl, _, rfl, a, _, _, _, rfl, rfl, hS, atI_int h0 c', _, rfl, rfl⟩
  rintro σ H' ⟨c, rfl, rfl⟩
  refine ⟨_, rfl, _, rfl, _, rfl, _, _, rfl, rfl, ⟨by decide, by decide, by decide⟩, _, _, rfl, rfl, .inr ⟨_, rfl, _, _, rfl, rfl, mul01 _ _, _, rfl, _, rfl, _, _, rfl, rfl, .inl ⟨by decide, by decide⟩, (by show 3 ≤ sizeLine; decide), fun r hr0 => ?_⟩⟩
  exact q r _ _ _ _ (same_new hr0 _) hr0 upd_same

theorem scTake : FnScope ["_law_pile_here", "_law_many", "_law_digit"] ["_law_pile_here", "_law_many"] (defScope sTake) := ⟨rfl, rfl, rfl, by decide +kernel, rfl, by decide +kernel, by decide +kernel⟩
theorem ok_take (F : Fun K "_law_take" "_law_take" sTake f fd) (b : Binds K fd ["_law_pile_here", "_law_many"] []) (m : mg "_law_take" = some (.ref f)) (G : Dfn P w K mg base k "_law_mixed" ["_law_cell", "_law_k"] spMixed) : Dfn P w K mg base (k + 1) "_law_take" ["_law_pile_here", "_law_many"] spTake := by
  refine .of F b m scTake (fun vs H Q E h => ?_) (fun cdv A outer s H vs Q E hr h => ?_)
  · obtain ⟨p, m, x, y, z, rfl, _⟩ := h; rfl
  obtain ⟨p, n, x, y, z, rfl, n0, n1, hp, q⟩ := h
  refine ⟨_, pss_cons (ps_if (pt_cmpR op_in_seq (pe_ix ix_list (pv 0) pe_int (fun _ _ => rfl)) (pe_lst (pa_cons pe_int (pa_cons (pe_un un_neg pe_int) pa_nil))) (by rfl))
      (pss_cons (ps_asg (pe_op op_add (pe_ix ix_list (pv 0) pe_int (fun _ _ => rfl)) pe_int) (pg_sub (pv 0) pe_int set_list))
        (pss_one (ps_ret (pe_op op_mod (pe_def G hr (Nat.le_refl _) rfl (pa_cons (pe_ix ix_list (pv 0) pe_int (fun _ _ => rfl)) (pa_cons (pe_ix ix_list (pv 0) pe_int (fun _ _ => rfl)) pa_nil))) (pv 1))))) pss_nil)
    (pss_cons (ps_set (i := 2) scTake.nd rfl (Or.inl rfl) (pe_op op_mod (pe_ix ix_list (pv 0) pe_int (fun _ _ => rfl)) (pv 1)))
    (pss_cons (ps_asg (pe_op op_fdiv (pe_ix ix_list (pv 0) pe_int (fun _ _ => rfl)) (pv 1)) (pg_sub (pv 0) pe_int set_list))
    (pss_one (ps_ret (pv 2))))), ?_⟩
  refine ⟨_, rfl, p, _, _, _, rfl, rfl, SqL.of hp, rfl, _, rfl, (by show 2 ≤ sizeLine; decide), fun r hr0 => ⟨r, _, rfl, .inl (SqL.of upd_same), rfl, rfl, _, rfl, ?_⟩⟩
  have S1 := same_new hr0 (.lst [.int 0, .int (-1)])
  have hp1 := S1 _ _ hp
  refine ite2 (fun c => ?_) (fun c => ?_)
  · refine ⟨_, rfl, p, _, _, _, rfl, rfl, SqL.of hp1, rfl, _, _, rfl, rfl, _, rfl, p, _, _, 2, rfl, rfl, hp1, rfl, ?_⟩
    refine ⟨_, rfl, p, _, _, _, rfl, rfl, SqL.of upd_same, rfl, _, rfl, p, _, _, _, rfl, rfl, SqL.of upd_same, rfl, _, _, rfl, fun y0 hy0 => ?_⟩
    refine ⟨_, rfl, _, _, rfl, rfl, n0, ?_⟩
    exact q _ x y (z + 1) _ (Int.emod_nonneg _ (by omega)) (Int.emod_lt_of_pos _ n0) (S1.b.trans sameB_upd) upd_same
  · refine ⟨_, rfl, p, _, _, _, rfl, rfl, SqL.of hp1, rfl, _, rfl, _, _, rfl, rfl, n0, ?_⟩
    refine ⟨_, rfl, p, _, _, _, rfl, rfl, SqL.of hp1, rfl, _, rfl, _, _, rfl, rfl, ⟨n0, n1⟩, _, rfl, p, _, _, 0, rfl, rfl, hp1, rfl, ?_⟩
    exact ⟨_, rfl, q _ (x / n) y z _ (Int.emod_nonneg _ (by omega)) (Int.emod_lt_of_pos _ n0) (S1.b.trans sameB_upd) upd_same⟩


noncomputable abbrev n_L_order : List Str := ["_law_pile_here", "_law_some", "_law_left", "_law_found"]
theorem sc_L_order : FnScope n_L_order ["_law_pile_here", "_law_some"] (defScope s_L_order) := ⟨rfl, rfl, rfl, by decide +kernel, rfl, by decide +kernel, by decide +kernel⟩
set_option maxHeartbeats 1000000 in
theorem ok_L_order (F : Fun K "_law_order" "_law_order" s_L_order f fd) (b : Binds K fd ["_law_pile_here", "_law_some"] []) (m : mg "_law_order" = some (.ref f)) (M_list : mg "list" = none) (M_len : mg "len" = none) (G_L_take : Dfn P w K mg base k "_law_take" ["_law_pile_here", "_law_many"] spTake) : Dfn P w K mg base (k + 1) "_law_order" ["_law_pile_here", "_law_some"] spOrderS := by
  refine .of F b m sc_L_order (fun vs H Q E h => ?_) (fun cdv A outer s H vs Q E hr h => ?_)
  · obtain ⟨p, l, x, y, z, bs, rfl, hp, hl, pl, hz, hcp, q⟩ := h; rfl
  obtain ⟨p, l, x, y, z, bs, rfl, hp, hl, pl, hz, hcp, q⟩ := h
  have nd := sc_L_order.nd
  have le := Nat.le_refl k
  refine ⟨_, pss_cons (ps_set (i := 2) nd rfl (Or.inl rfl) (pe_callTy call_list_of (by rfl) M_list PyProof.Rows.boot_list (pa_cons (pv 1) pa_nil)))
    (pss_cons (ps_set (i := 3) nd rfl (Or.inl rfl) (pe_lst pa_nil))
    (pss_cons (ps_while PassesOwn.never (pt_cmpR (op_neD hr) (pv 2) (pe_lst pa_nil) (nomark _))
      (pss_one (ps_expr (pe_bm PySem.F.plainAttrs_list PySem.F.slot_list_append PySem.F.type_list_append mt_append (pv 3) (pa_cons (pe_bm PySem.F.plainAttrs_list PySem.F.slot_list_pop PySem.F.type_list_pop mt_popAt (pv 2) (pa_cons (pe_def G_L_take hr le rfl (pa_cons (pv 0) (pa_cons (pe_callB call_len_seq (by rfl) M_len PySem.boot_len (pa_cons (pv 2) pa_nil)) pa_nil))) pa_nil)) pa_nil)))))
    (pss_one (ps_ret (pv 3))))), ?_⟩
  refine ⟨_, rfl, l, _, rfl, .inl (SqL.of hl), fun lf hlf => ?_⟩
  try dsimp only [gName]
  have S1 := same_new hlf (.lst (bs.map V.str))
  refine ⟨(by show 0 ≤ sizeLine; decide), fun fo hfo => ?_⟩
  have S2 := same_new hfo (.lst [])
  have hfl : fo ≠ lf := fun e => by rw [e, upd_same] at hfo; cases hfo
  have S02 := S1.trans S2
  have hp2 := S02 _ _ hp
  have hlf2 : upd (upd H lf (.lst (bs.map V.str))) fo (.lst []) lf = some (.lst (bs.map V.str)) := S2 _ _ upd_same
  have hfo2 : upd (upd H lf (.lst (bs.map V.str))) fo (.lst []) fo = some (.lst []) := upd_same
  have hpl : p ≠ lf := fun e => by rw [e, hlf] at hp; cases hp
  have hpf : p ≠ fo := fun e => by rw [← e, S1 _ _ hp] at hfo; cases hfo
  have hfoH : H fo = none := S1.free hfo
  generalize upd (upd H lf (.lst (bs.map V.str))) fo (.lst []) = H2 at S02 hp2 hlf2 hfo2 ⊢
  try dsimp only [gName]
  refine while_by (fun σ H' => ∃ (ls fs : List Str) (x y z : Int), σ = [some (.ref p), some (.ref l), some (.ref lf), some (.ref fo)] ∧ SameB p H H' ∧ H' lf = some (.lst (ls.map V.str)) ∧ H' fo = some (.lst (fs.map V.str)) ∧ H' p = some (.lst [.int x, .int y, .int z]) ∧ (fs ++ ls).Perm bs)
    (fun σ H' => (listHS H' lf).length) ⟨bs, [], x, y, z, rfl, S02.b, hlf2, hfo2, hp2, List.Perm.refl _⟩ ?_ ?_
  · rintro σ H3 ⟨ls, fs, x, y, z, rfl, SB3, hlf3, hfo3, hp3, hpm⟩
    have hln := hpm.length_eq
    rw [List.length_append] at hln
    have hcl : ∀ s ∈ ls, CpOk s := fun s hs => hcp s (hpm.mem_iff.mp (List.mem_append_right _ hs))
    refine ⟨_, rfl, ne_nilS hlf3 hcl fun H4 S4 => ⟨_, rfl, ?_⟩⟩
    have hlf4 := S4 _ _ hlf3
    have hfo4 := S4 _ _ hfo3
    have hp4 := S4 _ _ hp3
    cases ls with
    | nil =>
      refine iteF ⟨_, rfl, q fo fs x y z H4 (SB3.trans S4.b) hfoH hfo4 ?_ hp4⟩
      rw [List.append_nil] at hpm; exact hpm
    | cons l0 ls0 =>
      refine iteT ?_
      have hL : 0 < (l0 :: ls0).length := Nat.succ_pos _
      have hμ : (listHS H3 lf).length = (l0 :: ls0).length := by unfold listHS; rw [hlf3]; simp
      generalize hls : l0 :: ls0 = ls at hlf4 hpm hln hL hμ
      refine ⟨_, rfl, .inl ⟨rfl, _, SqL.of hfo4⟩, _, rfl, .inl ⟨rfl, _, SqL.of hlf4⟩, _, rfl, _, rfl, lf, _, rfl, .inl (SqL.of hlf4), p, _, x, y, z, rfl, (by rw [List.length_map]; omega), (by rw [List.length_map]; omega), hp4, fun d x' y' z' H5 d0 d1 SB5 hp5 => ?_⟩
      rw [List.length_map] at d1
      have hlf5 := SB5 _ _ hpl.symm hlf4
      have hfo5 := SB5 _ _ hpf.symm hfo4
      have hk : d.toNat < ls.length := by omega
      refine ⟨lf, _, d, d.toNat, .str (ls.getD d.toNat ""), rfl, rfl, hlf5, by omega, by omega, ?_, ?_, ?_⟩
      · rw [List.length_map]; exact seqIdx_natS d0 d1
      · rw [List.getElem?_map, List.getElem?_eq_getElem hk, List.getD_eq_getElem?_getD, List.getElem?_eq_getElem hk]; rfl
      · rw [erase_strs]
        have hfo6 : upd H5 lf (.lst ((ls.eraseIdx d.toNat).map V.str)) fo = some (.lst (fs.map V.str)) := by rw [upd_ne hfl]; exact hfo5
        refine ⟨fo, _, _, rfl, rfl, hfo6, (by rw [List.length_map]; exact small1000 (by omega)), ?_⟩
        refine ⟨⟨ls.eraseIdx d.toNat, fs ++ [ls.getD d.toNat ""], x', y', z', rfl, ?_, ?_, ?_, ?_, ?_⟩, ?_⟩
        · intro u o hu e
          have hul : u ≠ lf := fun z => by rw [z, hlf] at e; cases e
          have huf : u ≠ fo := fun z => by rw [z, hfoH] at e; cases e
          rw [upd_ne huf, upd_ne hul]
          exact SB5 _ _ hu (S4 _ _ (SB3 _ _ hu e))
        · rw [upd_ne hfl.symm]; exact upd_same
        · rw [upd_same, List.map_append]; rfl
        · rw [upd_ne hpf, upd_ne hpl]; exact hp5
        · rw [List.append_assoc]
          refine (List.Perm.append_left fs ?_).trans hpm
          exact pick_permS hk
        · have e1 : listHS (upd (upd H5 lf (.lst ((ls.eraseIdx d.toNat).map V.str))) fo (.lst (fs.map V.str ++ [V.str (ls.getD d.toNat "")]))) lf = (ls.eraseIdx d.toNat).map V.str := by unfold listHS; rw [upd_ne hfl.symm, upd_same]
          show (listHS (upd (upd H5 lf (.lst ((ls.eraseIdx d.toNat).map V.str))) fo (.lst (fs.map V.str ++ [V.str (ls.getD d.toNat "")]))) lf).length < (listHS H3 lf).length
          rw [e1, hμ, List.length_map, List.length_eraseIdx_of_lt hk]
          omega
  · intro σ H Q Q' hQ h
    obtain ⟨v, e, hz', h⟩ := h
    exact ⟨v, e, hz', fun u hu => by obtain ⟨d, e', h1, h2, h3, h4, b, hb, hq⟩ := h u hu; exact ⟨d, e', h1, h2, h3, h4, b, hb, hQ _ _ hq⟩⟩
noncomputable abbrev n_L_lot : List Str := ["_law_pile_here", "_law_names_here", "_law_lot_here", "_law_kind"]
theorem sc_L_lot : FnScope n_L_lot ["_law_pile_here", "_law_names_here"] (defScope s_L_lot) := ⟨rfl, rfl, rfl, by decide +kernel, rfl, by decide +kernel, by decide +kernel⟩
theorem ok_L_lot (F : Fun K "_law_lot" "_law_lot" s_L_lot f fd) (b : Binds K fd ["_law_pile_here", "_law_names_here"] []) (m : mg "_law_lot" = some (.ref f)) (M_len : mg "len" = none) (G_L_take : Dfn P w K mg base k "_law_take" ["_law_pile_here", "_law_many"] spTake) : Dfn P w K mg base (k + 1) "_law_lot" ["_law_pile_here", "_law_names_here"] (spLotN K) := by
  refine .of F b m sc_L_lot (fun vs H Q E h => ?_) (fun cdv A outer s H vs Q E hr h => ?_)
  · obtain ⟨p, n, nm, rfl, pn, hp, hn, n1, n12, q⟩ := h; rfl
  obtain ⟨p, n, nm, rfl, pn, hp, hn, n1, n12, q⟩ := h
  have nd := sc_L_lot.nd
  have le := Nat.le_refl k
  refine ⟨_, pss_cons (ps_set (i := 2) nd rfl (Or.inl rfl) (pe_def G_L_take hr le rfl (pa_cons (pv 0) (pa_cons (pe_op op_shl pe_int (pe_callB call_len_seq (by rfl) M_len PySem.boot_len (pa_cons (pv 1) pa_nil))) pa_nil))))
    (pss_cons (ps_set (i := 3) nd rfl (Or.inl rfl) (pe_def G_L_take hr le rfl (pa_cons (pv 0) (pa_cons pe_int pa_nil))))
    (pss_cons (ps_if (pt_cmpR op_eq (pv 3) pe_int (nomark _)) (pss_one (ps_ret (pe_ix ix_list (pe_lst (pa_cons pe_int (pa_cons (pe_op op_sub (pe_op op_shl pe_int (pe_callB call_len_seq (by rfl) M_len PySem.boot_len (pa_cons (pv 1) pa_nil))) pe_int) pa_nil))) (pe_def G_L_take hr le rfl (pa_cons (pv 0) (pa_cons pe_int pa_nil))) (fun _ _ => rfl)))) pss_nil)
    (pss_cons (ps_if (pt_cmpR op_eq (pv 3) pe_int (nomark _)) (pss_one (ps_ret (pe_op op_shl pe_int (pe_def G_L_take hr le rfl (pa_cons (pv 0) (pa_cons (pe_callB call_len_seq (by rfl) M_len PySem.boot_len (pa_cons (pv 1) pa_nil)) pa_nil)))))) pss_nil)
    (pss_one (ps_ret (pv 2)))))), ?_⟩
  obtain ⟨x, y, z, hp⟩ := hp
  have hpw : (2 : Nat) ^ nm.length ≤ 4096 := Nat.pow_le_pow_right (n := 2) (j := 12) (by decide) n12
  have hpp : 0 < (2 : Nat) ^ nm.length := Nat.pow_pos (by decide)
  have hpc : (2 : Int) ^ nm.length = ((2 ^ nm.length : Nat) : Int) := by simp
  have hn' : ∀ {H' : Hp}, SameB p H H' → H' n = some (.lst (nm.map V.str)) := fun S => S _ _ pn.symm hn
  refine ⟨_, rfl, _, rfl, n, _, rfl, .inl (SqL.of hn), _, _, rfl, rfl, ⟨by omega, by rw [List.length_map]; omega, by decide⟩, p, _, x, y, z, rfl, ?_, ?_, hp, fun d x1 y1 z1 H1 d0 d1 SB1 hp1 => ?_⟩
  · rw [List.length_map, Int.toNat_natCast]; omega
  · rw [List.length_map, Int.toNat_natCast]; omega
  rw [List.length_map, Int.toNat_natCast] at d1
  try dsimp only [gName]
  refine ⟨_, rfl, p, 5, x1, y1, z1, rfl, by decide, by decide, hp1, fun kd x2 y2 z2 H2 k0 k1 SB2 hp2 => ?_⟩
  have SB12 := SB1.trans SB2
  try dsimp only [gName]
  refine seq_if (b := decide (V.int kd = V.int 0)) (.pure fun Q h => ⟨_, rfl, rfl, _, rfl, h⟩) fun H3 S3 => ?_
  have SB13 := SB12.trans S3.b
  have hp3 := S3 _ _ hp2
  refine ite2 (fun c => ?_) (fun c => ?_)
  · refine ⟨_, rfl, n, _, rfl, .inl (SqL.of (hn' SB13)), _, _, rfl, rfl, ⟨by omega, by rw [List.length_map]; omega, by decide⟩, _, _, rfl, rfl, (by show 2 ≤ sizeLine; decide), fun dl hdl => ?_⟩
    rw [List.length_map, Int.toNat_natCast]
    have Sd := same_new hdl (.lst [.int 0, .int (1 * 2 ^ nm.length - 1)])
    have dlp : dl ≠ p := fun e => by rw [e, hp3] at hdl; cases hdl
    have hdl4 : upd H3 dl (.lst [.int 0, .int (1 * 2 ^ nm.length - 1)]) dl = some (.lst (([0, 1 * 2 ^ nm.length - 1] : List Int).map V.int)) := upd_same
    have hp4 := Sd _ _ hp3
    generalize upd H3 dl (.lst [.int 0, .int (1 * 2 ^ nm.length - 1)]) = H4 at Sd hdl4 hp4 ⊢
    refine ⟨_, rfl, p, 2, x2, y2, z2, rfl, by decide, by decide, hp4, fun e x5 y5 z5 H5 e0 e1 SB5 hp5 => ⟨dl, _, _, _, rfl, rfl, SqL.of (SB5 _ _ dlp hdl4), atI_map (ns := [0, 1 * 2 ^ nm.length - 1]) e0 (by simpa using e1), ?_⟩⟩
    have hlo : 0 ≤ ([0, 1 * 2 ^ nm.length - 1] : List Int).getD e.toNat 0 ∧ ([0, 1 * 2 ^ nm.length - 1] : List Int).getD e.toNat 0 < 2 ^ nm.length := by
      have : e.toNat = 0 ∨ e.toNat = 1 := by omega
      rcases this with w | w
      · rw [w]; show (0 : Int) ≤ 0 ∧ (0 : Int) < _; omega
      · rw [w]; show (0 : Int) ≤ 1 * 2 ^ nm.length - 1 ∧ (1 * 2 ^ nm.length - 1 : Int) < _; omega
    exact q _ _ (SB13.trans (Sd.b.trans SB5)) hlo.1 hlo.2 ⟨_, _, _, hp5⟩
  dsimp only [tNext]
  refine seq_if (b := decide (V.int kd = V.int 1)) (.pure fun Q h => ⟨_, rfl, rfl, _, rfl, h⟩) fun H4 S4 => ?_
  have SB14 := SB13.trans S4.b
  have hp4 := S4 _ _ hp3
  refine ite2 (fun c => ?_) (fun c => ⟨_, rfl, q _ _ SB14 d0 (by omega) ⟨_, _, _, hp4⟩⟩)
  refine ⟨_, rfl, _, rfl, n, _, rfl, .inl (SqL.of (hn' SB14)), p, _, x2, y2, z2, rfl, (by rw [List.length_map]; omega), (by rw [List.length_map]; omega), hp4, fun e x5 y5 z5 H5 e0 e1 SB5 hp5 => ⟨_, _, rfl, rfl, ⟨e0, by rw [List.length_map] at e1; omega, by decide⟩, ?_⟩⟩
  rw [List.length_map] at e1
  have hle : (2 : Nat) ^ e.toNat < 2 ^ nm.length := Nat.pow_lt_pow_right (by decide) (by omega)
  have hec : (2 : Int) ^ e.toNat = ((2 ^ e.toNat : Nat) : Int) := by simp
  have hep : (0 : Int) < 2 ^ e.toNat := Int.pow_pos (by decide)
  have hlt : (2 : Int) ^ e.toNat < 2 ^ nm.length := by rw [hec, hpc]; exact_mod_cast hle
  exact q _ _ (SB14.trans SB5) (by omega) (by omega) ⟨_, _, _, hp5⟩
end
end OL.Q39

namespace OL.Q39
open PySem L2 OL
section
variable {P : Program} {w : World} {K : PySem.W.Frag} {mg : Str → Option Value} {base : Heap} {f : Addr} {fd : FuncData} {k : Nat}
theorem strs_snoc (ss : List Str) (x : Str) : (ss ++ [x]).map V.str = ss.map V.str ++ [.str x] := by rw [List.map_append]; rfl
theorem join_nil_len {ss : List Str} (h : ∀ s ∈ ss, ∃ c, s = ⟨#[c]⟩ ∧ letter c) : cps (Txt.join "" ss) = ss.flatMap cps ∧ (∀ c ∈ cps (Txt.join "" ss), letter c) ∧ (cps (Txt.join "" ss)).length = ss.length := by
  have e : cps (Txt.join "" ss) = ss.flatMap cps := by
    unfold Txt.join
    rw [StrLaws.glued_eq_join]
    induction ss with
    | nil => rfl
    | cons x r ih =>
      cases r with
      | nil => show cps x = _; simp
      | cons y r =>
        have ih := ih fun s hs => h s (.tail _ hs)
        show cps (x ++ "" ++ Str.join "" (y :: r)) = _
        rw [cps_app, cps_app, ih, List.flatMap_cons (x := x)]
        have : cps ("" : Str) = [] := by decide +kernel
        rw [this, List.append_nil]
  refine ⟨e, fun c hc => ?_, ?_⟩
  · rw [e] at hc
    obtain ⟨s, hs, hc⟩ := List.mem_flatMap.mp hc
    obtain ⟨d, rfl, hd⟩ := h s hs
    have : c = d := by simpa [cps] using hc
    rw [this]; exact hd
  · rw [e]
    clear e
    induction ss with
    | nil => rfl
    | cons x r ih =>
      rw [List.flatMap_cons, List.length_append, ih fun s hs => h s (.tail _ hs), List.length_cons]
      obtain ⟨d, rfl, _⟩ := h x (.head _)
      show 1 + r.length = _
      omega
noncomputable abbrev n_L_names : List Str := ["_law_script", "_law_start", "_law_pile_here", "_law_letters", "_law_many", "_law_kind", "_law_base", "_law_at", "_law_first", "_law_names_here", "_law_word"]
theorem sc_L_names : FnScope n_L_names ["_law_script", "_law_start"] (defScope s_L_names) := ⟨rfl, rfl, rfl, by decide +kernel, rfl, by decide +kernel, by decide +kernel⟩
theorem nd_L_names_0 : (["_law_k", "_law_letters", "_law_pile_here"] : List Str).Nodup := by decide +kernel
theorem nd_L_names_1 : (["_law_k", "_law_base", "_law_at", "_law_letters", "_law_first"] : List Str).Nodup := by decide +kernel
theorem nd_L_names_2 : (["_law_k", "_law_word"] : List Str).Nodup := by decide +kernel
theorem nd_L_names_3 : (["_law_name"] : List Str).Nodup := by decide +kernel
set_option maxHeartbeats 4000000 in
theorem ok_L_names (F : Fun K "_law_names" "_law_names" s_L_names f fd) (b : Binds K fd ["_law_script", "_law_start"] []) (m : mg "_law_names" = some (.ref f)) (M_range : mg "range" = none) (M_len : mg "len" = none) (M_min : mg "min" = none) (G_L_pile : Dfn P w K mg base k "_law_pile" ["_law_script", "_law_k"] (spPile K)) (G_L_take : Dfn P w K mg base k "_law_take" ["_law_pile_here", "_law_many"] spTake) (G_L_order : Dfn P w K mg base k "_law_order" ["_law_pile_here", "_law_some"] spOrderS) : Dfn P w K mg base (k + 1) "_law_names" ["_law_script", "_law_start"] (spNames K) := by
  refine .of F b m sc_L_names (fun vs H Q E h => ?_) (fun cdv A outer s H vs Q E hr h => ?_)
  · obtain ⟨a, ns, k0, rfl, hS, hk0, q⟩ := h; rfl
  obtain ⟨a, ns, k0, rfl, hS, hk0, q⟩ := h
  have nd := sc_L_names.nd
  have le := Nat.le_refl k
  refine ⟨_, pss_cons (ps_set (i := 2) nd rfl (Or.inr rfl) (pe_def G_L_pile hr le rfl (pa_cons (pv 0) (pa_cons (pv 1) pa_nil))))
    (pss_cons (ps_set (i := 3) nd rfl (Or.inr rfl) pe_str)
    (pss_cons (ps_set (i := 4) nd rfl (Or.inl rfl) (pe_op op_add pe_int (pe_def G_L_take hr le rfl (pa_cons (pv 2) (pa_cons pe_int pa_nil)))))
    (pss_cons (ps_set (i := 5) nd rfl (Or.inl rfl) (pe_def G_L_take hr le rfl (pa_cons (pv 2) (pa_cons pe_int pa_nil))))
    (pss_cons (ps_set (i := 6) nd rfl (Or.inr rfl) (pe_bm PySem.F.plainAttrs_str PySem.F.slot_str_join PySem.F.type_str_join mt_join pe_str (pa_cons (pe_compC ["_law_k"] [3, 2] (sc := defScope s_L_names) (N := n_L_names) (.inl rfl) rfl ⟨rfl, by decide +kernel, by decide +kernel, by decide +kernel, by decide +kernel⟩ rfl (pi_range1 rfl M_range (pa_cons (pe_def G_L_take hr le rfl (pa_cons (pv 2) (pa_cons pe_int pa_nil))) pa_nil)) (fun cl s H C fp => (pg_name (i := 0) nd_L_names_0 rfl (Or.inl rfl))) (fun cl s H C fp => pifs_nil) (fun cl s H C fp => (pe_ix (ix_strK K rfl) (pv 1) (pe_def G_L_take hr le rfl (pa_cons (pv 2) (pa_cons pe_int pa_nil))) (fun _ _ => rfl)))) pa_nil)))
    (pss_cons (ps_set (i := 7) nd rfl (Or.inr rfl) (pe_def G_L_take hr le rfl (pa_cons (pv 2) (pa_cons (pe_op op_add (pe_callB call_len_str (by rfl) M_len PySem.boot_len (pa_cons (pv 6) pa_nil)) pe_int) pa_nil))))
    (pss_cons (ps_set (i := 8) nd rfl (Or.inr rfl) (pe_def G_L_take hr le rfl (pa_cons (pv 2) (pa_cons pe_int pa_nil))))
    (pss_cons (ps_setCompC (i := 9) nd rfl rfl ["_law_k"] [6, 7, 3, 8] (sc := defScope s_L_names) (N := n_L_names) (.inl rfl) rfl ⟨rfl, by decide +kernel, by decide +kernel, by decide +kernel, by decide +kernel⟩ rfl (pi_range1 rfl M_range (pa_cons (pv 4) pa_nil)) (fun cl s H C fp => (pg_name (i := 0) nd_L_names_1 rfl (Or.inl rfl))) (fun cl s H C fp => pifs_nil) (fun cl s H C fp => (pe_op op_catS (pe_op op_catS (pe_slice (sl_SK K rfl) (pv 1) po_none (po_some (pv 2))) (pe_ix (ix_strK K rfl) (pv 3) (pe_op op_mod (pe_op op_add (pv 4) (pe_op op_mul pe_int (pv 0))) pe_int) (fun _ _ => rfl))) (pe_slice (sl_SK K rfl) (pv 1) (po_some (pv 2)) po_none))) rfl)
    (pss_mid (ps_if (pt_cmpR op_eq (pv 5) pe_int (nomark _)) (pss_cons (ps_set (i := 10) nd rfl (Or.inr rfl) (pe_slice sl_S (pe_op op_catS (pv 6) pe_str) po_none (po_some pe_int)))
      (pss_one (ps_setCompC (i := 9) nd rfl rfl ["_law_k"] [10] (sc := defScope s_L_names) (N := n_L_names) (.inl rfl) rfl ⟨rfl, by decide +kernel, by decide +kernel, by decide +kernel, by decide +kernel⟩ rfl (pi_range1 rfl M_range (pa_cons (pe_callB (call_min2 rfl) (by rfl) M_min PyProof.Rows.boot_min (pa_cons (pv 4) (pa_cons pe_int pa_nil))) pa_nil)) (fun cl s H C fp => (pg_name (i := 0) nd_L_names_2 rfl (Or.inl rfl))) (fun cl s H C fp => pifs_nil) (fun cl s H C fp => (pe_slice (sl_SK K rfl) (pv 1) po_none (po_some (pe_op op_add (pv 0) pe_int)))) rfl))) pss_nil)
    (pss_cons (ps_setCompC (i := 9) nd rfl rfl ["_law_name"] [] (sc := defScope s_L_names) (N := n_L_names) (.inl rfl) rfl ⟨rfl, by decide +kernel, by decide +kernel, by decide +kernel, by decide +kernel⟩ rfl (pi_list (pv 9)) (fun cl s H C fp => (pg_name (i := 0) nd_L_names_3 rfl (Or.inl rfl))) (fun cl s H C fp => pifs_one (pt_cmpR op_ne (pv 0) pe_str (nomark _))) (fun cl s H C fp => (pv 0)) rfl)
    (pss_mid (ps_if (pt_cmpR (op_eqD hr) (pv 9) (pe_lst pa_nil) (nomark _)) (pss_one (ps_set (i := 9) nd rfl (Or.inl rfl) (pe_lst (pa_cons pe_str pa_nil)))) pss_nil)
    (pss_one (ps_ret (pe_def G_L_order hr le rfl (pa_cons (pv 2) (pa_cons (pv 9) pa_nil))))))))))))))), ?_⟩
  refine ⟨_, rfl, _, rfl, a, ns, k0, rfl, hS, hk0, fun p H1 x y z S1 hp0 hp1 => ?_⟩
  try dsimp only [gName]
  refine ⟨_, rfl, p, 12, x, y, z, rfl, by decide, by decide, hp1, fun d x1 y1 z1 H2 d0 d1 SB2 hp2 => ⟨_, _, rfl, rfl, ?_⟩⟩
  try dsimp only [gName]
  have hmm : 1 ≤ 1 + d ∧ 1 + d ≤ 12 := by omega
  generalize 1 + d = many at hmm ⊢
  refine ⟨_, rfl, p, 4, x1, y1, z1, rfl, by decide, by decide, hp2, fun kd x2 y2 z2 H3 kd0 kd1 SB3 hp3 => ?_⟩
  try dsimp only [gName]
  have SB13 := SB2.trans SB3
  refine ⟨rfl, _, rfl, p, 8, x2, y2, z2, rfl, by decide, by decide, hp3, fun bl x3 y3 z3 H4 b0 b1 SB4 hp4 => ⟨_, rfl, by omega, by omega, ?_⟩⟩
  have SB14 := SB13.trans SB4
  refine comp_rangeG (n := bl.toNat) (fun acc i ys H' => ∃ (ss : List Str) (x y z : Int), ys = ss.map V.str ∧ ss.length = i ∧ (∀ s ∈ ss, ∃ c, s = ⟨#[c]⟩ ∧ letter c) ∧ SameB p H4 H' ∧ H' p = some (.lst [.int x, .int y, .int z])) (fun acc hacc => ⟨[], x3, y3, z3, rfl, rfl, (fun s hs => nomatch hs), (same_new hacc _).b, same_new hacc _ _ _ hp4⟩) (fun acc i ys H' hacc hi hys h => ?_) (fun bx ys H5 hbx0 hbx h => ?_)
  · obtain ⟨ss, x5, y5, z5, rfl, hsl, hss, SB, hp5⟩ := h
    have accp : acc ≠ p := fun e => by rw [e, hp4] at hacc; cases hacc
    refine ⟨(Wk.refl _).set (by decide), yes_of ⟨_, rfl, _, rfl, p, 26, x5, y5, z5, rfl, by decide, by decide, hp5, fun e x6 y6 z6 H6 e0 e1 SB6 hp6 => ⟨_, _, _, rfl, rfl, (by decide +kernel), let_at e0 e1, ?_⟩⟩⟩
    refine cputG hi (SB6 _ _ accp hys) (by rw [List.length_map]; exact small1000 (by omega)) ⟨ss ++ [⟨#[97 + e.toNat]⟩], x6, y6, z6, (strs_snoc _ _).symm, by rw [List.length_append, hsl]; rfl, fun s hs => ?_, fun c o hc ho => ?_, ?_⟩
    · rcases List.mem_append.mp hs with w | w
      · exact hss s w
      · exact ⟨97 + e.toNat, List.mem_singleton.mp w, by unfold letter; omega⟩
    · rw [upd_ne (ne_of_none ho hacc)]; exact SB6 _ _ hc (SB _ _ hc ho)
    · rw [upd_ne (Ne.symm accp)]; exact hp6
  obtain ⟨ss, x5, y5, z5, rfl, hsl, hss, SB5, hp5⟩ := h
  obtain ⟨_, hlet, hln⟩ := join_nil_len hss
  have h0l : ("" : Str).length = 0 := by decide +kernel
  have hsz : (ss.map (·.length)).sum + ss.length * ("" : Str).length ≤ 16777216 := by
    rw [h0l, Nat.mul_zero, Nat.add_zero]
    have : ∀ {l : List Str}, (∀ s ∈ l, ∃ c, s = ⟨#[c]⟩ ∧ letter c) → (l.map (·.length)).sum = l.length := by
      intro l
      induction l with
      | nil => intro _; rfl
      | cons s l ih =>
        intro h
        rw [List.map_cons, List.sum_cons, ih fun y hy => h y (.tail _ hy), List.length_cons]
        obtain ⟨c, rfl, _⟩ := h s (.head _)
        show 1 + l.length = _
        omega
    rw [this hss]; omega
  refine ⟨_, bx, ss, rfl, rfl, SqL.of hbx, hsz, ?_⟩
  generalize hbase : Txt.join "" ss = bse at hlet hln
  have SB15 := SB14.trans SB5
  try dsimp only [gName]
  have hb7 : (cps bse).length ≤ 7 := by omega
  have hbsz : bse.length ≤ sizeLine := by rw [← cps_len]; exact Nat.le_trans hb7 (by decide)
  refine ⟨_, rfl, _, rfl, bse, rfl, hbsz, _, _, rfl, rfl, p, _, x5, y5, z5, rfl, by omega, (by rw [← cps_len]; omega), hp5, fun at_ x6 y6 z6 H6 at0 at1 SB6 hp6 => ?_⟩
  rw [← cps_len] at at1
  try dsimp only [gName]
  refine ⟨_, rfl, p, 26, x6, y6, z6, rfl, by decide, by decide, hp6, fun fi x7 y7 z7 H7 f0 f1 SB7 hp7 => ?_⟩
  have SB17 := SB15.trans (SB6.trans SB7)
  have at2 : at_ ≤ (cps bse).length := by omega
  have s1 : (Txt.slice bse none (some at_)).length ≤ 7 := by rw [← cps_len, cps_upto at0 at2, List.length_take]; omega
  have s2 : (Txt.slice bse (some at_) none).length ≤ 7 := by rw [← cps_len, cps_from at0 at2, List.length_drop]; omega
  have s3 : ∀ k : Nat, (Txt.slice bse none (some at_) ++ (⟨#[numL fi.toNat k]⟩ : Str)).length ≤ 8 := fun k => by rw [← cps_len, cps_app, List.length_append, cps_len]; show _ + 1 ≤ 8; omega
  have s4 : ∀ k : Nat, (nameS bse at_ fi.toNat k).length ≤ sizeLine := fun k => by
    have := (nameS_ok at0 at2 hlet hb7 fi.toNat k).le
    rw [cps_len] at this
    exact Nat.le_trans this (by decide)
  have big8 : ∀ {x : Nat}, x ≤ 8 → x ≤ sizeLine := fun h => Nat.le_trans h (by decide)
  try dsimp only [gName]
  refine ⟨_, rfl, _, rfl, by omega, by omega, compV_range (n := many.toNat) (fun _ => true) (fun k => .str (nameS bse at_ fi.toNat k)) (by omega) (fun k H8 hk S8 => turn_pick (y := .str (nameS bse at_ fi.toNat k)) look_yes (fun _ H9 S9 => .pure fun Q h => ?_) fun _ _ _ => rfl) (fun nA H8 hnA0 S8 hnA => ?_)⟩
  · have hnum : (fi + 7 * (k : Int)) % 26 = (((fi.toNat + 7 * k) % 26 : Nat) : Int) := by omega
    refine ⟨_, rfl, _, rfl, _, rfl, bse, rfl, hbsz, _, rfl, _, rfl, _, rfl, _, _, rfl, rfl, .inl ⟨by decide, by decide⟩, _, _, rfl, rfl, _, _, rfl, rfl, (by show (0 : Int) < 26; decide), _, _, _, rfl, rfl, (by decide +kernel), let_at (Int.emod_nonneg _ (by decide)) (Int.emod_lt_of_pos _ (by decide)), ?_⟩
    rw [hnum, Int.toNat_natCast]
    exact ⟨_, _, rfl, rfl, big8 (s3 k), _, rfl, _, rfl, _, rfl, bse, rfl, hbsz, _, _, rfl, rfl, s4 k, h⟩
  rw [filter_true] at hnA
  have pre0 : NamesPre ((List.range many.toNat).map (nameS bse at_ fi.toNat)) := pre_of (by omega) (fun i _ => nameS_ok at0 at2 hlet hb7 _ i) fun i j hi hj h => nameS_inj at0 at2 (by omega) (by omega) h
  have hnA : H8 nA = some (.lst (((List.range many.toNat).map (nameS bse at_ fi.toNat)).map V.str)) := by rw [List.map_map]; exact hnA
  generalize (List.range many.toNat).map (nameS bse at_ fi.toNat) = nm0 at pre0 hnA
  have hp8 := S8 _ _ hp7
  have SB18 := SB17.trans S8.b
  try dsimp only [gName]
  refine ⟨fun σ H' => ∃ (nA : Addr) (nm : List Str) (z10 : Option V), σ = [some (.ref a), some (.int k0), some (.ref p), some (.str letters), some (.int many), some (.int kd), some (.str bse), some (.int at_), some (.int fi), some (.ref nA), z10] ∧ Same H8 H' ∧ H' nA = some (.lst (nm.map V.str)) ∧ NamesPre nm, ?_, ?_⟩
  · refine one_if (b := decide (V.int kd = V.int 0)) (.pure fun Q h => ⟨_, rfl, rfl, _, rfl, h⟩) fun H9 S9 => ?_
    refine ite2 (fun c => ?_) (fun c => ⟨nA, nm0, _, rfl, S9, S9 _ _ hnA, pre0⟩)
    obtain ⟨w8, wl⟩ := wordS_cps hlet
    have hcs : (bse ++ aToH).length ≤ sizeLine := by
      rw [← cps_len, cps_app, List.length_append, cps_aToH]
      exact Nat.le_trans (show _ ≤ 15 by show _ + 8 ≤ 15; omega) (by decide)
    have hws : (wordS bse).length ≤ sizeLine := by rw [← cps_len, w8]; decide
    refine ⟨_, rfl, bse, aToH, rfl, rfl, hcs, _, rfl, _, rfl, hcs, ?_⟩
    try dsimp only [gName]
    have hmn : (if (8 : Int) < many then 8 else many).toNat ≤ 8 := by split <;> omega
    refine ⟨_, rfl, _, _, rfl, _, rfl, (by split <;> omega), (by split <;> omega), compV_range (n := (if (8 : Int) < many then 8 else many).toNat) (fun _ => true) (fun k => .str (Txt.slice (wordS bse) none (some ((k : Int) + 1)))) (by omega) (fun k Ha hk Sa => turn_pick (y := .str (Txt.slice (wordS bse) none (some ((k : Int) + 1)))) look_yes (fun _ Hb Sb => .pure fun Q h => ⟨_, rfl, _, rfl, _, _, rfl, rfl, _, rfl, wordS bse, rfl, hws, h⟩) fun _ _ _ => rfl) (fun nB Ha hnB0 Sa hnB => ?_)⟩
    rw [filter_true] at hnB
    exact ⟨nB, _, _, rfl, S9.trans Sa, by rw [hnB, List.map_map]; rfl, pre_word hlet hmn⟩
  rintro σ H9 ⟨nA, nm, z10, rfl, S9, hnA9, pre⟩
  have hnl := pre.hi
  try dsimp only [gName]
  refine ⟨_, rfl, nA, rfl, ⟨_, SqL.of hnA9⟩, compA_list (SqL.of hnA9) (paired_self nm) (fun x => !decide (V.str x = V.str "none")) (fun _ y x => y = V.str x) (fun _ _ _ _ _ z => z) (by omega) (fun x v Ha hx hv Sa => ?_) (fun nB ys Ha hnB0 Sa hnB hys => ?_)⟩
  · subst hv
    exact turn_pick (y := .str x) (.pure fun Q h => ⟨_, rfl, rfl, _, rfl, h⟩) (fun _ Hb Sb => .pure fun Q h => ⟨_, rfl, h⟩) fun _ _ _ => rfl
  rw [paired_map hys] at hnB
  have pre2 := pre.filter fun x => !decide (V.str x = V.str "none")
  have nn2 : ∀ x ∈ nm.filter (fun x => !decide (V.str x = V.str "none")), x ≠ noneT := fun x hx e => by
    have := (List.mem_filter.mp hx).2
    rw [e, decide_eq_true rfl] at this; cases this
  generalize (nm.filter fun x => !decide (V.str x = V.str "none")) = nm2 at hnB pre2 nn2
  have S8a := S9.trans Sa
  try dsimp only [gName]
  refine ⟨fun σ H' => ∃ (nA : Addr) (nm : List Str), σ = [some (.ref a), some (.int k0), some (.ref p), some (.str letters), some (.int many), some (.int kd), some (.str bse), some (.int at_), some (.int fi), some (.ref nA), z10] ∧ Same H8 H' ∧ H' nA = some (.lst (nm.map V.str)) ∧ NamesPre nm ∧ nm ≠ [] ∧ (∀ x ∈ nm, x ≠ noneT), ?_, ?_⟩
  · refine one_if (b := nm2.isEmpty) (fun Q h => ⟨_, rfl, eq_nilS hnB (fun s hs => (pre2.ok s hs).cp) fun Hb Sb => ⟨_, rfl, h _ Sb⟩⟩) fun Hb Sb => ?_
    refine ite2 (fun c => ?_) (fun c => ⟨nB, nm2, rfl, S8a.trans Sb, Sb _ _ hnB, pre2, fun z => c (by rw [z]; rfl), nn2⟩)
    exact ⟨(by show 1 ≤ sizeLine; decide), fun l hl => ⟨l, ["nine"], rfl, S8a.trans (Sb.trans (same_new hl _)), upd_same, nine_pre, by simp, nine_nn⟩⟩
  rintro σ Hb ⟨nC, nm3, rfl, S8b, hnC, pre3, hne, nn3⟩
  have hpb := S8b _ _ hp8
  have pnC : p ≠ nC := fun w => by
    rw [← w, hpb] at hnC
    injection hnC with hnC
    injection hnC with hnC
    cases nm3 with
    | nil => cases hnC
    | cons s r => rw [List.map_cons] at hnC; injection hnC with h1; cases h1
  have hl3 := pre3.hi
  refine ⟨_, rfl, _, rfl, p, nC, x7, y7, z7, nm3, rfl, hpb, hnC, pnC, by omega, (fun s hs => (pre3.ok s hs).cp), fun r bs' x' y' z' H' SB' hr0 hr hperm _ => ?_⟩
  have SBall : SameB p H1 H' := SB18.trans (S8b.b.trans SB')
  have Sall : Same H H' := SBall.same S1 hp0
  refine q r bs' H' Sall ?_ hr (pre3.perm hne nn3 hperm)
  have : Same H Hb := (SB18.trans S8b.b).same S1 hp0
  exact this.free hr0

end
end OL.Q39

namespace OL.Q39
open PySem L2 OL
section
variable {P : Program} {w : World} {K : PySem.W.Frag} {mg : Str → Option Value} {base : Heap} {f : Addr} {fd : FuncData} {k : Nat}
open OL.K39
theorem name_le {nm : List Str} (ok : NamesOk nm) {x : Str} (h : x ∈ nm) : x.length ≤ 9 := by rw [← cps_len]; exact (ok.ok x h).le
theorem app_len (x y : Str) : (x ++ y).length = x.length + y.length := by rw [← cps_len, ← cps_len, ← cps_len, cps_app, List.length_append]
noncomputable abbrev n_L_shown : List Str := ["_law_names_here", "_law_lot_here", "_law_text", "_law_thing"]
theorem sc_L_shown : FnScope n_L_shown ["_law_names_here", "_law_lot_here"] (defScope s_L_shown) := ⟨rfl, rfl, rfl, by decide +kernel, rfl, by decide +kernel, by decide +kernel⟩
set_option maxHeartbeats 1000000 in
theorem ok_L_shown (F : Fun K "_law_shown" "_law_shown" s_L_shown f fd) (b : Binds K fd ["_law_names_here", "_law_lot_here"] []) (m : mg "_law_shown" = some (.ref f)) (M_range : mg "range" = none) (M_len : mg "len" = none)  : Dfn P w K mg base (k + 1) "_law_shown" ["_law_names_here", "_law_lot_here"] spShown := by
  refine .of F b m sc_L_shown (fun vs H Q E h => ?_) (fun cdv A outer s H vs Q E hr h => ?_)
  · obtain ⟨n, nm, lot, rfl, hn, ok, l0, q⟩ := h; rfl
  obtain ⟨n, nm, lot, rfl, hn, ok, l0, q⟩ := h
  have nd := sc_L_shown.nd
  refine ⟨_, pss_cons (ps_set (i := 2) nd rfl (Or.inl rfl) pe_str)
    (pss_cons (ps_for PassesOwn.never rfl (pi_range1 rfl M_range (pa_cons (pe_callB call_len_seq (by rfl) M_len PySem.boot_len (pa_cons (pv 0) pa_nil)) pa_nil)) (pg_name (i := 3) nd rfl (Or.inl rfl))
      (pss_one (ps_if (pt_cmpR op_eq (pe_op op_and (pe_op op_shr (pv 1) (pv 3)) pe_int) pe_int (nomark _)) (pss_one (ps_set (i := 2) nd rfl (Or.inl rfl) (pe_op op_catS (pe_op op_catS (pv 2) pe_str) (pe_ix ix_list (pv 0) (pv 3) (fun _ _ => rfl))))) pss_nil)))
    (pss_cons (ps_if (pt_cmpR op_eq (pv 2) pe_str (nomark _)) (pss_one (ps_ret pe_str)) pss_nil)
    (pss_one (ps_ret (pe_slice sl_S (pv 2) (po_some pe_int) po_none))))), ?_⟩
  have hn12 := ok.hi
  have e1 : spc.length = 1 := by decide +kernel
  have e0 : ("" : Str).length = 0 := by decide +kernel
  try dsimp only [gName]
  refine ⟨_, rfl, n, _, rfl, .inl (SqL.of hn), _, rfl, by omega, by rw [List.length_map]; omega, for_range (n := (nm.map V.str).length) (fun i σ H' => ∃ (t : Str) (z3 : Option V), σ = [some (.ref n), some (.int lot), some (.str t), z3] ∧ Same H H' ∧ t.length ≤ 10 * i) ⟨_, _, rfl, Same.refl _, by rw [e0]; omega⟩ ?_ ?_⟩
  · rintro i σ H1 hi ⟨t, z3, rfl, S1, ht⟩
    rw [List.length_map] at hi
    refine one_if (b := (Builtin.bitAnd (lot / 2 ^ ((0 : Int) + (i : Int)).toNat) 1 == 1)) (.pure fun Q h => ⟨_, rfl, _, rfl, _, _, rfl, rfl, by omega, _, _, rfl, rfl, rfl, _, rfl, (by rw [int_eq]; exact h)⟩) fun H2 S2 => ?_
    have hx : nm.getD ((0 : Int) + (i : Int)).toNat "" ∈ nm := getD_nm (by omega)
    have hl := name_le ok hx
    refine ite2 (fun c => ?_) (fun c => ⟨t, _, rfl, S1.trans S2, by omega⟩)
    have l1 : (t ++ spc).length ≤ 10 * i + 1 := by rw [app_len, e1]; omega
    have l2 : (t ++ spc ++ nm.getD ((0 : Int) + (i : Int)).toNat "").length ≤ 10 * (i + 1) := by rw [app_len]; omega
    exact ⟨_, rfl, _, _, rfl, rfl, Nat.le_trans l1 (Nat.le_trans (m := 200) (by omega) (by decide)), _, rfl, _, rfl, n, _, _, _, rfl, rfl, SqL.of ((S1.trans S2) _ _ hn), atS_map (by omega) (by omega), _, _, rfl, rfl, Nat.le_trans l2 (Nat.le_trans (m := 200) (by omega) (by decide)), _, _, rfl, S1.trans S2, l2⟩
  · rintro σ H1 ⟨t, z3, rfl, S1, ht⟩
    rw [List.length_map] at ht
    try dsimp only [tNext]
    refine seq_if (b := decide (V.str t = V.str "")) (.pure fun Q h => ⟨_, rfl, rfl, _, rfl, h⟩) fun H2 S2 => ?_
    refine ite2 (fun c => q _ _ (S1.trans S2) (by decide +kernel)) (fun c => ?_)
    try dsimp only [tNext]
    exact ⟨_, rfl, _, rfl, t, rfl, Nat.le_trans (m := 200) (by omega) (by decide), q _ _ (S1.trans S2) (Nat.le_trans (Txt.slice_le _ _ _) (by omega))⟩
theorem in_names {nm : List Str} {x : Str} : (nm.any fun w => decide (w = x)) = decide (x ∈ nm) := by
  rw [Bool.eq_iff_iff, List.any_eq_true, decide_eq_true_eq]
  exact ⟨fun ⟨w, h, e⟩ => of_decide_eq_true e ▸ h, fun h => ⟨x, h, decide_eq_true rfl⟩⟩
theorem at_nat {is : List Nat} {j : Int} (h0 : 0 ≤ j) (h : j < (is.length : Int)) : atI ((is.map fun (k : Nat) => (k : Int)).map V.int) j = some (.int ((is.getD j.toNat 0 : Nat) : Int)) := by
  have e : (is.map fun (k : Nat) => (k : Int)).getD j.toNat 0 = ((is.getD j.toNat 0 : Nat) : Int) := by
    rw [List.getD_eq_getElem?_getD, List.getD_eq_getElem?_getD, List.getElem?_map]
    cases is[j.toNat]? <;> rfl
  rw [← e]
  exact atI_int h0 (by rw [List.length_map]; exact h)
theorem idxs_take {nm ws : List Str} {i : Nat} (h : i < ws.length) : idxs nm (ws.take (i + 1)) = idxs nm (ws.take i) ++ [nm.idxOf ws[i]] := by
  unfold idxs
  rw [List.take_succ_eq_append_getElem h, List.map_append]; rfl
theorem idx_first {nm : List Str} {x : Str} (h : x ∈ nm) : nm[nm.idxOf x]? = some x ∧ ∀ m, m < nm.idxOf x → nm[m]? ≠ some x := by
  have hl := List.idxOf_lt_length_of_mem h
  refine ⟨by rw [List.getElem?_eq_getElem hl, List.getElem_idxOf hl], fun m hm e => ?_⟩
  have hml : m < nm.length := by omega
  rw [List.getElem?_eq_getElem hml] at e
  have e := Option.some.inj e
  have := List.not_of_lt_findIdx (p := (· == x)) (xs := nm) (i := m) hm
  rw [e] at this
  simp at this
theorem bad_succ (is : List Nat) (i : Nat) : badF is (i + 1) = badF is i ++ (if decide (is.getD (1 + i) 0 ≤ is.getD i 0) = true then [(1 : Int) + (i : Int)] else []) := by
  unfold badF
  rw [List.range_succ, List.filter_append, List.map_append]
  congr 1
  rw [List.filter_cons]
  split <;> rfl
noncomputable abbrev n_L_lot_in : List Str := ["_law_names_here", "_law_text", "_law_places", "_law_word"]
theorem sc_L_lot_in : FnScope n_L_lot_in ["_law_names_here", "_law_text"] (defScope s_L_lot_in) := ⟨rfl, rfl, rfl, by decide +kernel, rfl, by decide +kernel, by decide +kernel⟩
theorem nd_L_lot_in_0 : (["_law_k", "_law_places"] : List Str).Nodup := by decide +kernel
theorem nd_L_lot_in_1 : (["_law_place"] : List Str).Nodup := by decide +kernel
set_option maxHeartbeats 4000000 in
theorem ok_L_lot_in (F : Fun K "_law_lot_in" "_law_lot_in" s_L_lot_in f fd) (b : Binds K fd ["_law_names_here", "_law_text"] []) (m : mg "_law_lot_in" = some (.ref f)) (M_range : mg "range" = none) (M_len : mg "len" = none) (M_sum : mg "sum" = none)  : Dfn P w K mg base (k + 1) "_law_lot_in" ["_law_names_here", "_law_text"] (spDu39 K oneIn) := by
  refine .of F b m sc_L_lot_in (fun vs H Q E h => ?_) (fun cdv A outer s H vs Q E hr h => ?_)
  · obtain ⟨n, nm, z, rfl, hn, ok, hz, qs, qn⟩ := h; rfl
  obtain ⟨n, nm, z, rfl, hn, ok, hz, qs, qn⟩ := h
  have nd := sc_L_lot_in.nd
  refine ⟨_, pss_cons (ps_if (pt_cmpR op_eq (pv 1) pe_str (nomark _)) (pss_one (ps_ret pe_int)) pss_nil)
    (pss_cons (ps_set (i := 2) nd rfl (Or.inr rfl) (pe_lst pa_nil))
    (pss_cons (ps_for PassesOwn.never rfl (pi_list (pe_bm PySem.F.plainAttrs_str PySem.F.slot_str_split PySem.F.type_str_split mt_split (pv 1) (pa_cons pe_str pa_nil))) (pg_name (i := 3) nd rfl (Or.inl rfl))
      (pss_cons (ps_if (pt_cmpR op_notIn_seq (pv 3) (pv 0) (by rfl)) (pss_one (ps_ret pe_non)) pss_nil)
      (pss_one (ps_expr (pe_bm PySem.F.plainAttrs_list PySem.F.slot_list_append PySem.F.type_list_append mt_append (pv 2) (pa_cons (pe_bm PySem.F.plainAttrs_list PySem.F.slot_list_index PySem.F.type_list_index mt_indexS (pv 0) (pa_cons (pv 3) pa_nil)) pa_nil))))))
    (pss_cons (ps_if (pt_cmpR (op_neD hr) (pe_compC ["_law_k"] [2] (sc := defScope s_L_lot_in) (N := n_L_lot_in) (.inl rfl) rfl ⟨rfl, by decide +kernel, by decide +kernel, by decide +kernel, by decide +kernel⟩ rfl (pi_range2 rfl M_range (pa_cons pe_int (pa_cons (pe_callB call_len_seq (by rfl) M_len PySem.boot_len (pa_cons (pv 2) pa_nil)) pa_nil))) (fun cl s H C fp => (pg_name (i := 0) nd_L_lot_in_0 rfl (Or.inl rfl))) (fun cl s H C fp => pifs_one (pt_cmpR op_le (pe_ix (ix_listK K rfl) (pv 1) (pv 0) (fun _ _ => rfl)) (pe_ix (ix_listK K rfl) (pv 1) (pe_op op_sub (pv 0) pe_int) (fun _ _ => rfl)) (nomark _))) (fun cl s H C fp => (pv 0))) (pe_lst pa_nil) (nomark _)) (pss_one (ps_ret pe_non)) pss_nil)
    (pss_one (ps_ret (pe_callB (call_sumI rfl) (by rfl) M_sum PyProof.Rows.boot_sum (pa_cons (pe_compC ["_law_place"] [] (sc := defScope s_L_lot_in) (N := n_L_lot_in) (.inl rfl) rfl ⟨rfl, by decide +kernel, by decide +kernel, by decide +kernel, by decide +kernel⟩ rfl (pi_list (pv 2)) (fun cl s H C fp => (pg_name (i := 0) nd_L_lot_in_1 rfl (Or.inl rfl))) (fun cl s H C fp => pifs_nil) (fun cl s H C fp => (pe_op op_shl pe_int (pv 0)))) pa_nil))))))), ?_⟩
  have hz' : z.length ≤ 60000 := hz
  have hn12 := ok.hi
  have big : (60010 : Nat) < sizeLine := by decide
  refine seq_if (b := decide (V.str z = V.str "-")) (.pure fun Q h => ⟨_, rfl, rfl, _, rfl, h⟩) fun H1 S1 => ?_
  refine ite2 (fun c => ?_) (fun c => ?_)
  · have e : z = dash := by have := of_decide_eq_true c; injection this
    exact qs (.int 0) (by unfold oneIn lotIn; rw [if_pos e]; rfl) _ _ S1 (.int 0)
  have e : z ≠ dash := fun w => c (by rw [w]; exact decide_eq_true rfl)
  have hlot : lotIn nm z = inW nm (Txt.split z spc) := if_neg e
  dsimp only [tNext]
  refine ⟨nil_len, fun pl hpl => ?_⟩
  have S2 := same_new hpl (.lst [])
  have hp2 : upd H1 pl (.lst []) pl = some (.lst []) := upd_same
  have hn2 := S2 _ _ (S1 _ _ hn)
  have hpl0 : H pl = none := S1.free hpl
  have npl : n ≠ pl := fun z => by rw [z, hpl0] at hn; cases hn
  have S02 := S1.trans S2
  generalize upd H1 pl (.lst []) = H2 at S02 hp2 hn2 ⊢
  try dsimp only [gName]
  refine ⟨_, rfl, rfl, z, spc, rfl, rfl, (by decide +kernel), Nat.le_trans (Nat.add_le_add_right hz' 2) (by decide), fun wl hwl => ?_⟩
  have S3 := same_new hwl (.lst ((Txt.split z spc).map V.str))
  have hw3 : upd H2 wl (.lst ((Txt.split z spc).map V.str)) wl = some (.lst ((Txt.split z spc).map V.str)) := upd_same
  have hp3 := S3 _ _ hp2
  have hn3 := S3 _ _ hn2
  have plw : pl ≠ wl := fun z => by rw [← z, hp2] at hwl; cases hwl
  have S03 := S02.trans S3
  have few := split_few z spc
  generalize upd H2 wl (.lst ((Txt.split z spc).map V.str)) = H3 at S03 hw3 hp3 hn3 ⊢
  generalize Txt.split z spc = ws at few hlot hw3
  have Sx : ∀ {H' : Hp}, SameB pl H3 H' → Same H H' := fun SB => SB.same S03 hpl0
  refine ⟨wl, rfl, ⟨_, SqL.of hw3⟩, for_list (xs := ws.map V.str) (fun i σ H' => ∃ z3 : Option V, σ = [some (.ref n), some (.str z), some (.ref pl), z3] ∧ SameB pl H3 H' ∧ H' pl = some (.lst (((idxs nm (ws.take i)).map fun (k : Nat) => (k : Int)).map V.int)) ∧ ∀ w ∈ ws.take i, w ∈ nm) ⟨_, rfl, (Same.refl _).b, hp3, fun w h => nomatch h⟩ (fun i σ H' _ h => by obtain ⟨_, _, SB, _⟩ := h; exact SqL.of (SB _ _ plw.symm hw3)) ?_ ?_⟩
  · rintro i x σ H4 hx ⟨z3, rfl, SB4, hp4, hm4⟩
    have hi : i < ws.length := by have := (List.getElem?_eq_some_iff.mp hx).1; rwa [List.length_map] at this
    have hx' : x = .str ws[i] := by
      rw [List.getElem?_map, List.getElem?_eq_getElem hi] at hx
      exact (Option.some.inj hx).symm
    subst hx'
    have hn4 := SB4 _ _ npl hn3
    have tk := idxs_take (nm := nm) hi
    have tw : ws.take (i + 1) = ws.take i ++ [ws[i]] := List.take_succ_eq_append_getElem hi
    have hmem : ws[i] ∈ ws := List.getElem_mem hi
    have len : (idxs nm (ws.take i)).length ≤ 60010 := by unfold idxs; rw [List.length_map, List.length_take]; omega
    generalize ws[i] = wd at tk tw hmem ⊢
    refine seq_if (b := !decide (wd ∈ nm)) (.pure fun Q h => ⟨_, rfl, _, rfl, n, _, rfl, .inl (SqL.of hn4), rfl, flat_strs _, _, rfl, by show Q (!inV (.str wd) (nm.map V.str)) _; rw [in_strs, in_names]; exact h⟩) fun H5 S5 => ?_
    have SB5 := SB4.trans S5.b
    by_cases hin : wd ∈ nm
    · refine iteF' (by rw [decide_eq_true hin]; rfl) ?_
      dsimp only [tNext]
      obtain ⟨j1, j2⟩ := idx_first hin
      have jl := (idx_at ok hin).1
      have hp5 := S5 _ _ hp4
      have hn5 := S5 _ _ hn4
      refine ⟨_, rfl, .inl ⟨rfl, _, SqL.of hp5⟩, _, rfl, .inl ⟨rfl, _, SqL.of hn5⟩, _, rfl, n, nm, wd, nm.idxOf wd, rfl, rfl, hn5, by omega, j1, j2, pl, _, _, rfl, rfl, hp5, by rw [List.length_map, List.length_map]; omega, _, rfl, fun c o hc ho => ?_, ?_, fun w hw => ?_⟩
      · rw [upd_ne hc]; exact SB5 _ _ hc ho
      · rw [upd_same, tk, List.map_append, List.map_append]; rfl
      · rw [tw] at hw
        rcases List.mem_append.mp hw with h | h
        · exact hm4 w h
        · rw [List.mem_singleton.mp h]; exact hin
    · refine iteT' (by rw [decide_eq_false hin]; rfl) ?_
      refine qn ?_ _ (Sx SB5)
      unfold oneIn
      rw [hlot]
      unfold inW
      rw [if_neg]
      · rfl
      · intro hh
        have := List.all_eq_true.mp (Bool.and_eq_true_iff.mp hh).1 wd hmem
        exact hin (of_decide_eq_true this)
  · rintro σ H4 ⟨z3, rfl, SB4, hp4, hm4⟩
    rw [List.length_map, List.take_of_length_le (Nat.le_refl _)] at hp4 hm4
    have hall : (ws.all fun w => decide (w ∈ nm)) = true := List.all_eq_true.mpr fun w hw => decide_eq_true (hm4 w hw)
    have hb := bad_up (idxs nm ws)
    have il : (idxs nm ws).length = ws.length := by unfold idxs; rw [List.length_map]
    have hinw : inW nm ws = if upB (idxs nm ws) = true then some (sumP (idxs nm ws)) else none := by unfold inW; rw [hall]; rfl
    have hlt : upB (idxs nm ws) = true → ∀ k ∈ idxs nm ws, k < 12 := fun _ k hk => by
      obtain ⟨w, hw, rfl⟩ := List.mem_map.mp hk
      have := (idx_at ok (hm4 w hw)).1
      omega
    generalize idxs nm ws = is at hp4 hb il hinw hlt
    have SA4 := Sx SB4
    dsimp only [tNext]
    refine seq_if (b := !upB is) (fun Q h => ⟨_, rfl, pl, _, rfl, .inl (SqL.of hp4), 1, _, rfl, (by rw [List.length_map, List.length_map]; exact ⟨by omega, by omega, by omega, by omega⟩), comp_range (lo := 1) (n := (((((is.map fun (k : Nat) => (k : Int)).map V.int).length : Nat) : Int) - 1).toNat) (fun i => (badF is i).map V.int) rfl (fun acc i H5 hacc hi S5 h0 => ?_) (fun acc H5 hacc S5 h5 => ne_nil' h5 fun H6 S6 => ⟨_, rfl, ?_⟩)⟩) fun H5 S5 => ?_
    · rw [List.length_map, List.length_map] at hi
      have hp5 := S5 _ _ hp4
      have i1 : i + 1 < is.length := by omega
      refine ⟨(Wk.refl _).set (by decide), _, rfl, _, rfl, pl, _, _, _, rfl, rfl, SqL.of hp5, at_nat (by omega) (by omega), _, rfl, _, rfl, _, _, rfl, rfl, pl, _, _, _, rfl, rfl, SqL.of hp5, at_nat (by omega) (by omega), _, _, rfl, rfl, _, rfl, ?_⟩
      have e1 : ((1 : Int) + (i : Int)).toNat = 1 + i := by omega
      have e2 : ((1 : Int) + (i : Int) - 1).toNat = i := by omega
      rw [e1, e2]
      have bs := bad_succ is i
      have bl : ((badF is i).map V.int).length ≤ i := by unfold badF; rw [List.length_map, List.length_map]; exact Nat.le_trans (List.length_filter_le _ _) (by rw [List.length_range]; exact Nat.le_refl _)
      by_cases c : is.getD (1 + i) 0 ≤ is.getD i 0
      · refine iteT' (decide_eq_true (by omega)) ⟨_, rfl, cput (by rw [List.length_map, List.length_map]; exact hi) hacc S5 h0 (Same.refl _) ?_ (by omega)⟩
        show (badF is (i + 1)).map V.int = _
        rw [bs, if_pos (decide_eq_true c), List.map_append]; rfl
      · refine iteF' (decide_eq_false (by omega)) (cskip (by rw [List.length_map, List.length_map]; exact hi) S5 h0 (Same.refl _) ?_)
        show (badF is (i + 1)).map V.int = _
        rw [bs, if_neg (by rw [decide_eq_false c]; decide), List.append_nil]
    · have e1 : ((((((is.map fun (k : Nat) => (k : Int)).map V.int).length : Nat) : Int) - 1).toNat) = is.length - 1 := by rw [List.length_map, List.length_map]; omega
      rw [e1, hb]
      exact h _ (S5.trans S6)
    · have hp5 := S5 _ _ hp4
      by_cases c : upB is = true
      · refine iteF' (by rw [c]; rfl) ?_
        dsimp only [tNext]
        refine ⟨_, rfl, pl, rfl, ⟨_, SqL.of hp5⟩, compV_list (SqL.of hp5) (fun _ => true) (fun t => .int (1 * 2 ^ t.toNat)) (by rw [List.length_map]; omega) (fun t H6 ht S6 => turn_pick (y := .int (1 * 2 ^ t.toNat)) look_yes (fun _ H7 S7 => .pure fun Q h => ⟨_, rfl, _, _, rfl, rfl, ?_, h⟩) fun _ _ _ => rfl) (fun acc H6 hacc S6 hacc6 => ?_)⟩
        · obtain ⟨k, hk, rfl⟩ := List.mem_map.mp ht
          have := hlt c k hk
          exact ⟨by omega, by omega, by decide⟩
        · rw [filter_true] at hacc6
          have es : ((is.map fun (k : Nat) => (k : Int)).map fun t => V.int (1 * 2 ^ t.toNat)) = (is.map fun (k : Nat) => 1 * (2 : Int) ^ k).map V.int := by
            rw [List.map_map, List.map_map]
            refine List.map_congr_left fun k _ => ?_
            show V.int (1 * 2 ^ ((k : Int)).toNat) = _
            rw [Int.toNat_natCast]; rfl
          rw [es] at hacc6
          refine ⟨acc, _, rfl, SqL.of hacc6, ?_⟩
          exact qs (.int (sumP is)) (by unfold oneIn; rw [hlot, hinw, if_pos c]; rfl) _ _ (SA4.trans (S5.trans S6)) (.int (sumP is))
      · refine iteT' (by rw [(by simpa using c : upB is = false)]; rfl) ?_
        exact qn (by unfold oneIn; rw [hlot, hinw, if_neg c]; rfl) _ (SA4.trans S5)

end
end OL.Q39

namespace OL.Q39
open PySem L2 OL
section
variable {P : Program} {w : World} {K : PySem.W.Frag} {mg : Str → Option Value} {base : Heap} {f : Addr} {fd : FuncData} {k : Nat}
open OL.K39
noncomputable def optV : Option Int → V
  | none => .non
  | some l => .int l
theorem opt_flat (os : List (Option Int)) : (os.map optV).all flatV = true := by
  rw [List.all_map, List.all_eq_true]
  intro o _
  cases o <;> rfl
theorem opt_in (os : List (Option Int)) : inV .non (os.map optV) = !os.all Option.isSome := by
  unfold inV
  rw [List.any_map, List.not_all_eq_any_not]
  congr 1
  funext o
  cases o <;> rfl
theorem opt_ints {os : List (Option Int)} (h : os.all Option.isSome = true) : os.map optV = (os.map fun o => o.getD 0).map V.int := by
  rw [List.map_map]
  refine List.map_congr_left fun o ho => ?_
  have := List.all_eq_true.mp h o ho
  cases o with
  | none => cases this
  | some l => rfl
theorem paired_fn {α : Type} {f : α → V} {ys : List V} {ws : List α} (h : Paired (fun y t => y = f t) ys ws) : ys = ws.map f := by
  induction h with
  | nil => rfl
  | cons r _ ih => rw [r, ih, List.map_cons]
noncomputable abbrev n_L_rule_in : List Str := ["_law_names_here", "_law_text", "_law_lots"]
theorem sc_L_rule_in : FnScope n_L_rule_in ["_law_names_here", "_law_text"] (defScope s_L_rule_in) := ⟨rfl, rfl, rfl, by decide +kernel, rfl, by decide +kernel, by decide +kernel⟩
theorem nd_L_rule_in_0 : (["_law_part", "_law_names_here"] : List Str).Nodup := by decide +kernel
set_option maxHeartbeats 2000000 in
theorem ok_L_rule_in (F : Fun K "_law_rule_in" "_law_rule_in" s_L_rule_in f fd) (b : Binds K fd ["_law_names_here", "_law_text"] []) (m : mg "_law_rule_in" = some (.ref f)) (M_len : mg "len" = none) (G_L_lot_in : Dfn P w K mg base k "_law_lot_in" ["_law_names_here", "_law_text"] (spDu39 K oneIn)) : Dfn P w K mg base (k + 1) "_law_rule_in" ["_law_names_here", "_law_text"] (spDu39 K ruleIn) := by
  refine .of F b m sc_L_rule_in (fun vs H Q E h => ?_) (fun cdv A outer s H vs Q E hr h => ?_)
  · obtain ⟨n, nm, z, rfl, hn, ok, hz, qs, qn⟩ := h; rfl
  obtain ⟨n, nm, z, rfl, hn, ok, hz, qs, qn⟩ := h
  have nd := sc_L_rule_in.nd
  have le := Nat.le_refl k
  refine ⟨_, pss_cons (ps_setCompC (i := 2) nd rfl rfl ["_law_part"] [0] (sc := defScope s_L_rule_in) (N := n_L_rule_in) (.inl rfl) rfl ⟨rfl, by decide +kernel, by decide +kernel, by decide +kernel, by decide +kernel⟩ rfl (pi_list (pe_bm PySem.F.plainAttrs_str PySem.F.slot_str_split PySem.F.type_str_split mt_split (pv 1) (pa_cons pe_str pa_nil))) (fun cl s H C fp => (pg_name (i := 0) nd_L_rule_in_0 rfl (Or.inl rfl))) (fun cl s H C fp => pifs_nil) (fun cl s H C fp => (pe_def G_L_lot_in hr le rfl (pa_cons (pv 1) (pa_cons (pv 0) pa_nil)))) rfl)
    (pss_cons (ps_if (PW.pt (pw_or (pt_cmpR op_ne (pe_callB call_len_seq (by rfl) M_len PySem.boot_len (pa_cons (pv 2) pa_nil)) pe_int (nomark _)) (pw_or1 (pt_cmpR op_in_seq pe_non (pv 2) (by rfl))))) (pss_one (ps_ret pe_non)) pss_nil)
    (pss_one (ps_ret (pe_tup (pa_cons (pe_ix ix_list (pv 2) pe_int (fun _ _ => rfl)) (pa_cons (pe_ix ix_list (pv 2) pe_int (fun _ _ => rfl)) pa_nil)))))), ?_⟩
  have hz' : z.length ≤ 60000 := hz
  refine ⟨_, rfl, rfl, z, arrow, rfl, rfl, (by decide +kernel), Nat.le_trans (Nat.add_le_add_right hz' 2) (by decide), fun wl hwl => ?_⟩
  have S1 := same_new hwl (.lst ((Txt.split z arrow).map V.str))
  have hw1 : upd H wl (.lst ((Txt.split z arrow).map V.str)) wl = some (.lst ((Txt.split z arrow).map V.str)) := upd_same
  generalize upd H wl (.lst ((Txt.split z arrow).map V.str)) = H1 at S1 hw1 ⊢
  have few := split_few z arrow
  have hr : ruleIn nm z = match (Txt.split z arrow).map (lotIn nm) with | [some a, some b] => some (.tuple [.int a, .int b]) | _ => none := rfl
  have hpc : ∀ t ∈ Txt.split z arrow, t.length ≤ BigT := fun t ht => Nat.le_trans (piece_le ht) hz
  generalize Txt.split z arrow = ws at hw1 few hr hpc
  refine ⟨wl, rfl, ⟨_, SqL.of hw1⟩, compA_list (as := ws) (Re := fun v t => v = .str t) (SqL.of hw1) (paired_mapped ws) (fun _ => true) (fun _ y t => y = optV (lotIn nm t)) (fun _ _ _ _ _ z => z) (by omega) (fun t v H2 ht e S2 => ?_) (fun acc ys H2 hacc S2 hacc2 hys => ?_)⟩
  · subst e
    refine turn_pick (y := optV (lotIn nm t)) look_yes (fun _ H4 S4 => fun Q h => ⟨_, rfl, _, rfl, n, nm, t, rfl, (S1.trans (S2.trans S4)) _ _ hn, ok, hpc t ht, fun d hd v H5 S5 dr => ?_, fun hd H5 S5 => ?_⟩) fun _ _ _ => rfl
    · obtain ⟨x0, e0, rfl⟩ := one_some hd
      have ev := dr_int dr
      subst ev
      have hh := h _ S5
      rw [e0] at hh
      exact hh
    · have hh := h _ S5
      rw [one_none hd] at hh
      exact hh
  rw [filter_true] at hys
  have ey := paired_fn hys
  subst ey
  have e1 : (ws.map fun t => optV (lotIn nm t)) = (ws.map (lotIn nm)).map optV := by rw [List.map_map]; rfl
  rw [e1] at hacc2
  have e2 : (ws.map (lotIn nm)).length = ws.length := List.length_map ..
  generalize ws.map (lotIn nm) = os at hacc2 hr e2
  have S02 := S1.trans S2
  try dsimp only [gName]
  refine seq_if (b := !decide (V.int ((os.map optV).length : Int) = V.int 2) || !os.all Option.isSome) (lookOr (c := !decide (V.int ((os.map optV).length : Int) = V.int 2)) (d := !os.all Option.isSome) (.pure fun Q h => ⟨_, rfl, acc, _, rfl, .inl (SqL.of hacc2), rfl, _, rfl, h⟩) fun _ H3 S3 => .pure fun Q h => ⟨_, rfl, acc, _, rfl, .inl (SqL.of (S3 _ _ hacc2)), rfl, opt_flat os, _, rfl, by show Q (inV .non (os.map optV)) _; rw [opt_in]; exact h⟩) fun H3 S3 => ?_
  have S03 := S02.trans S3
  have hl3 := S3 _ _ hacc2
  rw [List.length_map]
  match os, hl3, hr with
  | [], hl3, hr => exact qn hr _ S03
  | [none], hl3, hr => exact qn hr _ S03
  | [some _], hl3, hr => exact qn hr _ S03
  | none :: _ :: _ :: r, hl3, hr => exact iteT' (by first | (simp; done) | (simp; omega)) (qn hr _ S03)
  | some _ :: none :: _ :: r, hl3, hr => exact iteT' (by simp) (qn hr _ S03)
  | some _ :: some _ :: _ :: r, hl3, hr => exact iteT' (by first | (simp; done) | (simp; omega)) (qn hr _ S03)
  | [none, none], hl3, hr => exact qn hr _ S03
  | [none, some _], hl3, hr => exact qn hr _ S03
  | [some _, none], hl3, hr => exact qn hr _ S03
  | [some x0, some x1], hl3, hr =>
    refine iteF' rfl ?_
    dsimp only [tNext]
    exact ⟨_, rfl, acc, _, _, _, rfl, rfl, SqL.of hl3, rfl, _, rfl, acc, _, _, _, rfl, rfl, SqL.of hl3, rfl, (by show 2 ≤ sizeLine; decide), fun p hp => qs (.tuple [.int x0, .int x1]) hr (.ref p) _ (S03.trans (same_new hp _)) (.tup (SqT.of upd_same) (.cons (.int x0) (.cons (.int x1) .nil)))⟩
noncomputable abbrev n_L_day_in : List Str := ["_law_names_here", "_law_text", "_law_lots"]
theorem sc_L_day_in : FnScope n_L_day_in ["_law_names_here", "_law_text"] (defScope s_L_day_in) := ⟨rfl, rfl, rfl, by decide +kernel, rfl, by decide +kernel, by decide +kernel⟩
theorem nd_L_day_in_0 : (["_law_part", "_law_names_here"] : List Str).Nodup := by decide +kernel
set_option maxHeartbeats 2000000 in
theorem ok_L_day_in (F : Fun K "_law_day_in" "_law_day_in" s_L_day_in f fd) (b : Binds K fd ["_law_names_here", "_law_text"] []) (m : mg "_law_day_in" = some (.ref f))  (G_L_lot_in : Dfn P w K mg base k "_law_lot_in" ["_law_names_here", "_law_text"] (spDu39 K oneIn)) : Dfn P w K mg base (k + 1) "_law_day_in" ["_law_names_here", "_law_text"] (spDu39 K dayIn) := by
  refine .of F b m sc_L_day_in (fun vs H Q E h => ?_) (fun cdv A outer s H vs Q E hr h => ?_)
  · obtain ⟨n, nm, z, rfl, hn, ok, hz, qs, qn⟩ := h; rfl
  obtain ⟨n, nm, z, rfl, hn, ok, hz, qs, qn⟩ := h
  have nd := sc_L_day_in.nd
  have le := Nat.le_refl k
  refine ⟨_, pss_cons (ps_if (pt_cmpR op_eq (pv 1) pe_str (nomark _)) (pss_one (ps_ret (pe_lst pa_nil))) pss_nil)
    (pss_cons (ps_setCompC (i := 2) nd rfl rfl ["_law_part"] [0] (sc := defScope s_L_day_in) (N := n_L_day_in) (.inl rfl) rfl ⟨rfl, by decide +kernel, by decide +kernel, by decide +kernel, by decide +kernel⟩ rfl (pi_list (pe_bm PySem.F.plainAttrs_str PySem.F.slot_str_split PySem.F.type_str_split mt_split (pv 1) (pa_cons pe_str pa_nil))) (fun cl s H C fp => (pg_name (i := 0) nd_L_day_in_0 rfl (Or.inl rfl))) (fun cl s H C fp => pifs_nil) (fun cl s H C fp => (pe_def G_L_lot_in hr le rfl (pa_cons (pv 1) (pa_cons (pv 0) pa_nil)))) rfl)
    (pss_cons (ps_if (pt_cmpR op_in_seq pe_non (pv 2) (by rfl)) (pss_one (ps_ret pe_non)) pss_nil)
    (pss_one (ps_ret (pv 2))))), ?_⟩
  have hz' : z.length ≤ 60000 := hz
  refine seq_if (b := decide (V.str z = V.str "none")) (.pure fun Q h => ⟨_, rfl, rfl, _, rfl, h⟩) fun H0 S0 => ?_
  refine ite2 (fun c => ?_) (fun c => ?_)
  · have e : z = noneT := by have := of_decide_eq_true c; injection this
    exact ⟨nil_len, fun r hr => qs (.list []) (by unfold dayIn; rw [if_pos e]) (.ref r) _ (S0.trans (same_new hr _)) (.lst (SqL.of upd_same) .nil)⟩
  have e : z ≠ noneT := fun w => c (by rw [w]; exact decide_eq_true rfl)
  have hr : dayIn nm z = daysF ((Txt.split z semi).map (lotIn nm)) := if_neg e
  dsimp only [tNext]
  refine ⟨_, rfl, rfl, z, semi, rfl, rfl, (by decide +kernel), Nat.le_trans (Nat.add_le_add_right hz' 2) (by decide), fun wl hwl => ?_⟩
  have S1 := S0.trans (same_new hwl (.lst ((Txt.split z semi).map V.str)))
  have hw1 : upd H0 wl (.lst ((Txt.split z semi).map V.str)) wl = some (.lst ((Txt.split z semi).map V.str)) := upd_same
  generalize upd H0 wl (.lst ((Txt.split z semi).map V.str)) = H1 at S1 hw1 ⊢
  have few := split_few z semi
  have hpc : ∀ t ∈ Txt.split z semi, t.length ≤ BigT := fun t ht => Nat.le_trans (piece_le ht) hz
  generalize Txt.split z semi = ws at hw1 few hr hpc
  refine ⟨wl, rfl, ⟨_, SqL.of hw1⟩, compA_list (as := ws) (Re := fun v t => v = .str t) (SqL.of hw1) (paired_mapped ws) (fun _ => true) (fun _ y t => y = optV (lotIn nm t)) (fun _ _ _ _ _ z => z) (by omega) (fun t v H2 ht e S2 => ?_) (fun acc ys H2 hacc S2 hacc2 hys => ?_)⟩
  · subst e
    refine turn_pick (y := optV (lotIn nm t)) look_yes (fun _ H4 S4 => fun Q h => ⟨_, rfl, _, rfl, n, nm, t, rfl, (S1.trans (S2.trans S4)) _ _ hn, ok, hpc t ht, fun d hd v H5 S5 dr => ?_, fun hd H5 S5 => ?_⟩) fun _ _ _ => rfl
    · obtain ⟨x0, e0, rfl⟩ := one_some hd
      have ev := dr_int dr
      subst ev
      have hh := h _ S5
      rw [e0] at hh
      exact hh
    · have hh := h _ S5
      rw [one_none hd] at hh
      exact hh
  rw [filter_true] at hys
  have ey := paired_fn hys
  subst ey
  have e1 : (ws.map fun t => optV (lotIn nm t)) = (ws.map (lotIn nm)).map optV := by rw [List.map_map]; rfl
  rw [e1] at hacc2
  generalize ws.map (lotIn nm) = os at hacc2 hr
  have S02 := S1.trans S2
  try dsimp only [gName]
  refine seq_if (b := !os.all Option.isSome) (.pure fun Q h => ⟨_, rfl, acc, _, rfl, .inl (SqL.of hacc2), rfl, opt_flat os, _, rfl, by show Q (inV .non (os.map optV)) _; rw [opt_in]; exact h⟩) fun H3 S3 => ?_
  have S03 := S02.trans S3
  have hl3 := S3 _ _ hacc2
  unfold daysF at hr
  by_cases c : os.all Option.isSome = true
  · rw [if_pos c] at hr
    refine iteF' (by rw [c]; rfl) ?_
    dsimp only [tNext]
    rw [opt_ints c] at hl3
    exact ⟨_, rfl, qs _ hr (.ref acc) _ S03 (.lst (SqL.of hl3) (DRs.ints _))⟩
  · rw [if_neg c] at hr
    exact iteT' (by rw [(by simpa using c : os.all Option.isSome = false)]; rfl) (qn hr _ S03)
noncomputable abbrev n_L_is_text : List Str := ["_law_caught", "_law_told"]
theorem sc_L_is_text : FnScope n_L_is_text ["_law_caught"] (defScope s_L_is_text) := ⟨rfl, rfl, rfl, by decide +kernel, rfl, by decide +kernel, by decide +kernel⟩
set_option maxHeartbeats 1000000 in
theorem ok_L_is_text (F : Fun K "_law_is_text" "_law_is_text" s_L_is_text f fd) (b : Binds K fd ["_law_caught"] []) (m : mg "_law_is_text" = some (.ref f)) (M_isinstance : mg "isinstance" = none) (M_ValueError : mg "ValueError" = none) {cc : CC} (kX : Xs K mg cc)  : Dfn P w K mg base (k + 1) "_law_is_text" ["_law_caught"] (spIsText K cc.NoText) := by
  refine .of F b m sc_L_is_text (fun vs H Q E h => ?_) (fun cdv A outer s H vs Q E hr h => ?_)
  · obtain ⟨a, rfl, ha, q⟩ := h; rfl
  obtain ⟨a, rfl, ha, q⟩ := h
  have nd := sc_L_is_text.nd
  refine ⟨_, pss_cons (ps_set (i := 1) nd rfl (Or.inl rfl) (pe_lst (pa_cons (pe_callB call_isX (by rfl) M_isinstance PyProof.Rows.boot_isinstance (pa_cons (pv 0) (pa_cons (pe_glob (v := .ref cc.NoDay) (by rfl) kX.m_NoDay rfl) pa_nil))) (pa_cons (pe_callB call_isX (by rfl) M_isinstance PyProof.Rows.boot_isinstance (pa_cons (pv 0) (pa_cons (pe_glob (v := .ref cc.NoLeast) (by rfl) kX.m_NoLeast rfl) pa_nil))) (pa_cons (pe_callB call_isX (by rfl) M_isinstance PyProof.Rows.boot_isinstance (pa_cons (pv 0) (pa_cons (pe_glob (v := .ref cc.NoLine) (by rfl) kX.m_NoLine rfl) pa_nil))) pa_nil)))))
    (pss_cons (ps_if (pt_cmpR op_in_seq pe_bl (pe_op op_cat (pv 1) (pe_lst (pa_cons (pe_callB call_isX (by rfl) M_isinstance PyProof.Rows.boot_isinstance (pa_cons (pv 0) (pa_cons (pe_glob (v := .ref cc.NoRoom) (by rfl) kX.m_NoRoom rfl) pa_nil))) (pa_cons (pe_callB call_isX (by rfl) M_isinstance PyProof.Rows.boot_isinstance (pa_cons (pv 0) (pa_cons (pe_glob (v := .ref cc.NoThings) (by rfl) kX.m_NoThings rfl) pa_nil))) pa_nil)))) (by rfl)) (pss_one (ps_ret pe_bl)) pss_nil)
    (pss_one (ps_ret (pe_and (pe_callB call_isX (by rfl) M_isinstance PyProof.Rows.boot_isinstance (pa_cons (pv 0) (pa_cons (pe_glob (v := .ref cc.NoText) (by rfl) kX.m_NoText rfl) pa_nil))) (pe_one (pe_callB call_isX (by rfl) M_isinstance PyProof.Rows.boot_isinstance (pa_cons (pv 0) (pa_cons (pe_bltn (v := .ty "ValueError") (by rfl) M_ValueError PyProof.Rows.Boot.ValueError rfl) pa_nil)))))))), ?_⟩
  have IS := kX.is_
  refine ⟨_, rfl, _, _, _, false, rfl, .inl ⟨_, rfl, rfl⟩, .inr ⟨a, _, rfl, ha, IS.ask, IS.no _ (by simp)⟩, _, rfl, _, _, _, false, rfl, .inl ⟨_, rfl, rfl⟩, .inr ⟨a, _, rfl, ha, IS.ask, IS.no _ (by simp)⟩, _, rfl, _, _, _, false, rfl, .inl ⟨_, rfl, rfl⟩, .inr ⟨a, _, rfl, ha, IS.ask, IS.no _ (by simp)⟩, (by show 3 ≤ sizeLine; decide), fun l1 hl1 => ?_⟩
  have S1 := same_new hl1 (.lst [.bl false, .bl false, .bl false])
  have h1 : upd H l1 (.lst [.bl false, .bl false, .bl false]) l1 = some (.lst [.bl false, .bl false, .bl false]) := upd_same
  have ha1 := S1 _ _ ha
  generalize upd H l1 (.lst [.bl false, .bl false, .bl false]) = H1 at S1 h1 ha1 ⊢
  try dsimp only [gName]
  refine ⟨_, rfl, _, rfl, _, _, _, false, rfl, .inl ⟨_, rfl, rfl⟩, .inr ⟨a, _, rfl, ha1, IS.ask, IS.no _ (by simp)⟩, _, rfl, _, _, _, false, rfl, .inl ⟨_, rfl, rfl⟩, .inr ⟨a, _, rfl, ha1, IS.ask, IS.no _ (by simp)⟩, (by show 2 ≤ sizeLine; decide), fun l2 hl2 => ?_⟩
  have S2 := same_new hl2 (.lst [.bl false, .bl false])
  refine ⟨l1, l2, _, _, rfl, rfl, S2 _ _ h1, upd_same, (by show 5 ≤ sizeLine; decide), fun l3 hl3 => ?_⟩
  have S3 := same_new hl3 (.lst [.bl false, .bl false, .bl false, .bl false, .bl false])
  have h3 : upd (upd H1 l2 (.lst [.bl false, .bl false])) l3 (.lst [.bl false, .bl false, .bl false, .bl false, .bl false]) l3 = some (.lst [.bl false, .bl false, .bl false, .bl false, .bl false]) := upd_same
  have ha3 := S3 _ _ (S2 _ _ ha1)
  have S13 := S1.trans (S2.trans S3)
  try dsimp only [gName]
  refine ⟨l3, _, rfl, .inl (SqL.of h3), rfl, rfl, _, rfl, iteF' rfl ?_⟩
  try dsimp only [tNext]
  refine ⟨_, rfl, _, _, _, true, rfl, .inl ⟨_, rfl, rfl⟩, .inr ⟨a, _, rfl, ha3, IS.ask, IS.yes _ (by simp)⟩, _, rfl, iteT ?_⟩
  exact ⟨_, rfl, _, _, _, true, rfl, .inr ⟨_, rfl, rfl⟩, .inr ⟨a, _, rfl, ha3, IS.ask, IS.yes _ (by simp)⟩, q _ S13⟩

end
end OL.Q39

namespace OL.Q39
open PySem L2 OL
section
variable {P : Program} {w : World} {K : PySem.W.Frag} {mg : Str → Option Value} {base : Heap} {f : Addr} {fd : FuncData} {k : Nat}
open OL.K39
theorem int_ok (l : Int) : PySem.SeqAt.shaped (.int l) = true ∧ PyData.eqv (.int l) (.int l) = true := ⟨rfl, by show (decide (l = l)) = true; simp⟩
theorem pair_ok (a b : Int) : PySem.SeqAt.shaped (.tuple [.int a, .int b]) = true ∧ PyData.eqv (.tuple [.int a, .int b]) (.tuple [.int a, .int b]) = true :=
  ⟨shaped_ints [a, b], (eqv_ints [a, b] [a, b]).trans (decide_eq_true rfl)⟩
theorem list_ok (ns : List Int) : PySem.SeqAt.shaped (.list (ns.map PyData.int)) = true ∧ PyData.eqv (.list (ns.map PyData.int)) (.list (ns.map PyData.int)) = true :=
  ⟨shaped_ints ns, (eqv_ints ns ns).trans (decide_eq_true rfl)⟩
theorem one_ok {nm : List Str} {z : Str} {d : PyData} (h : oneIn nm z = some d) : PySem.SeqAt.shaped d = true ∧ PyData.eqv d d = true := by
  obtain ⟨l, _, rfl⟩ := one_some h
  exact int_ok l
theorem rule_ok {nm : List Str} {z : Str} {d : PyData} (h : ruleIn nm z = some d) : PySem.SeqAt.shaped d = true ∧ PyData.eqv d d = true := by
  unfold ruleIn at h
  split at h
  · cases h; exact pair_ok _ _
  · cases h
theorem day_ok {nm : List Str} {z : Str} {d : PyData} (h : dayIn nm z = some d) : PySem.SeqAt.shaped d = true ∧ PyData.eqv d d = true := by
  unfold dayIn at h
  split at h
  · cases h; exact list_ok []
  · unfold daysF at h
    split at h
    · cases h; exact list_ok _
    · cases h
theorem dr_ne {K : PySem.W.Frag} {H : Hp} {v : V} {d : PyData} (h : DR K H v d) (hd : d ≠ .none) : decide (v = V.non) = false := by
  cases h <;> first | rfl | exact absurd rfl hd
theorem shaped_ne {nm : List Str} {z : Str} : (∀ d, oneIn nm z = some d → d ≠ .none) ∧ (∀ d, ruleIn nm z = some d → d ≠ .none) ∧ (∀ d, dayIn nm z = some d → d ≠ .none) := by
  refine ⟨fun d h => ?_, fun d h => ?_, fun d h => ?_⟩
  · obtain ⟨l, _, rfl⟩ := one_some h; exact fun z => nomatch z
  · unfold ruleIn at h
    split at h
    · cases h; exact fun z => nomatch z
    · cases h
  · unfold dayIn at h
    split at h
    · cases h; exact fun z => nomatch z
    · unfold daysF at h
      split at h
      · cases h; exact fun z => nomatch z
      · cases h
noncomputable abbrev n_L_judged : List Str := ["_law_names_here", "_law_text", "_law_which", "_law_due", "_law_found", "_law_caught", "e"]
theorem sc_L_judged : FnScope n_L_judged ["_law_names_here", "_law_text"] (defScope s_L_judged) := ⟨rfl, rfl, rfl, by decide +kernel, rfl, by decide +kernel, by decide +kernel⟩
set_option maxHeartbeats 4000000 in
theorem ok_L_judged (F : Fun K "_law_judged" "_law_judged" s_L_judged f fd) (b : Binds K fd ["_law_names_here", "_law_text"] []) (m : mg "_law_judged" = some (.ref f)) (M_range : mg "range" = none) {cc : CC} (kX : Xs K mg cc) (G_L_day_in : Dfn P w K mg base k "_law_day_in" ["_law_names_here", "_law_text"] (spDu39 K dayIn)) (G_L_rule_in : Dfn P w K mg base k "_law_rule_in" ["_law_names_here", "_law_text"] (spDu39 K ruleIn)) (G_L_lot_in : Dfn P w K mg base k "_law_lot_in" ["_law_names_here", "_law_text"] (spDu39 K oneIn)) (G_read_day : DfnN P w K mg base k "read_day" ["names", "text"] (spReadN K cc.NoText dayIn)) (G_read_rule : DfnN P w K mg base k "read_rule" ["names", "text"] (spReadN K cc.NoText ruleIn)) (G_read_lot : DfnN P w K mg base k "read_lot" ["names", "text"] (spReadN K cc.NoText oneIn)) (G_L_is_text : Dfn P w K mg base k "_law_is_text" ["_law_caught"] (spIsText K cc.NoText)) : Dfn P w K mg base (k + 1) "_law_judged" ["_law_names_here", "_law_text"] spJudge := by
  refine .of F b m sc_L_judged (fun vs H Q E h => ?_) (fun cdv A outer s H vs Q E hr h => ?_)
  · obtain ⟨n, nm, z, rfl, hn, ok, hz, q⟩ := h; rfl
  obtain ⟨n, nm, z, rfl, hn, ok, hz, q⟩ := h
  have nd := sc_L_judged.nd
  have le := Nat.le_refl k
  refine ⟨_, pss_cons (ps_for PassesOwn.never rfl (pi_range1 rfl M_range (pa_cons pe_int pa_nil)) (pg_name (i := 2) nd rfl (Or.inl rfl))
      (pss_cons (ps_set (i := 3) nd rfl (Or.inl rfl) (pe_callV (pe_ix ix_list (pe_lst (pa_cons (pe_gl G_L_lot_in.mgA rfl) (pa_cons (pe_gl G_L_rule_in.mgA rfl) (pa_cons (pe_gl G_L_day_in.mgA rfl) pa_nil)))) (pv 2) (fun _ _ => rfl)) hr le (pa_cons (pv 0) (pa_cons (pv 1) pa_nil))))
      (pss_cons (ps_set (i := 4) nd rfl (Or.inl rfl) pe_non)
      (pss_cons (ps_set (i := 5) nd rfl (Or.inl rfl) pe_non)
      (pss_cons (ps_try (i := 6) hr rfl rfl nd rfl rfl rfl rfl kX.m_OftenError (psx_setV (i := 4) nd rfl (Or.inl rfl) (Or.inr rfl) (pe_ix ix_list (pe_lst (pa_cons (pe_gl G_read_lot.mgA rfl) (pa_cons (pe_gl G_read_rule.mgA rfl) (pa_cons (pe_gl G_read_day.mgA rfl) pa_nil)))) (pv 2) (fun _ _ => rfl)) hr le (pa_cons (pv 0) (pa_cons (pv 1) pa_nil))) (fun a => (pss_one (ps_set (i := 5) nd rfl (Or.inl rfl) (pv 6)))))
      (pss_one (ps_if (pt_cmpR op_isN (pv 3) pe_non (nomark _)) (pss_one (ps_if (pt_not (pt_val (pe_def G_L_is_text hr le rfl (pa_cons (pv 5) pa_nil)))) (pss_one (ps_ret pe_bl)) pss_nil)) (pss_one (ps_if (PW.pt (pw_or (pt_cmpR op_notN (pv 5) pe_non (nomark _)) (pw_or1 (pt_cmpR (op_neD hr) (pv 4) (pv 3) (nomark _))))) (pss_one (ps_ret pe_bl)) pss_nil)))))))))
    (pss_one (ps_ret pe_bl)), ?_⟩
  refine ⟨3, rfl, by omega, by omega, for_range (n := 3) (fun i σ H' => ∃ z2 z3 z4 z5 z6 : Option V, σ = [some (.ref n), some (.str z), z2, z3, z4, z5, z6] ∧ Same H H') ⟨_, _, _, _, _, rfl, Same.refl _⟩ ?_ ?_⟩
  · rintro i σ H1 hi ⟨z2, z3, z4, z5, z6, rfl, S1⟩
    obtain ⟨F, aD, aR, cD, cR, hD, hR, hok, hne⟩ : ∃ (F : List Str → Str → Option PyData) (aD aR : Addr), L2.Cal CX0 P w K mg base k aD (spDu39 K F) ∧ L2.Cal (CXN P w) P w K mg base k aR (spReadN K cc.NoText F) ∧
        atI [V.ref G_L_lot_in.adr, V.ref G_L_rule_in.adr, V.ref G_L_day_in.adr] ((0 : Int) + (i : Int)) = some (.ref aD) ∧ atI [V.ref G_read_lot.adr, V.ref G_read_rule.adr, V.ref G_read_day.adr] ((0 : Int) + (i : Int)) = some (.ref aR) ∧
        (∀ d, F nm z = some d → PySem.SeqAt.shaped d = true ∧ PyData.eqv d d = true) ∧ ∀ d, F nm z = some d → d ≠ .none := by
      rcases (by omega : i = 0 ∨ i = 1 ∨ i = 2) with rfl | rfl | rfl
      · exact ⟨oneIn, _, _, G_L_lot_in.cal, G_read_lot.cal, rfl, rfl, fun d h => one_ok h, shaped_ne.1⟩
      · exact ⟨ruleIn, _, _, G_L_rule_in.cal, G_read_rule.cal, rfl, rfl, fun d h => rule_ok h, shaped_ne.2.1⟩
      · exact ⟨dayIn, _, _, G_L_day_in.cal, G_read_day.cal, rfl, rfl, fun d h => day_ok h, shaped_ne.2.2⟩
    refine ⟨(by show 3 ≤ sizeLine; decide), fun fl hfl => ?_⟩
    have S2 := S1.trans (same_new hfl (.lst [V.ref G_L_lot_in.adr, V.ref G_L_rule_in.adr, V.ref G_L_day_in.adr]))
    have hf2 : upd H1 fl (.lst [V.ref G_L_lot_in.adr, V.ref G_L_rule_in.adr, V.ref G_L_day_in.adr]) fl = some (.lst [V.ref G_L_lot_in.adr, V.ref G_L_rule_in.adr, V.ref G_L_day_in.adr]) := upd_same
    generalize upd H1 fl (.lst [V.ref G_L_lot_in.adr, V.ref G_L_rule_in.adr, V.ref G_L_day_in.adr]) = H2 at S2 hf2 ⊢
    refine ⟨_, rfl, fl, _, _, _, rfl, rfl, SqL.of hf2, hD, _, _, rfl, cD, _, rfl, _, rfl, n, nm, z, rfl, S2 _ _ hn, ok, hz, fun d hd v H3 S3 dr => ?_, fun hd H3 S3 => ?_⟩
    · try dsimp only [gName]
      have S03 := S2.trans S3
      refine ⟨(by show 3 ≤ sizeLine; decide), fun gl hgl => ?_⟩
      have Sg := same_new hgl (.lst [V.ref G_read_lot.adr, V.ref G_read_rule.adr, V.ref G_read_day.adr])
      have hg4 : upd H3 gl (.lst [V.ref G_read_lot.adr, V.ref G_read_rule.adr, V.ref G_read_day.adr]) gl = some (.lst [V.ref G_read_lot.adr, V.ref G_read_rule.adr, V.ref G_read_day.adr]) := upd_same
      have dr4 := dr.same Sg
      generalize upd H3 gl (.lst [V.ref G_read_lot.adr, V.ref G_read_rule.adr, V.ref G_read_day.adr]) = H4 at Sg hg4 dr4 ⊢
      have S04 := S03.trans Sg
      refine ⟨_, rfl, gl, _, _, _, rfl, rfl, SqL.of hg4, hR, _, _, rfl, cR, _, rfl, _, rfl, n, nm, z, rfl, SqL.of (S04 _ _ hn), ok, hz, fun d' hd' v' H5 S5 dr' => ?_, fun hd' => by rw [hd] at hd'; cases hd'⟩
      rw [hd] at hd'
      cases hd'
      obtain ⟨o1, o2⟩ := hok d hd
      have dn := dr_ne dr4 (hne d hd)
      have dr5 := dr4.same S5
      refine ⟨_, rfl, rfl, _, rfl, iteF' dn ?_⟩
      refine ⟨_, rfl, rfl, _, rfl, iteF' rfl ⟨_, rfl, _, rfl, ne_data dr' dr5 o1 o2 (iteF' rfl ?_)⟩⟩
      exact ⟨_, _, _, _, _, rfl, S04.trans S5⟩
    · try dsimp only [gName]
      have S03 := S2.trans S3
      refine ⟨(by show 3 ≤ sizeLine; decide), fun gl hgl => ?_⟩
      have Sg := same_new hgl (.lst [V.ref G_read_lot.adr, V.ref G_read_rule.adr, V.ref G_read_day.adr])
      have hg4 : upd H3 gl (.lst [V.ref G_read_lot.adr, V.ref G_read_rule.adr, V.ref G_read_day.adr]) gl = some (.lst [V.ref G_read_lot.adr, V.ref G_read_rule.adr, V.ref G_read_day.adr]) := upd_same
      generalize upd H3 gl (.lst [V.ref G_read_lot.adr, V.ref G_read_rule.adr, V.ref G_read_day.adr]) = H4 at Sg hg4 ⊢
      have S04 := S03.trans Sg
      refine ⟨_, rfl, gl, _, _, _, rfl, rfl, SqL.of hg4, hR, _, _, rfl, cR, _, rfl, _, rfl, n, nm, z, rfl, SqL.of (S04 _ _ hn), ok, hz, (fun d' hd' => by rw [hd] at hd'; cases hd'), fun _ a H5 S5 ha0 ha1 => ⟨_, a, rfl, rfl, kX.em_, ?_⟩⟩
      try dsimp only [gName]
      refine ⟨_, rfl, ?_⟩
      refine ⟨_, rfl, rfl, _, rfl, iteT' rfl ?_⟩
      refine ⟨_, rfl, a, rfl, ha1, fun H6 S6 => ?_⟩
      have S06 := (S04.trans S5).trans S6
      refine ⟨_, rfl, iteF' rfl ⟨_, _, _, _, _, rfl, S06⟩⟩
  · rintro σ H1 ⟨z2, z3, z4, z5, z6, rfl, S1⟩
    exact q _ S1

end
end OL.Q39

namespace OL.Q39
open PySem L2 OL
section
variable {P : Program} {w : World} {K : PySem.W.Frag} {mg : Str → Option Value} {base : Heap} {f : Addr} {fd : FuncData} {k : Nat}
open OL.K39
theorem at_any {z : Str} {i : Int} (h0 : 0 ≤ i) (h1 : i < (z.length : Int)) : ∃ c, atI z.cps.toList i = some c := by
  have hl : z.cps.toList.length = z.length := by rw [Array.length_toList]; rfl
  refine ⟨z.cps.toList[i.toNat]'(by rw [hl]; omega), ?_⟩
  unfold atI
  have e : ixN z.cps.toList.length i = some i.toNat := by unfold ixN; rw [hl, if_pos h0, if_pos h1]
  rw [e]
  exact List.getElem?_eq_getElem (by rw [hl]; omega)
theorem sz_of {m n : Nat} (h : m ≤ n) (h2 : n ≤ 16777216) : m ≤ sizeLine := Nat.le_trans h (Nat.le_trans h2 (by decide))
theorem jl_bounds {s : List Nat} : ∀ {ws : List (List Nat)}, (jl s ws).length ≤ (ws.map List.length).sum + ws.length * s.length ∧ (ws.map List.length).sum ≤ (jl s ws).length := by
  intro ws
  induction ws with
  | nil => exact ⟨Nat.zero_le _, Nat.le_refl _⟩
  | cons v r ih =>
    cases r with
    | nil =>
      refine ⟨?_, ?_⟩
      · show v.length ≤ [v.length].sum + 1 * s.length
        simp
      · show [v.length].sum ≤ v.length
        exact Nat.le_of_eq (by simp)
    | cons v2 r =>
      have e : jl s (v :: v2 :: r) = v ++ s ++ jl s (v2 :: r) := rfl
      rw [e, List.length_append, List.length_append, List.map_cons, List.sum_cons, List.length_cons, Nat.add_mul]
      omega
theorem sum_cps (ws : List Str) : ((ws.map cps).map List.length).sum = (ws.map (·.length)).sum := by
  rw [List.map_map]
  exact congrArg List.sum (List.map_congr_left fun y _ => cps_len y)
theorem join_sz (s : Str) (ws : List Str) : (Txt.join s ws).length ≤ (ws.map (·.length)).sum + ws.length * s.length := by
  have := (jl_bounds (s := cps s) (ws := ws.map cps)).1
  rw [← cps_joinL, cps_len, sum_cps, List.length_map, cps_len] at this
  exact this
theorem split_sum (z s : Str) : ((Txt.split z s).map (·.length)).sum ≤ z.length := by
  have := (jl_bounds (s := cps s) (ws := (Txt.split z s).map cps)).2
  rw [← cps_joinL, join_back, cps_len, sum_cps] at this
  exact this
theorem sum_set {ws : List Str} {i : Nat} {x : Str} : ((ws.set i x).map (·.length)).sum ≤ (ws.map (·.length)).sum + x.length := by
  induction ws generalizing i with
  | nil => exact Nat.zero_le _
  | cons a r ih =>
    cases i with
    | zero => simp only [List.set_cons_zero, List.map_cons, List.sum_cons]; omega
    | succ i => simp only [List.set_cons_succ, List.map_cons, List.sum_cons]; have := ih (i := i); omega
theorem sum_set_eq {ws : List Str} {i : Nat} {x : Str} (h : i < ws.length) : ((ws.set i x).map (·.length)).sum + (ws.getD i "").length = (ws.map (·.length)).sum + x.length := by
  induction ws generalizing i with
  | nil => exact absurd h (Nat.not_lt_zero _)
  | cons a r ih =>
    cases i with
    | zero => simp only [List.set_cons_zero, List.map_cons, List.sum_cons, List.getD_cons_zero]; omega
    | succ i => simp only [List.set_cons_succ, List.map_cons, List.sum_cons, List.getD_cons_succ]; have := ih (i := i) (by simpa using h); omega
theorem ix_nn {n : Nat} {i : Int} (h0 : 0 ≤ i) (h1 : i < (n : Int)) : ixN n i = some i.toNat := by unfold ixN; rw [if_pos h0, if_pos h1]
theorem ix_last {n : Nat} (h : 0 < n) : ixN n (-1) = some (n - 1) := by
  unfold ixN
  rw [if_neg (by decide), if_pos (by omega)]
  congr 1; omega
theorem at_last {ws : List Str} (h : 0 < ws.length) : atI (ws.map V.str) (-1) = some (.str (ws.getD (ws.length - 1) "")) := by
  unfold atI
  rw [List.length_map, ix_last h]
  show (ws.map V.str)[ws.length - 1]? = _
  rw [List.getElem?_map, List.getElem?_eq_getElem (by omega), List.getD_eq_getElem?_getD, List.getElem?_eq_getElem (by omega)]
  rfl
noncomputable abbrev fiveW : List Str := ["-", "=>", "none", ";", ""]
noncomputable abbrev sgA : Str := " !\"#$&'()*+,-./0123456789:;<=>?@ABCDEFGHIJKLMNOPQRSTUVWXYZ[\\]^_`"
noncomputable abbrev sgB : Str := "abcdefghijklmnopqrstuvwxyz{|}~"
noncomputable abbrev sgC : Str := " abcxyz-=>;,NA1on"
theorem sg_len : 1 ≤ (sgA ++ sgB).length ∧ (sgA ++ sgB).length ≤ 200 := ⟨by decide +kernel, by decide +kernel⟩
noncomputable abbrev n_L_bent : List Str := ["_law_text", "_law_pile_here", "_law_names_here", "_law_signs", "_law_at", "_law_sign", "_law_kind", "_law_far", "_law_swapped", "_law_words"]
theorem sc_L_bent : FnScope n_L_bent ["_law_text", "_law_pile_here", "_law_names_here"] (defScope s_L_bent) := ⟨rfl, rfl, rfl, by decide +kernel, rfl, by decide +kernel, by decide +kernel⟩
set_option maxHeartbeats 8000000 in
theorem ok_L_bent (F : Fun K "_law_bent" "_law_bent" s_L_bent f fd) (b : Binds K fd ["_law_text", "_law_pile_here", "_law_names_here"] []) (m : mg "_law_bent" = some (.ref f)) (M_len : mg "len" = none) (G_L_take : Dfn P w K mg base k "_law_take" ["_law_pile_here", "_law_many"] spTake) : Dfn P w K mg base (k + 1) "_law_bent" ["_law_text", "_law_pile_here", "_law_names_here"] spBent := by
  refine .of F b m sc_L_bent (fun vs H Q E h => ?_) (fun cdv A outer s H vs Q E hr h => ?_)
  · obtain ⟨z, p, n, nm, x, y, u, rfl, pn, hp, hn, ok, hz, q⟩ := h; rfl
  obtain ⟨z, p, n, nm, x, y, u, rfl, pn, hp, hn, ok, hz, q⟩ := h
  have nd := sc_L_bent.nd
  have le := Nat.le_refl k
  refine ⟨_, pss_cons (ps_set (i := 3) nd rfl (Or.inl rfl) pe_str)
    (pss_cons (ps_set (i := 3) nd rfl (Or.inl rfl) (pe_ix ix_list (pe_lst (pa_cons (pe_op op_catS (pv 3) pe_str) (pa_cons pe_str pa_nil))) (pe_def G_L_take hr le rfl (pa_cons (pv 1) (pa_cons pe_int pa_nil))) (fun _ _ => rfl)))
    (pss_cons (ps_set (i := 4) nd rfl (Or.inl rfl) (pe_def G_L_take hr le rfl (pa_cons (pv 1) (pa_cons (pe_op op_add (pe_callB call_len_str (by rfl) M_len PySem.boot_len (pa_cons (pv 0) pa_nil)) pe_int) pa_nil))))
    (pss_cons (ps_set (i := 5) nd rfl (Or.inl rfl) (pe_ix ix_str (pv 3) (pe_def G_L_take hr le rfl (pa_cons (pv 1) (pa_cons (pe_callB call_len_str (by rfl) M_len PySem.boot_len (pa_cons (pv 3) pa_nil)) pa_nil))) (fun _ _ => rfl)))
    (pss_cons (ps_set (i := 6) nd rfl (Or.inl rfl) (pe_def G_L_take hr le rfl (pa_cons (pv 1) (pa_cons pe_int pa_nil))))
    (pss_cons (ps_if (pt_cmpR op_lt (pv 6) pe_int (nomark _)) (pss_one (ps_ret (pe_ix ix_list (pe_lst (pa_cons (pe_op op_catS (pe_op op_catS (pe_slice sl_S (pv 0) po_none (po_some (pv 4))) (pv 5)) (pe_slice sl_S (pv 0) (po_some (pv 4)) po_none)) (pa_cons (pe_op op_catS (pe_slice sl_S (pv 0) po_none (po_some (pv 4))) (pe_slice sl_S (pv 0) (po_some (pe_op op_add (pv 4) pe_int)) po_none)) (pa_cons (pe_op op_catS (pe_op op_catS (pe_slice sl_S (pv 0) po_none (po_some (pv 4))) (pv 5)) (pe_slice sl_S (pv 0) (po_some (pe_op op_add (pv 4) pe_int)) po_none)) pa_nil)))) (pv 6) (fun _ _ => rfl)))) pss_nil)
    (pss_cons (ps_set (i := 7) nd rfl (Or.inl rfl) (pe_op op_add (pe_op op_add (pv 4) pe_int) (pe_def G_L_take hr le rfl (pa_cons (pv 1) (pa_cons pe_int pa_nil)))))
    (pss_cons (ps_if (pt_cmpR op_eq (pv 6) pe_int (nomark _)) (pss_cons (ps_set (i := 8) nd rfl (Or.inl rfl) (pe_op op_catS (pe_slice sl_S (pv 0) (po_some (pe_op op_add (pv 4) pe_int)) (po_some (pe_op op_add (pv 4) pe_int))) (pe_slice sl_S (pv 0) (po_some (pv 4)) (po_some (pe_op op_add (pv 4) pe_int)))))
      (pss_one (ps_ret (pe_op op_catS (pe_op op_catS (pe_slice sl_S (pv 0) po_none (po_some (pv 4))) (pv 8)) (pe_slice sl_S (pv 0) (po_some (pe_op op_add (pv 4) pe_int)) po_none))))) pss_nil)
    (pss_cons (ps_if (pt_cmpR op_eq (pv 6) pe_int (nomark _)) (pss_one (ps_ret (pe_op op_catS (pe_slice sl_S (pv 0) po_none (po_some (pv 7))) (pe_slice sl_S (pv 0) (po_some (pv 4)) po_none)))) pss_nil)
    (pss_cons (ps_if (pt_cmpR op_eq (pv 6) pe_int (nomark _)) (pss_one (ps_ret (pe_op op_catS (pe_slice sl_S (pv 0) po_none (po_some (pv 4))) (pe_slice sl_S (pv 0) (po_some (pv 7)) po_none)))) pss_nil)
    (pss_cons (ps_set (i := 9) nd rfl (Or.inl rfl) (pe_bm PySem.F.plainAttrs_str PySem.F.slot_str_split PySem.F.type_str_split mt_split (pv 0) (pa_cons pe_str pa_nil)))
    (pss_cons (ps_set (i := 4) nd rfl (Or.inl rfl) (pe_op op_mod (pv 4) (pe_callB call_len_seq (by rfl) M_len PySem.boot_len (pa_cons (pv 9) pa_nil))))
    (pss_mid (ps_if (pt_cmpR op_eq (pv 6) pe_int (nomark _)) (pss_one (ps_asg (pe_ix ix_list (pe_op op_cat (pv 2) (pe_lst (pa_cons pe_str (pa_cons pe_str (pa_cons pe_str (pa_cons pe_str (pa_cons pe_str pa_nil))))))) (pe_op op_mod (pv 7) (pe_op op_add (pe_callB call_len_seq (by rfl) M_len PySem.boot_len (pa_cons (pv 2) pa_nil)) pe_int)) (fun _ _ => rfl)) (pg_sub (pv 9) (pv 4) set_list))) (pss_one (ps_asg (pe_tup (pa_cons (pe_ix ix_list (pv 9) (pe_un un_neg pe_int) (fun _ _ => rfl)) (pa_cons (pe_ix ix_list (pv 9) (pv 4) (fun _ _ => rfl)) pa_nil))) (pg_tupK (n := 2) K rfl rfl (pgs_cons (pg_sub (pv 9) (pv 4) set_list) (pgs_cons (pg_sub (pv 9) (pe_un un_neg pe_int) set_list) pgs_nil))))))
    (pss_one (ps_ret (pe_bm PySem.F.plainAttrs_str PySem.F.slot_str_join PySem.F.type_str_join mt_join pe_str (pa_cons (pv 9) pa_nil)))))))))))))))), ?_⟩
  have hn12 := ok.hi
  have hn1 := ok.lo
  try dsimp only [gName]
  refine ⟨_, rfl, _, _, rfl, rfl, (by decide +kernel), (by show 2 ≤ sizeLine; decide), fun dl hdl => ?_⟩
  have S1 := same_new hdl (.lst [.str (sgA ++ sgB), .str sgC])
  have hd1 : upd H dl (.lst [.str (sgA ++ sgB), .str sgC]) dl = some (.lst [.str (sgA ++ sgB), .str sgC]) := upd_same
  have hp1 := S1 _ _ hp
  have dp : dl ≠ p := fun e => by rw [e, hp] at hdl; cases hdl
  have pick : ∀ e : Int, 0 ≤ e → e < 2 → 1 ≤ ([sgA ++ sgB, sgC].getD e.toNat "").length ∧ ([sgA ++ sgB, sgC].getD e.toNat "").length ≤ 200 := fun e e0 e1 => by
    rcases (by omega : e.toNat = 0 ∨ e.toNat = 1) with w | w
    · rw [w]; exact sg_len
    · rw [w]; exact ⟨by decide +kernel, by decide +kernel⟩
  generalize upd H dl (.lst [.str (sgA ++ sgB), .str sgC]) = H1 at S1 hd1 hp1
  refine ⟨_, rfl, p, 2, x, y, u, rfl, by decide, by decide, hp1, fun e x2 y2 w2 H2 e0 e1 SB2 hp2 => ⟨dl, _, _, _, rfl, rfl, SqL.of (show H2 dl = some (.lst ([sgA ++ sgB, sgC].map V.str)) from SB2 _ _ dp hd1), atS_map (nm := [sgA ++ sgB, sgC]) e0 (by simpa using e1), ?_⟩⟩
  obtain ⟨g1, g2⟩ := pick e e0 e1
  generalize [sgA ++ sgB, sgC].getD e.toNat "" = sg at g1 g2 ⊢
  have SB02 : SameB p H H2 := S1.b.trans SB2
  try dsimp only [gName]
  refine ⟨_, rfl, _, rfl, z, rfl, sz_of (n := 20000) hz (by decide), _, _, rfl, rfl, p, _, x2, y2, w2, rfl, by omega, by omega, hp2, fun at_ x3 y3 w3 H3 a0 a1 SB3 hp3 => ?_⟩
  have SB03 := SB02.trans SB3
  try dsimp only [gName]
  refine ⟨_, rfl, _, rfl, _, rfl, sg, rfl, sz_of (n := 200) g2 (by decide), p, _, x3, y3, w3, rfl, by omega, by omega, hp3, fun s4 x4 y4 w4 H4 b0 b1 SB4 hp4 => ?_⟩
  obtain ⟨ch, hch⟩ := at_any b0 b1
  refine ⟨sg, s4, ch, rfl, rfl, sz_of (n := 200) g2 (by decide), hch, ?_⟩
  have SB04 := SB03.trans SB4
  try dsimp only [gName]
  refine ⟨_, rfl, p, 8, x4, y4, w4, rfl, by decide, by decide, hp4, fun kd x5 y5 w5 H5 k0 k1 SB5 hp5 => ?_⟩
  have SB05 := SB04.trans SB5
  try dsimp only [gName]
  have zs : ∀ lo hi : Option Int, (Txt.slice z lo hi).length ≤ z.length := fun lo hi => Txt.slice_le _ _ _
  have z20 : z.length ≤ sizeLine := sz_of (n := 20000) hz (by decide)
  have c1 : (⟨#[ch]⟩ : Str).length = 1 := rfl
  generalize (⟨#[ch]⟩ : Str) = sg1 at c1 ⊢
  refine seq_if (b := decide (kd < 3)) (.pure fun Q h => ⟨_, rfl, _, _, rfl, rfl, _, rfl, h⟩) fun H6 S6 => ?_
  have SB06 := SB05.trans S6.b
  have hp6 := S6 _ _ hp5
  refine ite2 (fun ck => ?_) (fun ck => ?_)
  · have ck := of_decide_eq_true ck
    have a1 := zs none (some at_)
    have a2 := zs (some at_) none
    have a3 := zs (some (at_ + 1)) none
    have l1 : (Txt.slice z none (some at_) ++ sg1).length ≤ z.length + 1 := by rw [app_len, c1]; omega
    have l2 : (Txt.slice z none (some at_) ++ sg1 ++ Txt.slice z (some at_) none).length ≤ 2 * z.length + 1 := by rw [app_len]; omega
    have l3 : (Txt.slice z none (some at_) ++ Txt.slice z (some (at_ + 1)) none).length ≤ 2 * z.length := by rw [app_len]; omega
    have l4 : (Txt.slice z none (some at_) ++ sg1 ++ Txt.slice z (some (at_ + 1)) none).length ≤ 2 * z.length + 1 := by rw [app_len]; omega
    have fit : ∀ {s : Str}, s.length ≤ 2 * z.length + 1 → s.length ≤ sizeLine := fun h => sz_of (n := 60000) (by omega) (by decide)
    refine ⟨_, rfl, _, rfl, _, rfl, z, rfl, z20, _, rfl, _, _, rfl, rfl, fit (by omega), _, rfl, _, rfl, _, rfl, z, rfl, z20, _, _, rfl, rfl, fit l2, ?_⟩
    refine ⟨_, rfl, _, rfl, _, rfl, z, rfl, z20, _, rfl, _, rfl, _, _, rfl, rfl, _, rfl, z, rfl, z20, _, _, rfl, rfl, fit (by omega), ?_⟩
    refine ⟨_, rfl, _, rfl, _, rfl, z, rfl, z20, _, rfl, _, _, rfl, rfl, fit (by omega), _, rfl, _, rfl, _, _, rfl, rfl, _, rfl, z, rfl, z20, _, _, rfl, rfl, fit l4, ?_⟩
    refine ⟨(by show 3 ≤ sizeLine; decide), fun rl hrl => ?_⟩
    have Sr := same_new hrl (.lst [.str (Txt.slice z none (some at_) ++ sg1 ++ Txt.slice z (some at_) none), .str (Txt.slice z none (some at_) ++ Txt.slice z (some (at_ + 1)) none), .str (Txt.slice z none (some at_) ++ sg1 ++ Txt.slice z (some (at_ + 1)) none)])
    refine ⟨_, rfl, rl, _, _, _, rfl, rfl, SqL.of (show upd H6 rl (.lst [.str (Txt.slice z none (some at_) ++ sg1 ++ Txt.slice z (some at_) none), .str (Txt.slice z none (some at_) ++ Txt.slice z (some (at_ + 1)) none), .str (Txt.slice z none (some at_) ++ sg1 ++ Txt.slice z (some (at_ + 1)) none)]) rl = some (.lst ([Txt.slice z none (some at_) ++ sg1 ++ Txt.slice z (some at_) none, Txt.slice z none (some at_) ++ Txt.slice z (some (at_ + 1)) none, Txt.slice z none (some at_) ++ sg1 ++ Txt.slice z (some (at_ + 1)) none].map V.str)) from upd_same), atS_map k0 (by simpa using ck), ?_⟩
    refine q _ x5 y5 w5 _ (SB06.trans Sr.b) (Sr _ _ hp6) ?_
    rcases (by omega : kd.toNat = 0 ∨ kd.toNat = 1 ∨ kd.toNat = 2) with e | e | e
    · rw [e]; show (Txt.slice z none (some at_) ++ sg1 ++ Txt.slice z (some at_) none).length ≤ _; omega
    · rw [e]; show (Txt.slice z none (some at_) ++ Txt.slice z (some (at_ + 1)) none).length ≤ _; omega
    · rw [e]; show (Txt.slice z none (some at_) ++ sg1 ++ Txt.slice z (some (at_ + 1)) none).length ≤ _; omega
  try dsimp only [tNext]
  refine ⟨_, rfl, _, _, rfl, rfl, _, rfl, p, 8, x5, y5, w5, rfl, by decide, by decide, hp6, fun fd x7 y7 w7 H7 f0 f1 SB7 hp7 => ⟨_, _, rfl, rfl, ?_⟩⟩
  have SB07 := SB06.trans SB7
  try dsimp only [gName]
  have fit : ∀ {s : Str}, s.length ≤ 4 * z.length + 100 → s.length ≤ sizeLine := fun h => sz_of (n := 90000) (by omega) (by decide)
  refine seq_if (b := decide (V.int kd = V.int 3)) (.pure fun Q h => ⟨_, rfl, rfl, _, rfl, h⟩) fun H8 S8 => ?_
  have SB08 := SB07.trans S8.b
  have hp8 := S8 _ _ hp7
  refine ite2 (fun _ => ?_) (fun _ => ?_)
  · have a1 := zs (some (at_ + 1)) (some (at_ + 2))
    have a2 := zs (some at_) (some (at_ + 1))
    have a3 := zs none (some at_)
    have a4 := zs (some (at_ + 2)) none
    have l1 : (Txt.slice z (some (at_ + 1)) (some (at_ + 2)) ++ Txt.slice z (some at_) (some (at_ + 1))).length ≤ 2 * z.length := by rw [app_len]; omega
    refine ⟨_, rfl, _, rfl, _, _, rfl, rfl, _, rfl, _, rfl, _, _, rfl, rfl, _, rfl, z, rfl, z20, ?_⟩
    refine ⟨_, rfl, _, rfl, _, rfl, _, rfl, _, _, rfl, rfl, _, rfl, z, rfl, z20, _, _, rfl, rfl, fit (by omega), ?_⟩
    generalize Txt.slice z (some (at_ + 1)) (some (at_ + 2)) ++ Txt.slice z (some at_) (some (at_ + 1)) = sw at l1 ⊢
    have l2 : (Txt.slice z none (some at_) ++ sw).length ≤ 3 * z.length := by rw [app_len]; omega
    have l3 : (Txt.slice z none (some at_) ++ sw ++ Txt.slice z (some (at_ + 2)) none).length ≤ 4 * z.length := by rw [app_len]; omega
    try dsimp only [gName]
    refine ⟨_, rfl, _, rfl, _, rfl, z, rfl, z20, _, rfl, _, _, rfl, rfl, fit (by omega), _, rfl, _, rfl, _, _, rfl, rfl, _, rfl, z, rfl, z20, _, _, rfl, rfl, fit (by omega), ?_⟩
    exact q _ _ _ _ _ SB08 hp8 (by omega)
  try dsimp only [tNext]
  refine seq_if (b := decide (V.int kd = V.int 4)) (.pure fun Q h => ⟨_, rfl, rfl, _, rfl, h⟩) fun H9 S9 => ?_
  have SB09 := SB08.trans S9.b
  have hp9 := S9 _ _ hp8
  refine ite2 (fun _ => ?_) (fun _ => ?_)
  · have a1 := zs none (some (at_ + 1 + fd))
    have a2 := zs (some at_) none
    have l1 : (Txt.slice z none (some (at_ + 1 + fd)) ++ Txt.slice z (some at_) none).length ≤ 2 * z.length := by rw [app_len]; omega
    refine ⟨_, rfl, _, rfl, _, rfl, z, rfl, z20, _, rfl, _, rfl, _, rfl, z, rfl, z20, _, _, rfl, rfl, fit (by omega), ?_⟩
    exact q _ _ _ _ _ SB09 hp9 (by omega)
  try dsimp only [tNext]
  refine seq_if (b := decide (V.int kd = V.int 5)) (.pure fun Q h => ⟨_, rfl, rfl, _, rfl, h⟩) fun H10 S10 => ?_
  have SB010 := SB09.trans S10.b
  have hp10 := S10 _ _ hp9
  refine ite2 (fun _ => ?_) (fun _ => ?_)
  · have a1 := zs none (some at_)
    have a2 := zs (some (at_ + 1 + fd)) none
    have l1 : (Txt.slice z none (some at_) ++ Txt.slice z (some (at_ + 1 + fd)) none).length ≤ 2 * z.length := by rw [app_len]; omega
    refine ⟨_, rfl, _, rfl, _, rfl, z, rfl, z20, _, rfl, _, rfl, _, rfl, z, rfl, z20, _, _, rfl, rfl, fit (by omega), ?_⟩
    exact q _ _ _ _ _ SB010 hp10 (by omega)
  try dsimp only [tNext]
  have hn10 := SB010 _ _ pn.symm hn
  refine ⟨_, rfl, rfl, z, spc, rfl, rfl, (by decide +kernel), sz_of (n := 20002) (by omega) (by decide), fun wl hwl => ?_⟩
  have Sw := same_new hwl (.lst ((Txt.split z spc).map V.str))
  have hw11 : upd H10 wl (.lst ((Txt.split z spc).map V.str)) wl = some (.lst ((Txt.split z spc).map V.str)) := upd_same
  have few := split_few z spc
  have sm := split_sum z spc
  have wne := split_ne z spc
  have wp : wl ≠ p := fun e => by rw [e, hp10] at hwl; cases hwl
  have wn : wl ≠ n := fun e => by rw [e, hn10] at hwl; cases hwl
  have hp11 := Sw _ _ hp10
  have hn11 := Sw _ _ hn10
  have SB011 := SB010.trans Sw.b
  have hwl0 : ∀ {o : HO}, H wl = some o → False := fun e => by have := SB010 _ _ wp e; rw [hwl] at this; cases this
  generalize upd H10 wl (.lst ((Txt.split z spc).map V.str)) = H11 at SB011 hw11 hp11 hn11 ⊢
  generalize Txt.split z spc = ws at hw11 few sm wne
  have wpos : 0 < ws.length := List.length_pos_iff.mpr wne
  have s1 : spc.length = 1 := by decide +kernel
  try dsimp only [gName]
  refine ⟨_, rfl, _, rfl, wl, _, rfl, .inl (SqL.of hw11), _, _, rfl, rfl, by rw [List.length_map]; omega, ?_⟩
  have m0 : 0 ≤ at_ % (((ws.map V.str).length : Nat) : Int) := Int.emod_nonneg _ (by rw [List.length_map]; omega)
  have m1 : at_ % (((ws.map V.str).length : Nat) : Int) < (ws.length : Int) := by rw [List.length_map]; exact Int.emod_lt_of_pos _ (by omega)
  try dsimp only [gName]
  generalize at_ % (((ws.map V.str).length : Nat) : Int) = av at m0 m1 ⊢
  have done : ∀ (ws' : List Str) (H' : Hp), SameB p H H' → H' p = some (.lst [.int x7, .int y7, .int w7]) → H' wl = some (.lst (ws'.map V.str)) → ws'.length = ws.length → (ws'.map (·.length)).sum ≤ z.length + 9 →
      rJoin K (.str spc) [.ref wl] H' Q := fun ws' H' SB hp' hw' hl hs => by
    have js := join_sz spc ws'
    rw [s1] at js
    exact ⟨spc, wl, ws', rfl, rfl, SqL.of hw', by rw [s1]; omega, q _ _ _ _ _ SB hp' (by omega)⟩
  have big : (600 : Nat) < sizeLine := by decide
  refine ⟨fun σ H' => ∃ ws' : List Str, σ.length = 10 ∧ σ[9]? = some (some (.ref wl)) ∧ SameB p H H' ∧ H' p = some (.lst [.int x7, .int y7, .int w7]) ∧ H' wl = some (.lst (ws'.map V.str)) ∧ ws'.length = ws.length ∧ (ws'.map (·.length)).sum ≤ z.length + 9, ?_, fun σ H' h => ?_⟩
  · refine one_if (b := decide (V.int kd = V.int 6)) (.pure fun Q h => ⟨_, rfl, rfl, _, rfl, h⟩) fun H12 S12 => ?_
    have SB012 := SB011.trans S12.b
    have hp12 := S12 _ _ hp11
    have hn12' := S12 _ _ hn11
    have hw12 := S12 _ _ hw11
    refine ite2 (fun _ => ?_) (fun _ => ?_)
    · refine ⟨_, rfl, (by show 5 ≤ sizeLine; decide), fun cl hcl => ?_⟩
      have Sc := same_new hcl (.lst [.str "-", .str "=>", .str "none", .str ";", .str ""])
      have hc13 : upd H12 cl (.lst [.str "-", .str "=>", .str "none", .str ";", .str ""]) cl = some (.lst (fiveW.map V.str)) := upd_same
      have hn13 := Sc _ _ hn12'
      have hp13 := Sc _ _ hp12
      have hw13 := Sc _ _ hw12
      have SB013 := SB012.trans Sc.b
      generalize upd H12 cl (.lst [.str "-", .str "=>", .str "none", .str ";", .str ""]) = H13 at SB013 hc13 hn13 hp13 hw13 ⊢
      refine ⟨n, cl, _, _, rfl, rfl, hn13, hc13, by rw [List.length_map, List.length_map]; show nm.length + 5 ≤ _; omega, fun rl hrl => ?_⟩
      have Sr := same_new hrl (.lst (nm.map V.str ++ fiveW.map V.str))
      have hr14 : upd H13 rl (.lst (nm.map V.str ++ fiveW.map V.str)) rl = some (.lst ((nm ++ fiveW).map V.str)) := by rw [upd_same, List.map_append]
      have hn14 := Sr _ _ hn13
      have hp14 := Sr _ _ hp13
      have hw14 := Sr _ _ hw13
      have SB014 := SB013.trans Sr.b
      generalize upd H13 rl (.lst (nm.map V.str ++ fiveW.map V.str)) = H14 at SB014 hr14 hn14 hp14 hw14 ⊢
      have rw' : wl ≠ p := wp
      refine ⟨_, rfl, _, rfl, n, _, rfl, .inl (SqL.of hn14), _, _, rfl, rfl, _, _, rfl, rfl, by rw [List.length_map]; omega, ?_⟩
      have i0 : 0 ≤ (at_ + 1 + fd) % ((((nm.map V.str).length : Nat) : Int) + 5) := Int.emod_nonneg _ (by omega)
      have i1 : (at_ + 1 + fd) % ((((nm.map V.str).length : Nat) : Int) + 5) < (((nm ++ fiveW).length : Nat) : Int) := by
        have := Int.emod_lt_of_pos (at_ + 1 + fd) (show (0 : Int) < (((nm.map V.str).length : Nat) : Int) + 5 by omega)
        rw [List.length_map] at this ⊢
        rw [List.length_append]
        show _ < ((nm.length + 5 : Nat) : Int)
        omega
      have hx : ((nm ++ fiveW).getD ((at_ + 1 + fd) % ((((nm.map V.str).length : Nat) : Int) + 5)).toNat "").length ≤ 9 := by
        have hm : (nm ++ fiveW).getD ((at_ + 1 + fd) % ((((nm.map V.str).length : Nat) : Int) + 5)).toNat "" ∈ nm ++ fiveW := getD_nm (by omega)
        generalize (nm ++ fiveW).getD ((at_ + 1 + fd) % ((((nm.map V.str).length : Nat) : Int) + 5)).toNat "" = xx at hm ⊢
        rcases List.mem_append.mp hm with h | h
        · exact name_le ok h
        · have : ∀ s ∈ fiveW, s.length ≤ 9 := by decide +kernel
          exact this _ h
      refine ⟨rl, _, _, _, rfl, rfl, SqL.of hr14, atS_map i0 i1, ?_⟩
      refine ⟨_, rfl, _, rfl, wl, _, _, _, rfl, rfl, hw14, ix_nn m0 (by rw [List.length_map]; exact m1), ?_⟩
      have hs := sum_set (ws := ws) (i := av.toNat) (x := (nm ++ fiveW).getD ((at_ + 1 + fd) % ((((nm.map V.str).length : Nat) : Int) + 5)).toNat "")
      exact ⟨ws.set av.toNat ((nm ++ fiveW).getD ((at_ + 1 + fd) % ((((nm.map V.str).length : Nat) : Int) + 5)).toNat ""), rfl, rfl, fun c o hc ho => by rw [upd_ne (fun e => hwl0 (e ▸ ho))]; exact SB014 _ _ hc ho, by rw [upd_ne (Ne.symm wp)]; exact hp14, upd_same.trans (by rw [List.map_set]), List.length_set, by omega⟩
    · have hl0 : (((ws.map V.str)).length) = ws.length := List.length_map ..
      have jv : av.toNat < ws.length := by omega
      refine ⟨_, rfl, _, rfl, wl, _, _, _, rfl, rfl, SqL.of hw12, at_last wpos, _, rfl, _, rfl, wl, _, _, _, rfl, rfl, SqL.of hw12, atS_map m0 m1, (by show 2 ≤ sizeLine; decide), fun tl htl => ?_⟩
      have St := same_new htl (.tup [.str (ws.getD (ws.length - 1) ""), .str (ws.getD av.toNat "")])
      have hp13 := St _ _ hp12
      have hw13 := St _ _ hw12
      have SB013 := SB012.trans St.b
      refine ⟨tl, _, rfl, SqT.of upd_same, rfl, _, _, rfl, ?_⟩
      generalize upd H12 tl (.tup [.str (ws.getD (ws.length - 1) ""), .str (ws.getD av.toNat "")]) = H13 at SB013 hp13 hw13 ⊢
      refine ⟨_, rfl, _, rfl, wl, _, _, _, rfl, rfl, hw13, ix_nn m0 (by rw [List.length_map]; exact m1), ?_⟩
      have e1 := sum_set_eq (ws := ws) (i := av.toNat) (x := ws.getD (ws.length - 1) "") jv
      have el : (ws.set av.toNat (ws.getD (ws.length - 1) "")).length = ws.length := List.length_set
      have e2 := sum_set_eq (ws := ws.set av.toNat (ws.getD (ws.length - 1) "")) (i := ws.length - 1) (x := ws.getD av.toNat "") (by omega)
      have e3 : (ws.set av.toNat (ws.getD (ws.length - 1) "")).getD (ws.length - 1) "" = ws.getD (ws.length - 1) "" := by
        rw [List.getD_eq_getElem?_getD, List.getElem?_set]
        by_cases c : av.toNat = ws.length - 1
        · rw [if_pos c, if_pos (by omega)]; rfl
        · rw [if_neg c, ← List.getD_eq_getElem?_getD]
      rw [e3] at e2
      have hlen : (((ws.map V.str).set av.toNat (.str (ws.getD (ws.length - 1) ""))).length) = ws.length := by rw [List.length_set, List.length_map]
      refine ⟨_, _, rfl, _, rfl, _, rfl, wl, _, _, _, rfl, rfl, upd_same, ix_last (by omega), ?_⟩
      refine ⟨rfl, (ws.set av.toNat (ws.getD (ws.length - 1) "")).set (ws.length - 1) (ws.getD av.toNat ""), rfl, rfl, fun c o hc ho => ?_, ?_, upd_same.trans (by rw [hlen, List.map_set, List.map_set]), List.length_set.trans el, by omega⟩
      · rw [upd_ne (fun e => hwl0 (e ▸ ho)), upd_ne (fun e => hwl0 (e ▸ ho))]; exact SB013 _ _ hc ho
      · rw [upd_ne (Ne.symm wp), upd_ne (Ne.symm wp)]; exact hp13
  · obtain ⟨ws', e1, e2, SB, hp', hw', hl, hs⟩ := h
    exact ⟨rfl, _, e2, done ws' H' SB hp' hw' hl hs⟩

end
end OL.Q39

namespace OL.Q39
open PySem L2 OL
section
variable {P : Program} {w : World} {K : PySem.W.Frag} {mg : Str → Option Value} {base : Heap} {f : Addr} {fd : FuncData} {k : Nat}
open OL.K39
theorem up_one : ∀ c : Nat, letter c → (Unicode.upperOf c).length = 1 := by
  have h : ∀ k : Fin 26, (Unicode.upperOf (97 + k.val)).length = 1 := by decide +kernel
  intro c hc
  unfold letter at hc
  have := h ⟨c - 97, by omega⟩
  rwa [show 97 + (c - 97) = c by omega] at this
theorem up_len {z : Str} (h : ∀ c ∈ cps z, letter c) : (Txt.upper z).length = z.length := by
  show ((z.cps.mapIdx fun _ c => (Unicode.upperOf c).toArray).flatten).size = z.cps.size
  rw [Array.size_flatten]
  have e : (Array.map Array.size (z.cps.mapIdx fun _ c => (Unicode.upperOf c).toArray)).toList = List.replicate z.cps.size 1 := by
    apply List.ext_getElem
    · simp
    · intro i h1 h2
      simp only [Array.getElem_toList, Array.getElem_map, Array.getElem_mapIdx, List.getElem_replicate, List.size_toArray]
      refine up_one _ (h _ ?_)
      unfold cps
      exact Array.mem_toList_iff.mpr (Array.getElem_mem _)
  rw [← Array.sum_toList, e]
  simp
theorem odd_consts : ("" : Str).length = 0 ∧ (" " : Str).length = 1 ∧ ("  " : Str).length = 2 ∧ (" -" : Str).length = 2 ∧ ("- " : Str).length = 2 ∧ (" => " : Str).length = 4 ∧ (" => - => -" : Str).length = 10 ∧ ("; " : Str).length = 2 ∧ (";" : Str).length = 1 ∧ ("; none" : Str).length = 6 ∧
    (" =>  -" : Str).length = 6 ∧ ("; -; " : Str).length = 5 ∧ (" => none" : Str).length = 8 ∧ ("-=>-" : Str).length = 4 ∧ ("zzzzzzzzz" : Str).length = 9 := by decide +kernel
noncomputable def TL (xs : List V) : Prop := ∀ x ∈ xs, ∃ s : Str, x = .str s ∧ s.length ≤ 200
theorem TL.app {xs ys : List V} (h : TL xs) (h' : TL ys) : TL (xs ++ ys) := fun x hx => (List.mem_append.mp hx).elim (h x) (h' x)
theorem TL.strs : ∀ {xs : List V}, TL xs → ∃ ss : List Str, xs = ss.map V.str ∧ ∀ s ∈ ss, s.length ≤ 200 := by
  intro xs
  induction xs with
  | nil => intro _; exact ⟨[], rfl, fun s h => nomatch h⟩
  | cons x r ih =>
    intro h
    obtain ⟨s, rfl, hs⟩ := h x List.mem_cons_self
    obtain ⟨ss, rfl, hr⟩ := ih fun y hy => h y (List.mem_cons_of_mem _ hy)
    exact ⟨s :: ss, rfl, List.forall_mem_cons.mpr ⟨hs, hr⟩⟩
theorem TL.nil : TL [] := fun x h => nomatch h
theorem TL.cons {s : Str} {xs : List V} (hs : s.length ≤ 200) (h : TL xs) : TL (.str s :: xs) := fun x hx => by
  rcases List.mem_cons.mp hx with rfl | hx
  · exact ⟨s, rfl, hs⟩
  · exact h x hx
noncomputable def strL (es : List Expr) : Bool := es.all fun e => match e with
  | .Constant (.str x) _ _ => decide (x.length ≤ 200)
  | _ => false
theorem pa_strs {X : Cx} {n : Nat} : ∀ {es : List Expr}, strL es = true → es.length = n → PA X es (fun _ H Q => ∀ vs : List V, vs.length = n → TL vs → Q vs H) := by
  intro es
  induction es generalizing n with
  | nil => intro _ hn pos pins s σ H Q I h; exact pa_nil pos pins s σ H Q I (h [] hn TL.nil)
  | cons e r ih =>
    intro h hn
    unfold strL at h
    rw [List.all_cons, Bool.and_eq_true] at h
    obtain ⟨h1, h2⟩ := h
    split at h1
    · rename_i x j pp
      have hx := of_decide_eq_true h1
      intro pos pins s σ H Q I hq
      exact pa_cons (pe_str (x := x) (j := j) (pos := pp)) (ih h2 rfl) rfl pos pins s σ H Q I fun vs hl tl => hq (.str x :: vs) (by rw [List.length_cons, hl, ← hn, List.length_cons]) (.cons hx tl)
    · cases h1
theorem getN {nm : List Str} (ok : NamesOk nm) {i : Nat} (h : i < nm.length) : (nm.getD i "").length ≤ 9 ∧ (∀ c ∈ cps (nm.getD i ""), letter c) := ⟨name_le ok (getD_nm h), (ok.ok _ (getD_nm h)).all⟩
theorem cat_gen {H1 : Hp} {l a : Addr} {vs ws : List V} {Q : VK} (h : H1 l = some (.lst vs)) (ha : H1 a = none) (tv : TL vs) (tw : TL ws) (hz : vs.length + ws.length ≤ 100)
    (k : ∀ r us H', TL us → us.length = vs.length + ws.length → Same H1 H' → H1 r = none → H' r = some (.lst us) → Q (.ref r) H') : rCat (.ref l) (.ref a) (upd H1 a (.lst ws)) Q := by
  have S := same_new ha (.lst ws)
  refine ⟨l, a, vs, ws, rfl, rfl, S _ _ h, upd_same, Nat.le_trans hz (by decide), fun p hp => ?_⟩
  exact k p _ _ (tv.app tw) (List.length_append ..) (S.trans (same_new hp _)) (S.free hp) upd_same
noncomputable abbrev n_L_odd : List Str := ["_law_names_here", "_law_one", "_law_last", "_law_some"]
theorem sc_L_odd : FnScope n_L_odd ["_law_names_here"] (defScope s_L_odd) := ⟨rfl, rfl, rfl, by decide +kernel, rfl, by decide +kernel, by decide +kernel⟩
set_option maxHeartbeats 1000000 in
theorem ok_L_odd (F : Fun K "_law_odd" "_law_odd" s_L_odd f fd) (b : Binds K fd ["_law_names_here"] []) (m : mg "_law_odd" = some (.ref f))   : Dfn P w K mg base (k + 1) "_law_odd" ["_law_names_here"] spOdd := by
  refine .of F b m sc_L_odd (fun vs H Q E h => ?_) (fun cdv A outer s H vs Q E hr h => ?_)
  · obtain ⟨n, nm, rfl, hn, ok, q⟩ := h; rfl
  obtain ⟨n, nm, rfl, hn, ok, q⟩ := h
  have nd := sc_L_odd.nd
  have h2 : PS (cxOf CX0 P w K mg base n_L_odd "_law_odd" (defScope s_L_odd) f cdv A outer s H E).nox ((defBody s_L_odd).getD 2 (.Pass ⟨0, 0, 0, 0⟩)) (tAsg (tLst (fun _ H Q => ∀ vs : List V, vs.length = 15 → TL vs → Q vs H)) (gName 3)) :=
    (ps_set (i := 3) nd rfl (Or.inl rfl) (pe_lst (pa_strs (by decide +kernel) (by decide +kernel))) : PS _ (.Assign [.Name _ _] (.List _ _) _) _)
  have h0 : PS (cxOf CX0 P w K mg base n_L_odd "_law_odd" (defScope s_L_odd) f cdv A outer s H E).nox ((defBody s_L_odd).getD 0 (.Pass ⟨0, 0, 0, 0⟩)) _ := (ps_set (i := 1) nd rfl (Or.inl rfl) (pe_ix ix_list (pv 0) pe_int (fun _ _ => rfl)))
  have h1 : PS (cxOf CX0 P w K mg base n_L_odd "_law_odd" (defScope s_L_odd) f cdv A outer s H E).nox ((defBody s_L_odd).getD 1 (.Pass ⟨0, 0, 0, 0⟩)) _ := (ps_set (i := 2) nd rfl (Or.inl rfl) (pe_ix ix_list (pv 0) (pe_un un_neg pe_int) (fun _ _ => rfl)))
  have h3 : PS (cxOf CX0 P w K mg base n_L_odd "_law_odd" (defScope s_L_odd) f cdv A outer s H E).nox ((defBody s_L_odd).getD 3 (.Pass ⟨0, 0, 0, 0⟩)) _ := (ps_set (i := 3) nd rfl (Or.inl rfl) (pe_op op_cat (pv 3) (pe_lst (pa_cons pe_str (pa_cons (pv 1) (pa_cons (pe_op op_catS (pv 1) pe_str) (pa_cons (pe_op op_catS pe_str (pv 1)) (pa_cons (pe_op op_catS (pe_op op_catS (pv 1) pe_str) (pv 1)) (pa_cons (pe_op op_catS (pe_op op_catS (pv 2) pe_str) (pv 1)) (pa_cons (pe_op op_catS (pe_op op_catS (pv 1) pe_str) (pv 2)) (pa_cons (pe_op op_catS (pv 1) pe_str) pa_nil)))))))))))
  have h4 : PS (cxOf CX0 P w K mg base n_L_odd "_law_odd" (defScope s_L_odd) f cdv A outer s H E).nox ((defBody s_L_odd).getD 4 (.Pass ⟨0, 0, 0, 0⟩)) _ := (ps_set (i := 3) nd rfl (Or.inl rfl) (pe_op op_cat (pv 3) (pe_lst (pa_cons (pe_op op_catS pe_str (pv 1)) (pa_cons (pe_op op_catS (pv 1) pe_str) (pa_cons (pe_op op_catS pe_str (pv 1)) (pa_cons (pe_op op_catS (pv 1) pe_str) (pa_cons (pe_op op_catS (pv 1) pe_str) (pa_cons (pe_op op_catS pe_str (pv 1)) (pa_cons (pe_op op_catS (pe_op op_catS (pv 1) pe_str) (pv 1)) pa_nil))))))))))
  have h5 : PS (cxOf CX0 P w K mg base n_L_odd "_law_odd" (defScope s_L_odd) f cdv A outer s H E).nox ((defBody s_L_odd).getD 5 (.Pass ⟨0, 0, 0, 0⟩)) _ := (ps_set (i := 3) nd rfl (Or.inl rfl) (pe_op op_cat (pv 3) (pe_lst (pa_cons (pe_op op_catS (pv 1) pe_str) (pa_cons (pe_op op_catS (pe_op op_catS (pv 1) pe_str) (pv 2)) (pa_cons (pe_op op_catS (pe_op op_catS (pv 1) pe_str) (pv 2)) (pa_cons (pe_op op_catS (pe_op op_catS (pe_op op_catS (pe_op op_catS (pv 1) pe_str) (pv 2)) pe_str) (pv 1)) pa_nil)))))))
  have h6 : PS (cxOf CX0 P w K mg base n_L_odd "_law_odd" (defScope s_L_odd) f cdv A outer s H E).nox ((defBody s_L_odd).getD 6 (.Pass ⟨0, 0, 0, 0⟩)) _ := (ps_ret (pe_op op_cat (pv 3) (pe_lst (pa_cons (pe_op op_catS (pv 1) pe_str) (pa_cons (pe_op op_catS (pe_op op_catS (pv 1) pe_str) (pv 1)) (pa_cons (pe_bm0 PySem.F.plainAttrs_str PySem.F.slot_str_upper PySem.F.type_str_upper mt_upper (pv 1)) (pa_cons (pe_op op_catS (pe_op op_catS (pv 1) pe_str) (pv 2)) (pa_cons pe_str (pa_cons (pe_op op_catS (pv 1) pe_str) pa_nil)))))))))
  have e7 : defBody s_L_odd = [((defBody s_L_odd).getD 0 (.Pass ⟨0, 0, 0, 0⟩)), ((defBody s_L_odd).getD 1 (.Pass ⟨0, 0, 0, 0⟩)), ((defBody s_L_odd).getD 2 (.Pass ⟨0, 0, 0, 0⟩)), ((defBody s_L_odd).getD 3 (.Pass ⟨0, 0, 0, 0⟩)), ((defBody s_L_odd).getD 4 (.Pass ⟨0, 0, 0, 0⟩)), ((defBody s_L_odd).getD 5 (.Pass ⟨0, 0, 0, 0⟩)), ((defBody s_L_odd).getD 6 (.Pass ⟨0, 0, 0, 0⟩))] := rfl
  rw [e7]
  generalize ((defBody s_L_odd).getD 2 (.Pass ⟨0, 0, 0, 0⟩)) = st2 at h2 ⊢
  refine ⟨_, (pss_cons h0 (pss_cons h1 (pss_cons h2 (pss_cons h3 (pss_cons h4 (pss_cons h5 (pss_one h6))))))), ?_⟩
  have noTerm : True := trivial 
  have hn12 := ok.hi
  have hn1 := ok.lo
  obtain ⟨c1, c2, c3, c4, c5, c6, c7, c8, c9, c10, c11, c12, c13, c14, c15⟩ := odd_consts
  refine ⟨_, rfl, n, _, _, _, rfl, rfl, SqL.of hn, atS_map (by decide) (by omega), ?_⟩
  obtain ⟨ho, hlet⟩ := getN ok (i := (0 : Int).toNat) (by show 0 < _; omega)
  generalize nm.getD (0 : Int).toNat "" = o at ho hlet ⊢
  try dsimp only [gName]
  refine ⟨_, rfl, _, rfl, n, _, _, _, rfl, rfl, SqL.of hn, at_last (by omega), ?_⟩
  obtain ⟨hl, _⟩ := getN ok (i := nm.length - 1) (by omega)
  generalize nm.getD (nm.length - 1) "" = l at hl ⊢
  have hu : (Txt.upper o).length ≤ 9 := by rw [up_len hlet]; exact ho
  have big : (200 : Nat) < sizeLine := by decide
  have f : ∀ {s : Str}, s.length ≤ 200 → s.length ≤ sizeLine := fun h => sz_of h (by decide)
  try dsimp only [gName]
  intro vs1 hv1 tl1
  refine ⟨by rw [hv1]; decide, fun l1 h1 => ?_⟩
  have S1 := same_new h1 (.lst vs1)
  have k1 : upd H l1 (.lst vs1) l1 = some (.lst vs1) := upd_same
  generalize upd H l1 (.lst vs1) = H1 at S1 k1 ⊢
  have len1 : vs1.length = 15 := hv1
  try dsimp only [gName]
  refine ⟨_, rfl, _, rfl, _, rfl, _, _, rfl, rfl, f (by simp only [app_len]; omega), _, rfl, _, _, rfl, rfl, f (by simp only [app_len]; omega), _, rfl, _, _, rfl, rfl, f (by simp only [app_len]; omega), _, rfl, _, _, rfl, rfl, f (by simp only [app_len]; omega), _, rfl, _, _, rfl, rfl, f (by simp only [app_len]; omega), _, rfl, _, _, rfl, rfl, f (by simp only [app_len]; omega), _, rfl, _, _, rfl, rfl, f (by simp only [app_len]; omega), _, rfl, _, _, rfl, rfl, f (by simp only [app_len]; omega), _, rfl, _, _, rfl, rfl, f (by simp only [app_len]; omega), (by show 8 ≤ sizeLine; decide), fun a2 ha2 => cat_gen k1 ha2 tl1 (by repeat first | exact TL.nil | refine TL.cons (by first | omega | (simp only [app_len]; omega)) ?_) (by rw [len1]; show 15 + 8 ≤ 100; decide) fun l2 vs2 H2 tl2 ln2 Sn2 l20 k2 => ?_⟩
  have S2 := S1.trans Sn2
  have len2 : vs2.length = 23 := ln2.trans (by rw [len1]; rfl)
  try dsimp only [gName]
  refine ⟨_, rfl, _, rfl, _, _, rfl, rfl, f (by simp only [app_len]; omega), _, rfl, _, _, rfl, rfl, f (by simp only [app_len]; omega), _, rfl, _, _, rfl, rfl, f (by simp only [app_len]; omega), _, rfl, _, _, rfl, rfl, f (by simp only [app_len]; omega), _, rfl, _, _, rfl, rfl, f (by simp only [app_len]; omega), _, rfl, _, _, rfl, rfl, f (by simp only [app_len]; omega), _, rfl, _, _, rfl, rfl, f (by simp only [app_len]; omega), _, rfl, _, _, rfl, rfl, f (by simp only [app_len]; omega), (by show 7 ≤ sizeLine; decide), fun a3 ha3 => cat_gen k2 ha3 tl2 (by repeat first | exact TL.nil | refine TL.cons (by first | omega | (simp only [app_len]; omega)) ?_) (by rw [len2]; show 23 + 7 ≤ 100; decide) fun l3 vs3 H3 tl3 ln3 Sn3 l30 k3 => ?_⟩
  have S3 := S2.trans Sn3
  have len3 : vs3.length = 30 := ln3.trans (by rw [len2]; rfl)
  try dsimp only [gName]
  refine ⟨_, rfl, _, rfl, _, _, rfl, rfl, f (by simp only [app_len]; omega), _, rfl, _, _, rfl, rfl, f (by simp only [app_len]; omega), _, rfl, _, _, rfl, rfl, f (by simp only [app_len]; omega), _, rfl, _, _, rfl, rfl, f (by simp only [app_len]; omega), _, rfl, _, _, rfl, rfl, f (by simp only [app_len]; omega), _, rfl, _, _, rfl, rfl, f (by simp only [app_len]; omega), _, rfl, _, _, rfl, rfl, f (by simp only [app_len]; omega), _, _, rfl, rfl, f (by simp only [app_len]; omega), _, rfl, _, _, rfl, rfl, f (by simp only [app_len]; omega), (by show 4 ≤ sizeLine; decide), fun a4 ha4 => cat_gen k3 ha4 tl3 (by repeat first | exact TL.nil | refine TL.cons (by first | omega | (simp only [app_len]; omega)) ?_) (by rw [len3]; show 30 + 4 ≤ 100; decide) fun l4 vs4 H4 tl4 ln4 Sn4 l40 k4 => ?_⟩
  have S4 := S3.trans Sn4
  have len4 : vs4.length = 34 := ln4.trans (by rw [len3]; rfl)
  try dsimp only [gName]
  refine ⟨_, rfl, _, rfl, _, _, rfl, rfl, f (by simp only [app_len]; omega), _, rfl, _, _, rfl, rfl, f (by simp only [app_len]; omega), _, rfl, _, _, rfl, rfl, f (by simp only [app_len]; omega), _, rfl, rfl, o, rfl, rfl, (by unfold Builtin.Str.tooLong; simp; omega), _, rfl, _, _, rfl, rfl, f (by simp only [app_len]; omega), _, rfl, _, _, rfl, rfl, f (by simp only [app_len]; omega), _, rfl, _, _, rfl, rfl, f (by simp only [app_len]; omega), (by show 6 ≤ sizeLine; decide), fun a5 ha5 => cat_gen k4 ha5 tl4 (by repeat first | exact TL.nil | refine TL.cons (by first | omega | (simp only [app_len]; omega)) ?_) (by rw [len4]; show 34 + 6 ≤ 100; decide) fun l5 vs5 H5 tl5 ln5 Sn5 l50 k5 => ?_⟩
  have S5 := S4.trans Sn5
  have len5 : vs5.length = 40 := ln5.trans (by rw [len4]; rfl)
  obtain ⟨ss, rfl, hss⟩ := TL.strs tl5
  exact q l5 ss H5 S5 (S4.free l50) k5 hss (by rw [List.length_map] at len5; omega)

end
end OL.Q39

namespace OL.Q39
open PySem L2 OL
section
variable {P : Program} {w : World} {K : PySem.W.Frag} {mg : Str → Option Value} {base : Heap} {f : Addr} {fd : FuncData} {k : Nat}
open OL.K39
theorem ints_snoc39 (ss : List Int) (x : Int) : (ss ++ [x]).map V.int = ss.map V.int ++ [.int x] := by rw [List.map_append]; rfl
theorem nn_snoc {ss : List Int} {x : Int} {i : Nat} (h : ss.length = i ∧ ∀ l ∈ ss, 0 ≤ l) (h0 : 0 ≤ x) : (ss ++ [x]).length = i + 1 ∧ ∀ l ∈ ss ++ [x], 0 ≤ l := by
  refine ⟨by rw [List.length_append, h.1]; rfl, fun l hl => ?_⟩
  rcases List.mem_append.mp hl with w | w
  · exact h.2 l w
  · rw [List.mem_singleton.mp w]; exact h0
theorem paired_txt {ys : List V} {ts : List Int} (h : Paired (fun y (_ : Int) => ∃ s : Str, y = V.str s ∧ s.length ≤ 200) ys ts) : ∃ ss : List Str, ys = ss.map V.str ∧ (∀ s ∈ ss, s.length ≤ 200) ∧ ss.length = ts.length := by
  induction h with
  | nil => exact ⟨[], rfl, (fun s h => nomatch h), rfl⟩
  | cons r _ ih =>
    obtain ⟨s, rfl, hs⟩ := r
    obtain ⟨ss, rfl, h2, h3⟩ := ih
    exact ⟨s :: ss, rfl, List.forall_mem_cons.mpr ⟨hs, h2⟩, by rw [List.length_cons, List.length_cons, h3]⟩
theorem sum_200 {ss : List Str} (h : ∀ s ∈ ss, s.length ≤ 200) : (ss.map (·.length)).sum ≤ 200 * ss.length := by
  induction ss with
  | nil => exact Nat.zero_le _
  | cons a r ih =>
    rw [List.map_cons, List.sum_cons, List.length_cons]
    have := ih fun s hs => h s (List.mem_cons_of_mem _ hs)
    have := h a List.mem_cons_self
    omega
theorem cut_take39 (ms : List Int) (k : Nat) : cutV (ms.map V.int) none (some (k : Int)) = (ms.take k).map V.int := by
  unfold cutV
  rw [HT.sIx_nat]
  show ((ms.map V.int).drop 0).take (_ - 0) = _
  rw [List.drop_zero, Nat.sub_zero, List.length_map, List.map_take]
  by_cases h : k ≤ ms.length
  · rw [Nat.min_eq_left h]
  · rw [Nat.min_eq_right (by omega), List.take_of_length_le (by rw [List.length_map]; omega), List.take_of_length_le (by rw [List.length_map]; omega)]
noncomputable def bndT : Nat → Nat
  | 0 => 900
  | 1 => 3700
  | 2 => 14900
  | _ => 59700
theorem bnd_step {i m : Nat} (hi : i < 3) (h : m ≤ bndT i) {k : Nat} (hk : k ≤ 4 * m + 100) : m ≤ 20000 ∧ k ≤ bndT (i + 1) ∧ k ≤ 60000 := by
  rcases (by omega : i = 0 ∨ i = 1 ∨ i = 2) with rfl | rfl | rfl
  · have h : m ≤ 900 := h
    show m ≤ 20000 ∧ k ≤ 3700 ∧ _; omega
  · have h : m ≤ 3700 := h
    show m ≤ 20000 ∧ k ≤ 14900 ∧ _; omega
  · have h : m ≤ 14900 := h
    show m ≤ 20000 ∧ k ≤ 59700 ∧ _; omega
noncomputable abbrev n_law : List Str := ["_law_script", "_law_start", "_law_names_here", "_law_k", "_law_pile_here", "_law_lots", "_law_text", "_law_time"]
theorem sc_law : FnScope n_law ["_law_script"] (defScope s_law) := ⟨rfl, rfl, rfl, by decide +kernel, rfl, by decide +kernel, by decide +kernel⟩
theorem nd_law_0 : (["_law_j", "_law_pile_here", "_law_names_here"] : List Str).Nodup := by decide +kernel
theorem nd_law_1 : (["_law_lot_here", "_law_names_here"] : List Str).Nodup := by decide +kernel
set_option maxHeartbeats 4000000 in
theorem ok_law (F : Fun K "law" "law" s_law f fd) (M_range : mg "range" = none) {cc : CC} (kX : Xs K mg cc) (G_L_names : Dfn P w K mg base k "_law_names" ["_law_script", "_law_start"] (spNames K)) (G_L_pile : Dfn P w K mg base k "_law_pile" ["_law_script", "_law_k"] (spPile K)) (G_L_take : Dfn P w K mg base k "_law_take" ["_law_pile_here", "_law_many"] spTake) (G_L_lot : Dfn P w K mg base k "_law_lot" ["_law_pile_here", "_law_names_here"] (spLotN K)) (G_L_shown : Dfn P w K mg base k "_law_shown" ["_law_names_here", "_law_lot_here"] spShown) (G_L_bent : Dfn P w K mg base k "_law_bent" ["_law_text", "_law_pile_here", "_law_names_here"] spBent) (G_L_judged : Dfn P w K mg base k "_law_judged" ["_law_names_here", "_law_text"] spJudge) (G_L_odd : Dfn P w K mg base k "_law_odd" ["_law_names_here"] spOdd) : FnOk P w K mg base CX0 (k + 1) f fd ["_law_script"] (spLaw K) := by
  refine F.ok sc_law (fun vs H Q E h => ?_) (fun cdv A outer s H vs Q E hr h => ?_)
  · obtain ⟨a, ns, rfl, hS, h63, q⟩ := h; rfl
  obtain ⟨a, ns, rfl, hS, h63, q⟩ := h
  have nd := sc_law.nd
  have le := Nat.le_refl k
  refine ⟨_, pss_cons (ps_for PassesOwn.never rfl (pi_list (pe_lst (pa_cons pe_int (pa_cons pe_int (pa_cons pe_int (pa_cons pe_int (pa_cons pe_int (pa_cons pe_int (pa_cons pe_int pa_nil))))))))) (pg_name (i := 1) nd rfl (Or.inl rfl))
      (pss_cons (ps_set (i := 2) nd rfl (Or.inr rfl) (pe_def G_L_names hr le rfl (pa_cons (pv 0) (pa_cons (pv 1) pa_nil))))
      (pss_cons (ps_for PassesOwn.never rfl (pi_range2 rfl M_range (pa_cons pe_int (pa_cons pe_int pa_nil))) (pg_name (i := 3) nd rfl (Or.inl rfl))
        (pss_cons (ps_set (i := 4) nd rfl (Or.inr rfl) (pe_def G_L_pile hr le rfl (pa_cons (pv 0) (pa_cons (pe_op op_add (pv 1) (pv 3)) pa_nil))))
        (pss_cons (ps_setCompC (i := 5) nd rfl rfl ["_law_j"] [4, 2] (sc := defScope s_law) (N := n_law) (.inl rfl) rfl ⟨rfl, by decide +kernel, by decide +kernel, by decide +kernel, by decide +kernel⟩ rfl (pi_range1 rfl M_range (pa_cons (pe_op op_add pe_int (pe_def G_L_take hr le rfl (pa_cons (pv 4) (pa_cons pe_int pa_nil)))) pa_nil)) (fun cl s H C fp => (pg_name (i := 0) nd_law_0 rfl (Or.inl rfl))) (fun cl s H C fp => pifs_nil) (fun cl s H C fp => (pe_def G_L_lot hr le rfl (pa_cons (pv 1) (pa_cons (pv 2) pa_nil)))) rfl)
        (pss_cons (ps_set (i := 6) nd rfl (Or.inl rfl) (pe_bm PySem.F.plainAttrs_str PySem.F.slot_str_join PySem.F.type_str_join mt_join (pe_ix ix_list (pe_lst (pa_cons pe_str (pa_cons pe_str (pa_cons pe_str pa_nil)))) (pe_def G_L_take hr le rfl (pa_cons (pv 4) (pa_cons pe_int pa_nil))) (fun _ _ => rfl)) (pa_cons (pe_compC ["_law_lot_here"] [2] (sc := defScope s_law) (N := n_law) (.inl rfl) rfl ⟨rfl, by decide +kernel, by decide +kernel, by decide +kernel, by decide +kernel⟩ rfl (pi_list (pe_slice sl_list (pv 5) po_none (po_some pe_int))) (fun cl s H C fp => (pg_name (i := 0) nd_law_1 rfl (Or.inl rfl))) (fun cl s H C fp => pifs_nil) (fun cl s H C fp => (pe_def G_L_shown hr le rfl (pa_cons (pv 1) (pa_cons (pv 0) pa_nil))))) pa_nil)))
        (pss_one (ps_for PassesOwn.never rfl (pi_range1 rfl M_range (pa_cons pe_int pa_nil)) (pg_name (i := 7) nd rfl (Or.inl rfl))
          (pss_cons (ps_set (i := 6) nd rfl (Or.inl rfl) (pe_def G_L_bent hr le rfl (pa_cons (pv 6) (pa_cons (pv 4) (pa_cons (pv 2) pa_nil)))))
          (pss_one (ps_if (pt_not (pt_val (pe_def G_L_judged hr le rfl (pa_cons (pv 2) (pa_cons (pv 6) pa_nil))))) (pss_one (ps_ret pe_bl)) pss_nil)))))))))
      (pss_one (ps_for PassesOwn.never rfl (pi_list (pe_def G_L_odd hr le rfl (pa_cons (pv 2) pa_nil))) (pg_name (i := 6) nd rfl (Or.inl rfl))
        (pss_one (ps_if (pt_not (pt_val (pe_def G_L_judged hr le rfl (pa_cons (pv 2) (pa_cons (pv 6) pa_nil))))) (pss_one (ps_ret pe_bl)) pss_nil)))))))
    (pss_one (ps_ret pe_bl)), ?_⟩
  refine ⟨(by show 7 ≤ sizeLine; decide), fun sl hsl => ?_⟩
  have S0 := same_new hsl (.lst [.int 0, .int 7, .int 14, .int 21, .int 28, .int 35, .int 42])
  have hsl0 : upd H sl (.lst [.int 0, .int 7, .int 14, .int 21, .int 28, .int 35, .int 42]) sl = some (.lst (([0, 7, 14, 21, 28, 35, 42] : List Int).map V.int)) := upd_same
  generalize upd H sl (.lst [.int 0, .int 7, .int 14, .int 21, .int 28, .int 35, .int 42]) = H0 at S0 hsl0 ⊢
  refine ⟨sl, rfl, ⟨_, SqL.of hsl0⟩, for_list (xs := ([0, 7, 14, 21, 28, 35, 42] : List Int).map V.int) (fun i σ H' => ∃ z1 z2 z3 z4 z5 z6 z7 : Option V, σ = [some (.ref a), z1, z2, z3, z4, z5, z6, z7] ∧ Same H0 H') ⟨_, _, _, _, _, _, _, rfl, Same.refl _⟩
    (fun i σ H' _ h => by obtain ⟨_, _, _, _, _, _, _, _, S⟩ := h; exact SqL.of (S _ _ hsl0)) ?_ ?_⟩
  rotate_left
  · rintro σ H' ⟨z1, z2, z3, z4, z5, z6, z7, rfl, S1⟩
    exact q _
  rintro i v0 σ H1 hx ⟨z1, z2, z3, z4, z5, z6, z7, rfl, S1⟩
  have hi7 : i < 7 := (List.getElem?_eq_some_iff.mp hx).1
  have hx' := ints_get hx
  subst hx'
  have hst : 0 ≤ ([0, 7, 14, 21, 28, 35, 42] : List Int).getD i 0 := by
    rcases i with _ | _ | _ | _ | _ | _ | _ | i <;> simp
  generalize ([0, 7, 14, 21, 28, 35, 42] : List Int).getD i 0 = st at hst hx ⊢
  have S01 := S0.trans S1
  try dsimp only [gName]
  refine ⟨_, rfl, _, rfl, a, ns, st, rfl, S01.seq hS, hst, fun n nm H2 S2 hn0 hn ok => ?_⟩
  have hn1 := ok.lo
  have hn12 := ok.hi
  have S02 := S01.trans S2
  try dsimp only [gName]
  refine ⟨_, _, rfl, (by decide), ?_⟩
  refine for_range (n := 6) (fun j σ H' => ∃ z3 z4 z5 z6 z7 : Option V, σ = [some (.ref a), some (.int st), some (.ref n), z3, z4, z5, z6, z7] ∧ Same H2 H') ⟨_, _, _, _, _, rfl, Same.refl _⟩ ?_ ?_
  · rintro j σ H3 hj ⟨z3, z4, z5, z6, z7, rfl, S3⟩
    have hn3 := S3 _ _ hn
    have S03 := S02.trans S3
    refine ⟨_, rfl, _, rfl, _, rfl, _, _, rfl, rfl, a, ns, _, rfl, S03.seq hS, by omega, fun p H4 x y u S4 hp0 hp => ?_⟩
    have pn : p ≠ n := fun e => by rw [e, hn3] at hp0; cases hp0
    have hn4 := S4 _ _ hn3
    try dsimp only [gName]
    refine ⟨_, rfl, p, 4, x, y, u, rfl, by decide, by decide, hp, fun d x1 y1 u1 H5 d0 d1 SB5 hp5 => ⟨_, _, rfl, rfl, _, rfl, by omega, by omega, ?_⟩⟩
    have hn5 := SB5 _ _ pn.symm hn4
    have hp5z := hp5
    refine comp_rangeG (n := (1 + d).toNat) (fun acc i ys H' => ∃ (ss : List Int) (x y z : Int), ys = ss.map V.int ∧ (ss.length = i ∧ ∀ l ∈ ss, 0 ≤ l) ∧ SameB p H5 H' ∧ H' p = some (.lst [.int x, .int y, .int z])) (fun acc hacc => ⟨[], x1, y1, u1, rfl, ⟨rfl, (fun s hs => nomatch hs)⟩, (same_new hacc _).b, same_new hacc _ _ _ hp5⟩) (fun acc i ys H' hacc hi hys h => ?_) (fun r ys H6 hr0 hr6 h => ?_)
    · obtain ⟨ss, x5, y5, z5, rfl, hss, SB, hp5⟩ := h
      have accp : acc ≠ p := fun e => by rw [e, hp5z] at hacc; cases hacc
      refine ⟨(Wk.refl _).set (by decide), yes_of ⟨_, rfl, _, rfl, p, n, nm, rfl, pn, ⟨x5, y5, z5, hp5⟩, SB _ _ pn.symm hn5, hn1, hn12, fun lot H6 SB6 l0 l1 hp6 => ?_⟩⟩
      obtain ⟨x6, y6, z6, hp6⟩ := hp6
      refine cputG hi (SB6 _ _ accp hys) (by rw [List.length_map]; exact small1000 (by have := hss.1; omega)) ⟨ss ++ [lot], x6, y6, z6, (ints_snoc39 _ _).symm, nn_snoc hss l0, fun c o hc ho => ?_, ?_⟩
      · rw [upd_ne (ne_of_none ho hacc)]; exact SB6 _ _ hc (SB _ _ hc ho)
      · rw [upd_ne (Ne.symm accp)]; exact hp6
    obtain ⟨ss, x6, y6, u6, rfl, hss, SB6, hp6⟩ := h
    have hn6 := SB6 _ _ pn.symm hn5
    have SB36 : SameB p H4 H6 := SB5.trans SB6
    try dsimp only [gName]
    refine ⟨(by show 3 ≤ sizeLine; decide), fun jl hjl => ?_⟩
    have Sj := same_new hjl (.lst [.str " => ", .str "; ", .str "; "])
    have hj7 : upd H6 jl (.lst [.str " => ", .str "; ", .str "; "]) jl = some (.lst (([" => ", "; ", "; "] : List Str).map V.str)) := upd_same
    have hp7 := Sj _ _ hp6
    have hn7 := Sj _ _ hn6
    have hr7 := Sj _ _ hr6
    have jp : jl ≠ p := fun e => by rw [e, hp6] at hjl; cases hjl
    have rp : r ≠ p := fun e => by rw [e, hp5z] at hr0; cases hr0
    have SB37 := SB36.trans Sj.b
    generalize upd H6 jl (.lst [.str " => ", .str "; ", .str "; "]) = H7 at SB37 hj7 hp7 hn7 hr7 ⊢
    refine ⟨_, rfl, p, 3, x6, y6, u6, rfl, by decide, by decide, hp7, fun e x8 y8 u8 H8 e0 e1 SB8 hp8 => ⟨jl, _, _, _, rfl, rfl, SqL.of (SB8 _ _ jp hj7), atS_map e0 (by simpa using e1), ?_⟩⟩
    have sepl : (([" => ", "; ", "; "] : List Str).getD e.toNat "").length ≤ 4 := by
      rcases (by omega : e.toNat = 0 ∨ e.toNat = 1 ∨ e.toNat = 2) with w | w | w
      · rw [w]; decide +kernel
      · rw [w]; decide +kernel
      · rw [w]; decide +kernel
    generalize (([" => ", "; ", "; "] : List Str).getD e.toNat "") = sep at sepl ⊢
    have hn8 := SB8 _ _ pn.symm hn7
    have hr8 := SB8 _ _ rp hr7
    have SB38 := SB37.trans SB8
    refine ⟨rfl, _, rfl, _, rfl, r, _, rfl, SqL.of hr8, fun cl hcl => ?_⟩
    rw [show (4 : Int) = ((4 : Nat) : Int) from rfl, cut_take39]
    have Sc := same_new hcl (.lst ((ss.take 4).map V.int))
    have hc9 : upd H8 cl (.lst ((ss.take 4).map V.int)) cl = some (.lst ((ss.take 4).map V.int)) := upd_same
    have hp9 := Sc _ _ hp8
    have hn9 := Sc _ _ hn8
    have SB39 := SB38.trans Sc.b
    have l4 : (ss.take 4).length ≤ 4 := by rw [List.length_take]; omega
    have nn4 : ∀ l ∈ ss.take 4, 0 ≤ l := fun l hl => hss.2 l (List.mem_of_mem_take hl)
    generalize upd H8 cl (.lst ((ss.take 4).map V.int)) = H9 at SB39 hc9 hp9 hn9 ⊢
    generalize ss.take 4 = ls at hc9 l4 nn4
    refine ⟨cl, rfl, ⟨_, SqL.of hc9⟩, compA_list (as := ls) (Re := fun v t => v = .int t) (SqL.of hc9) (paired_mapped ls) (fun _ => true) (fun _ y t => ∃ s : Str, y = V.str s ∧ s.length ≤ 200) (fun _ _ _ _ _ z => z) (by omega) (fun t v H10 ht e S10 => ?_) (fun acc ys H10 hacc S10 hacc2 hys => ?_)⟩
    · subst e
      intro PUT SKIP hput hskip
      exact ⟨(Wk.refl _).set (by decide), yes_of ⟨_, rfl, _, rfl, n, nm, t, rfl, S10 _ _ hn9, ok, nn4 t ht, fun z H11 S11 hz => hput rfl _ _ S11 ⟨z, rfl, hz⟩⟩⟩
    rw [filter_true] at hys
    obtain ⟨ts, rfl, t200, tl⟩ := paired_txt hys
    have sm := sum_200 t200
    have js := join_sz sep ts
    have tsl : ts.length ≤ 4 := by omega
    have mul : ts.length * sep.length ≤ 4 * 4 := Nat.mul_le_mul tsl sepl
    refine ⟨sep, acc, ts, rfl, rfl, SqL.of hacc2, by omega, ?_⟩
    have jl9 : (Txt.join sep ts).length ≤ 900 := by omega
    generalize Txt.join sep ts = tx at jl9 ⊢
    have hp10 := S10 _ _ hp9
    have hn10 := S10 _ _ hn9
    have SB310 := SB39.trans S10.b
    try dsimp only [gName]
    refine ⟨3, rfl, by omega, by omega, for_range (n := 3) (fun i σ H' => ∃ (t : Str) (x y u : Int) (z7 : Option V), σ = [some (.ref a), some (.int st), some (.ref n), some (.int (1 + (j : Int))), some (.ref p), some (.ref r), some (.str t), z7] ∧ SameB p H10 H' ∧ H' p = some (.lst [.int x, .int y, .int u]) ∧ t.length ≤ bndT i) ⟨_, _, _, _, _, rfl, (Same.refl _).b, hp10, jl9⟩ ?_ ?_⟩
    · rintro i σ H11 hi ⟨t, x11, y11, u11, z7, rfl, SB11, hp11, hl⟩
      have b0 := bnd_step hi hl (k := 0) (by omega)
      have hn11 := SB11 _ _ pn.symm hn10
      refine ⟨_, rfl, _, rfl, _, rfl, t, p, n, nm, x11, y11, u11, rfl, pn, hp11, hn11, ok, b0.1, fun z' x' y' w' H12 SB12 hp12 hz' => ?_⟩
      obtain ⟨_, b2, b3⟩ := bnd_step hi hl hz'
      try dsimp only [gName]
      refine ⟨_, rfl, _, rfl, n, nm, z', rfl, SB12 _ _ pn.symm hn11, ok, b3, fun H13 S13 => ?_⟩
      exact ⟨_, rfl, iteF' rfl ⟨z', x', y', w', _, rfl, SB11.trans (SB12.trans S13.b), S13 _ _ hp12, b2⟩⟩
    · rintro σ H11 ⟨t, x11, y11, u11, z7, rfl, SB11, hp11, hl⟩
      exact ⟨_, _, _, _, _, rfl, S3.trans ((SB310.trans SB11).same S4 hp0)⟩
  · rintro σ H3 ⟨z3, z4, z5, z6, z7, rfl, S3⟩
    have hn3 := S3 _ _ hn
    try dsimp only [tNext]
    refine ⟨_, rfl, n, nm, rfl, hn3, ok, fun ol ss H4 S4 ol0 hol hss sl5 => ⟨ol, rfl, ⟨_, SqL.of hol⟩, for_list (xs := ss.map V.str) (fun i σ H' => ∃ z6 : Option V, σ = [some (.ref a), some (.int st), some (.ref n), z3, z4, z5, z6, z7] ∧ Same H4 H') ⟨_, rfl, Same.refl _⟩ (fun i σ H' _ h => by obtain ⟨_, _, S⟩ := h; exact SqL.of (S _ _ hol)) ?_ ?_⟩⟩
    · rintro i x σ H5 hx ⟨z6, rfl, S5⟩
      have hi : i < ss.length := by have := (List.getElem?_eq_some_iff.mp hx).1; rwa [List.length_map] at this
      have hx' : x = .str ss[i] := by
        rw [List.getElem?_map, List.getElem?_eq_getElem hi] at hx
        exact (Option.some.inj hx).symm
      subst hx'
      have hsz := hss _ (List.getElem_mem hi)
      try dsimp only [gName]
      refine ⟨_, rfl, _, rfl, n, nm, ss[i], rfl, S5 _ _ (S4 _ _ hn3), ok, Nat.le_trans hsz (by decide), fun H6 S6 => ?_⟩
      refine ⟨_, rfl, iteF' rfl ⟨_, rfl, S5.trans S6⟩⟩
    · rintro σ H5 ⟨z6, rfl, S5⟩
      exact ⟨_, _, _, _, _, _, _, rfl, S1.trans (S2.trans (S3.trans (S4.trans S5)))⟩


end
end OL.Q39

namespace OL.Q39
open PySem L2 OL
theorem len1 {us : List Value} (h : us.length = 1) : ∃ x0, us = [x0] := by
  match us, h with
  | [x0], _ => exact ⟨x0, rfl⟩
theorem len2 {us : List Value} (h : us.length = 2) : ∃ x0 x1, us = [x0, x1] := by
  match us, h with
  | [x0, x1], _ => exact ⟨x0, x1, rfl⟩
theorem len3 {us : List Value} (h : us.length = 3) : ∃ x0 x1 x2, us = [x0, x1, x2] := by
  match us, h with
  | [x0, x1, x2], _ => exact ⟨x0, x1, x2, rfl⟩
set_option maxHeartbeats 4000000 in
theorem all_mk {l : PySem.W.OpenLaw} {w : World} {K : PySem.W.Frag} {h : Heap} {mg : Str → Option Value} {fa c_OftenError c_NoDay c_NoLeast c_NoText c_NoLine c_NoThings c_NoRoom f0 f1 f2 f3 f4 f5 f6 f7 f8 f9 f10 f11 f12 f13 f14 f15 f16 f17 f18 f19 f20 f21 f22 f23 f24 f25 : Addr} (X : K.In h) (G : h.Ns mainGlobals mg) (hfa : mg "law" = some (.ref fa))
    {od0 an0 od1 an1 od2 an2 od3 an3 od4 an4 od5 an5 od6 an6 od7 an7 od8 an8 od9 an9 od10 an10 od11 an11 od12 an12 od13 an13 od14 an14 od15 an15 od16 an16 od17 an17 od18 an18 od19 an19 od20 an20 od21 an21 od22 an22 od23 an23 od24 an24 od25 an25 : Option Addr} {sl0 sl1 sl2 sl3 sl4 sl5 sl6 sl7 sl8 sl9 sl10 sl11 sl12 sl13 sl14 sl15 sl16 sl17 sl18 sl19 sl20 sl21 sl22 sl23 sl24 sl25 : Array (Option Value)} {oc0 kV0 dc0 pm0 cd0 ct0 oc1 kV1 dc1 pm1 cd1 ct1 oc2 kV2 dc2 pm2 cd2 ct2 oc3 kV3 dc3 pm3 cd3 ct3 oc4 kV4 dc4 pm4 cd4 ct4 oc5 kV5 dc5 pm5 cd5 ct5 oc6 kV6 dc6 pm6 cd6 ct6 oc7 kV7 dc7 pm7 cd7 ct7 oc8 kV8 dc8 pm8 cd8 ct8 oc9 kV9 dc9 pm9 cd9 ct9 oc10 kV10 dc10 pm10 cd10 ct10 oc11 kV11 dc11 pm11 cd11 ct11 oc12 kV12 dc12 pm12 cd12 ct12 oc13 kV13 dc13 pm13 cd13 ct13 oc14 kV14 dc14 pm14 cd14 ct14 oc15 kV15 dc15 pm15 cd15 ct15 oc16 kV16 dc16 pm16 cd16 ct16 oc17 kV17 dc17 pm17 cd17 ct17 oc18 kV18 dc18 pm18 cd18 ct18 oc19 kV19 dc19 pm19 cd19 ct19 oc20 kV20 dc20 pm20 cd20 ct20 oc21 kV21 dc21 pm21 cd21 ct21 oc22 kV22 dc22 pm22 cd22 ct22 oc23 kV23 dc23 pm23 cd23 ct23 oc24 kV24 dc24 pm24 cd24 ct24 oc25 kV25 dc25 pm25 cd25 ct25 : Value}
    (aX_OftenError : PySem.W.nsIn K mainGlobals "OftenError" = some (some (.ref c_OftenError))) (aX_NoDay : PySem.W.nsIn K mainGlobals "NoDay" = some (some (.ref c_NoDay))) (aX_NoLeast : PySem.W.nsIn K mainGlobals "NoLeast" = some (some (.ref c_NoLeast))) (aX_NoText : PySem.W.nsIn K mainGlobals "NoText" = some (some (.ref c_NoText))) (aX_NoLine : PySem.W.nsIn K mainGlobals "NoLine" = some (some (.ref c_NoLine))) (aX_NoThings : PySem.W.nsIn K mainGlobals "NoThings" = some (some (.ref c_NoThings))) (aX_NoRoom : PySem.W.nsIn K mainGlobals "NoRoom" = some (some (.ref c_NoRoom)))
    (xf_r_NoText : XCls K "NoText" c_NoText)
    (xf_is_ : XIs K c_NoText [.ref c_NoDay, .ref c_NoLeast, .ref c_NoLine, .ref c_NoRoom, .ref c_NoThings] [.ref c_NoText, .type "ValueError"])
    (xf_em_ : PySem.W.exmOne K (.ref c_NoText) (.ref c_OftenError) = some true)
    (a0 : PySem.W.nsIn K mainGlobals "has" = some (some (.ref f0))) (l0 : K.lookup f0 = some ⟨oc0, od0, .func (PySem.W.fnOf "has" "has" (defArgs sHas) (defBody sHas) (defScope sHas) .none kV0 dc0 pm0 an0 cd0 ct0), sl0⟩) (c0 : PySem.W.codeIn K cd0 "has" = true) (k0 : PySem.W.keepIn K (.ref f0) = true)
    (a1 : PySem.W.nsIn K mainGlobals "has_thing" = some (some (.ref f1))) (l1 : K.lookup f1 = some ⟨oc1, od1, .func (PySem.W.fnOf "has_thing" "has_thing" (defArgs sHasT) (defBody sHasT) (defScope sHasT) .none kV1 dc1 pm1 an1 cd1 ct1), sl1⟩) (c1 : PySem.W.codeIn K cd1 "has_thing" = true) (k1 : PySem.W.keepIn K (.ref f1) = true)
    (a2 : PySem.W.nsIn K mainGlobals "with_thing" = some (some (.ref f2))) (l2 : K.lookup f2 = some ⟨oc2, od2, .func (PySem.W.fnOf "with_thing" "with_thing" (defArgs sWith) (defBody sWith) (defScope sWith) .none kV2 dc2 pm2 an2 cd2 ct2), sl2⟩) (c2 : PySem.W.codeIn K cd2 "with_thing" = true) (k2 : PySem.W.keepIn K (.ref f2) = true)
    (a3 : PySem.W.nsIn K mainGlobals "lot_of" = some (some (.ref f3))) (l3 : K.lookup f3 = some ⟨oc3, od3, .func (PySem.W.fnOf "lot_of" "lot_of" (defArgs sLotOf) (defBody sLotOf) (defScope sLotOf) .none kV3 dc3 pm3 an3 cd3 ct3), sl3⟩) (c3 : PySem.W.codeIn K cd3 "lot_of" = true) (k3 : PySem.W.keepIn K (.ref f3) = true)
    (a4 : PySem.W.nsIn K mainGlobals "things_in" = some (some (.ref f4))) (l4 : K.lookup f4 = some ⟨oc4, od4, .func (PySem.W.fnOf "things_in" "things_in" (defArgs sThings) (defBody sThings) (defScope sThings) .none kV4 dc4 pm4 an4 cd4 ct4), sl4⟩) (c4 : PySem.W.codeIn K cd4 "things_in" = true) (k4 : PySem.W.keepIn K (.ref f4) = true)
    (a5 : PySem.W.nsIn K mainGlobals "show_lot" = some (some (.ref f5))) (l5 : K.lookup f5 = some ⟨oc5, od5, .func (PySem.W.fnOf "show_lot" "show_lot" (defArgs s_show_lot) (defBody s_show_lot) (defScope s_show_lot) .none kV5 dc5 pm5 an5 cd5 ct5), sl5⟩) (c5 : PySem.W.codeIn K cd5 "show_lot" = true) (k5 : PySem.W.keepIn K (.ref f5) = true)
    (a6 : PySem.W.nsIn K mainGlobals "read_lot" = some (some (.ref f6))) (l6 : K.lookup f6 = some ⟨oc6, od6, .func (PySem.W.fnOf "read_lot" "read_lot" (defArgs s_read_lot) (defBody s_read_lot) (defScope s_read_lot) .none kV6 dc6 pm6 an6 cd6 ct6), sl6⟩) (c6 : PySem.W.codeIn K cd6 "read_lot" = true) (k6 : PySem.W.keepIn K (.ref f6) = true)
    (a7 : PySem.W.nsIn K mainGlobals "read_rule" = some (some (.ref f7))) (l7 : K.lookup f7 = some ⟨oc7, od7, .func (PySem.W.fnOf "read_rule" "read_rule" (defArgs s_read_rule) (defBody s_read_rule) (defScope s_read_rule) .none kV7 dc7 pm7 an7 cd7 ct7), sl7⟩) (c7 : PySem.W.codeIn K cd7 "read_rule" = true) (k7 : PySem.W.keepIn K (.ref f7) = true)
    (a8 : PySem.W.nsIn K mainGlobals "read_day" = some (some (.ref f8))) (l8 : K.lookup f8 = some ⟨oc8, od8, .func (PySem.W.fnOf "read_day" "read_day" (defArgs s_read_day) (defBody s_read_day) (defScope s_read_day) .none kV8 dc8 pm8 an8 cd8 ct8), sl8⟩) (c8 : PySem.W.codeIn K cd8 "read_day" = true) (k8 : PySem.W.keepIn K (.ref f8) = true)
    (a9 : PySem.W.nsIn K mainGlobals "taken_apart" = some (some (.ref f9))) (l9 : K.lookup f9 = some ⟨oc9, od9, .func (PySem.W.fnOf "taken_apart" "taken_apart" (defArgs s_taken_apart) (defBody s_taken_apart) (defScope s_taken_apart) .none kV9 dc9 pm9 an9 cd9 ct9), sl9⟩) (c9 : PySem.W.codeIn K cd9 "taken_apart" = true) (k9 : PySem.W.keepIn K (.ref f9) = true)
    (a10 : PySem.W.nsIn K mainGlobals "split_in" = some (some (.ref f10))) (l10 : K.lookup f10 = some ⟨oc10, od10, .func (PySem.W.fnOf "split_in" "split_in" (defArgs s_split_in) (defBody s_split_in) (defScope s_split_in) .none kV10 dc10 pm10 an10 cd10 ct10), sl10⟩) (c10 : PySem.W.codeIn K cd10 "split_in" = true) (k10 : PySem.W.keepIn K (.ref f10) = true)
    (a11 : PySem.W.nsIn K mainGlobals "_law_mixed" = some (some (.ref f11))) (l11 : K.lookup f11 = some ⟨oc11, od11, .func (PySem.W.fnOf "_law_mixed" "_law_mixed" (defArgs sMixed) (defBody sMixed) (defScope sMixed) .none kV11 dc11 pm11 an11 cd11 ct11), sl11⟩) (c11 : PySem.W.codeIn K cd11 "_law_mixed" = true) (k11 : PySem.W.keepIn K (.ref f11) = true)
    (a12 : PySem.W.nsIn K mainGlobals "_law_pile" = some (some (.ref f12))) (l12 : K.lookup f12 = some ⟨oc12, od12, .func (PySem.W.fnOf "_law_pile" "_law_pile" (defArgs sPile) (defBody sPile) (defScope sPile) .none kV12 dc12 pm12 an12 cd12 ct12), sl12⟩) (c12 : PySem.W.codeIn K cd12 "_law_pile" = true) (k12 : PySem.W.keepIn K (.ref f12) = true)
    (a13 : PySem.W.nsIn K mainGlobals "_law_take" = some (some (.ref f13))) (l13 : K.lookup f13 = some ⟨oc13, od13, .func (PySem.W.fnOf "_law_take" "_law_take" (defArgs sTake) (defBody sTake) (defScope sTake) .none kV13 dc13 pm13 an13 cd13 ct13), sl13⟩) (c13 : PySem.W.codeIn K cd13 "_law_take" = true) (k13 : PySem.W.keepIn K (.ref f13) = true)
    (a14 : PySem.W.nsIn K mainGlobals "_law_order" = some (some (.ref f14))) (l14 : K.lookup f14 = some ⟨oc14, od14, .func (PySem.W.fnOf "_law_order" "_law_order" (defArgs s_L_order) (defBody s_L_order) (defScope s_L_order) .none kV14 dc14 pm14 an14 cd14 ct14), sl14⟩) (c14 : PySem.W.codeIn K cd14 "_law_order" = true) (k14 : PySem.W.keepIn K (.ref f14) = true)
    (a15 : PySem.W.nsIn K mainGlobals "_law_names" = some (some (.ref f15))) (l15 : K.lookup f15 = some ⟨oc15, od15, .func (PySem.W.fnOf "_law_names" "_law_names" (defArgs s_L_names) (defBody s_L_names) (defScope s_L_names) .none kV15 dc15 pm15 an15 cd15 ct15), sl15⟩) (c15 : PySem.W.codeIn K cd15 "_law_names" = true) (k15 : PySem.W.keepIn K (.ref f15) = true)
    (a16 : PySem.W.nsIn K mainGlobals "_law_lot" = some (some (.ref f16))) (l16 : K.lookup f16 = some ⟨oc16, od16, .func (PySem.W.fnOf "_law_lot" "_law_lot" (defArgs s_L_lot) (defBody s_L_lot) (defScope s_L_lot) .none kV16 dc16 pm16 an16 cd16 ct16), sl16⟩) (c16 : PySem.W.codeIn K cd16 "_law_lot" = true) (k16 : PySem.W.keepIn K (.ref f16) = true)
    (a17 : PySem.W.nsIn K mainGlobals "_law_shown" = some (some (.ref f17))) (l17 : K.lookup f17 = some ⟨oc17, od17, .func (PySem.W.fnOf "_law_shown" "_law_shown" (defArgs s_L_shown) (defBody s_L_shown) (defScope s_L_shown) .none kV17 dc17 pm17 an17 cd17 ct17), sl17⟩) (c17 : PySem.W.codeIn K cd17 "_law_shown" = true) (k17 : PySem.W.keepIn K (.ref f17) = true)
    (a18 : PySem.W.nsIn K mainGlobals "_law_lot_in" = some (some (.ref f18))) (l18 : K.lookup f18 = some ⟨oc18, od18, .func (PySem.W.fnOf "_law_lot_in" "_law_lot_in" (defArgs s_L_lot_in) (defBody s_L_lot_in) (defScope s_L_lot_in) .none kV18 dc18 pm18 an18 cd18 ct18), sl18⟩) (c18 : PySem.W.codeIn K cd18 "_law_lot_in" = true) (k18 : PySem.W.keepIn K (.ref f18) = true)
    (a19 : PySem.W.nsIn K mainGlobals "_law_rule_in" = some (some (.ref f19))) (l19 : K.lookup f19 = some ⟨oc19, od19, .func (PySem.W.fnOf "_law_rule_in" "_law_rule_in" (defArgs s_L_rule_in) (defBody s_L_rule_in) (defScope s_L_rule_in) .none kV19 dc19 pm19 an19 cd19 ct19), sl19⟩) (c19 : PySem.W.codeIn K cd19 "_law_rule_in" = true) (k19 : PySem.W.keepIn K (.ref f19) = true)
    (a20 : PySem.W.nsIn K mainGlobals "_law_day_in" = some (some (.ref f20))) (l20 : K.lookup f20 = some ⟨oc20, od20, .func (PySem.W.fnOf "_law_day_in" "_law_day_in" (defArgs s_L_day_in) (defBody s_L_day_in) (defScope s_L_day_in) .none kV20 dc20 pm20 an20 cd20 ct20), sl20⟩) (c20 : PySem.W.codeIn K cd20 "_law_day_in" = true) (k20 : PySem.W.keepIn K (.ref f20) = true)
    (a21 : PySem.W.nsIn K mainGlobals "_law_is_text" = some (some (.ref f21))) (l21 : K.lookup f21 = some ⟨oc21, od21, .func (PySem.W.fnOf "_law_is_text" "_law_is_text" (defArgs s_L_is_text) (defBody s_L_is_text) (defScope s_L_is_text) .none kV21 dc21 pm21 an21 cd21 ct21), sl21⟩) (c21 : PySem.W.codeIn K cd21 "_law_is_text" = true) (k21 : PySem.W.keepIn K (.ref f21) = true)
    (a22 : PySem.W.nsIn K mainGlobals "_law_judged" = some (some (.ref f22))) (l22 : K.lookup f22 = some ⟨oc22, od22, .func (PySem.W.fnOf "_law_judged" "_law_judged" (defArgs s_L_judged) (defBody s_L_judged) (defScope s_L_judged) .none kV22 dc22 pm22 an22 cd22 ct22), sl22⟩) (c22 : PySem.W.codeIn K cd22 "_law_judged" = true) (k22 : PySem.W.keepIn K (.ref f22) = true)
    (a23 : PySem.W.nsIn K mainGlobals "_law_bent" = some (some (.ref f23))) (l23 : K.lookup f23 = some ⟨oc23, od23, .func (PySem.W.fnOf "_law_bent" "_law_bent" (defArgs s_L_bent) (defBody s_L_bent) (defScope s_L_bent) .none kV23 dc23 pm23 an23 cd23 ct23), sl23⟩) (c23 : PySem.W.codeIn K cd23 "_law_bent" = true) (k23 : PySem.W.keepIn K (.ref f23) = true)
    (a24 : PySem.W.nsIn K mainGlobals "_law_odd" = some (some (.ref f24))) (l24 : K.lookup f24 = some ⟨oc24, od24, .func (PySem.W.fnOf "_law_odd" "_law_odd" (defArgs s_L_odd) (defBody s_L_odd) (defScope s_L_odd) .none kV24 dc24 pm24 an24 cd24 ct24), sl24⟩) (c24 : PySem.W.codeIn K cd24 "_law_odd" = true) (k24 : PySem.W.keepIn K (.ref f24) = true)
    (a25 : PySem.W.nsIn K mainGlobals "law" = some (some (.ref f25))) (l25 : K.lookup f25 = some ⟨oc25, od25, .func (PySem.W.fnOf "law" "law" (defArgs s_law) (defBody s_law) (defScope s_law) .none kV25 dc25 pm25 an25 cd25 ct25), sl25⟩) (c25 : PySem.W.codeIn K cd25 "law" = true) (k25 : PySem.W.keepIn K (.ref f25) = true)
    (z_len : PySem.W.nsIn K mainGlobals "len" = some none) (z_int : PySem.W.nsIn K mainGlobals "int" = some none) (z_abs : PySem.W.nsIn K mainGlobals "abs" = some none) (z_range : PySem.W.nsIn K mainGlobals "range" = some none) (z_sum : PySem.W.nsIn K mainGlobals "sum" = some none) (z_isinstance : PySem.W.nsIn K mainGlobals "isinstance" = some none) (z_ValueError : PySem.W.nsIn K mainGlobals "ValueError" = some none) (z_list : PySem.W.nsIn K mainGlobals "list" = some none) (z_min : PySem.W.nsIn K mainGlobals "min" = some none) (z_enumerate : PySem.W.nsIn K mainGlobals "enumerate" = some none) :
    ∃ fd : FuncData, (∀ (s : Shared) (v : Value), BindsTo s fd ⟨[v], []⟩ [("_law_script", v)]) ∧ ∀ base : Heap, K.In base → base.Ns mainGlobals mg → FnOk l.prog w K mg base CX0 8 fa fd ["_law_script"] (spLaw K) := by
  have e := hfa.symm.trans (PySem.W.mg_of X G a25)
  cases e
  have F0 := fun_mk (st := sHas) l0 c0 k0
  have b0 := F0.binds (ps := ["one", "other"]) fun _ _ _ _ _ _ us hl => by obtain ⟨_, _, rfl⟩ := len2 hl; rfl
  have m0 := PySem.W.mg_of X G a0
  have F1 := fun_mk (st := sHasT) l1 c1 k1
  have b1 := F1.binds (ps := ["lot", "thing"]) fun _ _ _ _ _ _ us hl => by obtain ⟨_, _, rfl⟩ := len2 hl; rfl
  have m1 := PySem.W.mg_of X G a1
  have F2 := fun_mk (st := sWith) l2 c2 k2
  have b2 := F2.binds (ps := ["lot", "thing"]) fun _ _ _ _ _ _ us hl => by obtain ⟨_, _, rfl⟩ := len2 hl; rfl
  have m2 := PySem.W.mg_of X G a2
  have F3 := fun_mk (st := sLotOf) l3 c3 k3
  have b3 := F3.binds (ps := ["things"]) fun _ _ _ _ _ _ us hl => by obtain ⟨_, rfl⟩ := len1 hl; rfl
  have m3 := PySem.W.mg_of X G a3
  have F4 := fun_mk (st := sThings) l4 c4 k4
  have b4 := F4.binds (ps := ["lot"]) fun _ _ _ _ _ _ us hl => by obtain ⟨_, rfl⟩ := len1 hl; rfl
  have m4 := PySem.W.mg_of X G a4
  have F5 := fun_mk (st := s_show_lot) l5 c5 k5
  have b5 := F5.binds (ps := ["names", "lot"]) fun _ _ _ _ _ _ us hl => by obtain ⟨_, _, rfl⟩ := len2 hl; rfl
  have m5 := PySem.W.mg_of X G a5
  have F6 := fun_mk (st := s_read_lot) l6 c6 k6
  have b6 := F6.binds (ps := ["names", "text"]) fun _ _ _ _ _ _ us hl => by obtain ⟨_, _, rfl⟩ := len2 hl; rfl
  have m6 := PySem.W.mg_of X G a6
  have F7 := fun_mk (st := s_read_rule) l7 c7 k7
  have b7 := F7.binds (ps := ["names", "text"]) fun _ _ _ _ _ _ us hl => by obtain ⟨_, _, rfl⟩ := len2 hl; rfl
  have m7 := PySem.W.mg_of X G a7
  have F8 := fun_mk (st := s_read_day) l8 c8 k8
  have b8 := F8.binds (ps := ["names", "text"]) fun _ _ _ _ _ _ us hl => by obtain ⟨_, _, rfl⟩ := len2 hl; rfl
  have m8 := PySem.W.mg_of X G a8
  have F9 := fun_mk (st := s_taken_apart) l9 c9 k9
  have b9 := F9.binds (ps := ["sign", "text"]) fun _ _ _ _ _ _ us hl => by obtain ⟨_, _, rfl⟩ := len2 hl; rfl
  have m9 := PySem.W.mg_of X G a9
  have F10 := fun_mk (st := s_split_in) l10 c10 k10
  have b10 := F10.binds (ps := ["text", "sign", "many"]) fun _ _ _ _ _ _ us hl => by obtain ⟨_, _, _, rfl⟩ := len3 hl; rfl
  have m10 := PySem.W.mg_of X G a10
  have F11 := fun_mk (st := sMixed) l11 c11 k11
  have b11 := F11.binds (ps := ["_law_cell", "_law_k"]) fun _ _ _ _ _ _ us hl => by obtain ⟨_, _, rfl⟩ := len2 hl; rfl
  have m11 := PySem.W.mg_of X G a11
  have F12 := fun_mk (st := sPile) l12 c12 k12
  have b12 := F12.binds (ps := ["_law_script", "_law_k"]) fun _ _ _ _ _ _ us hl => by obtain ⟨_, _, rfl⟩ := len2 hl; rfl
  have m12 := PySem.W.mg_of X G a12
  have F13 := fun_mk (st := sTake) l13 c13 k13
  have b13 := F13.binds (ps := ["_law_pile_here", "_law_many"]) fun _ _ _ _ _ _ us hl => by obtain ⟨_, _, rfl⟩ := len2 hl; rfl
  have m13 := PySem.W.mg_of X G a13
  have F14 := fun_mk (st := s_L_order) l14 c14 k14
  have b14 := F14.binds (ps := ["_law_pile_here", "_law_some"]) fun _ _ _ _ _ _ us hl => by obtain ⟨_, _, rfl⟩ := len2 hl; rfl
  have m14 := PySem.W.mg_of X G a14
  have F15 := fun_mk (st := s_L_names) l15 c15 k15
  have b15 := F15.binds (ps := ["_law_script", "_law_start"]) fun _ _ _ _ _ _ us hl => by obtain ⟨_, _, rfl⟩ := len2 hl; rfl
  have m15 := PySem.W.mg_of X G a15
  have F16 := fun_mk (st := s_L_lot) l16 c16 k16
  have b16 := F16.binds (ps := ["_law_pile_here", "_law_names_here"]) fun _ _ _ _ _ _ us hl => by obtain ⟨_, _, rfl⟩ := len2 hl; rfl
  have m16 := PySem.W.mg_of X G a16
  have F17 := fun_mk (st := s_L_shown) l17 c17 k17
  have b17 := F17.binds (ps := ["_law_names_here", "_law_lot_here"]) fun _ _ _ _ _ _ us hl => by obtain ⟨_, _, rfl⟩ := len2 hl; rfl
  have m17 := PySem.W.mg_of X G a17
  have F18 := fun_mk (st := s_L_lot_in) l18 c18 k18
  have b18 := F18.binds (ps := ["_law_names_here", "_law_text"]) fun _ _ _ _ _ _ us hl => by obtain ⟨_, _, rfl⟩ := len2 hl; rfl
  have m18 := PySem.W.mg_of X G a18
  have F19 := fun_mk (st := s_L_rule_in) l19 c19 k19
  have b19 := F19.binds (ps := ["_law_names_here", "_law_text"]) fun _ _ _ _ _ _ us hl => by obtain ⟨_, _, rfl⟩ := len2 hl; rfl
  have m19 := PySem.W.mg_of X G a19
  have F20 := fun_mk (st := s_L_day_in) l20 c20 k20
  have b20 := F20.binds (ps := ["_law_names_here", "_law_text"]) fun _ _ _ _ _ _ us hl => by obtain ⟨_, _, rfl⟩ := len2 hl; rfl
  have m20 := PySem.W.mg_of X G a20
  have F21 := fun_mk (st := s_L_is_text) l21 c21 k21
  have b21 := F21.binds (ps := ["_law_caught"]) fun _ _ _ _ _ _ us hl => by obtain ⟨_, rfl⟩ := len1 hl; rfl
  have m21 := PySem.W.mg_of X G a21
  have F22 := fun_mk (st := s_L_judged) l22 c22 k22
  have b22 := F22.binds (ps := ["_law_names_here", "_law_text"]) fun _ _ _ _ _ _ us hl => by obtain ⟨_, _, rfl⟩ := len2 hl; rfl
  have m22 := PySem.W.mg_of X G a22
  have F23 := fun_mk (st := s_L_bent) l23 c23 k23
  have b23 := F23.binds (ps := ["_law_text", "_law_pile_here", "_law_names_here"]) fun _ _ _ _ _ _ us hl => by obtain ⟨_, _, _, rfl⟩ := len3 hl; rfl
  have m23 := PySem.W.mg_of X G a23
  have F24 := fun_mk (st := s_L_odd) l24 c24 k24
  have b24 := F24.binds (ps := ["_law_names_here"]) fun _ _ _ _ _ _ us hl => by obtain ⟨_, rfl⟩ := len1 hl; rfl
  have m24 := PySem.W.mg_of X G a24
  have F25 := fun_mk (st := s_law) l25 c25 k25
  have y_len := PySem.W.mg_none_of X G z_len
  have y_int := PySem.W.mg_none_of X G z_int
  have y_abs := PySem.W.mg_none_of X G z_abs
  have y_range := PySem.W.mg_none_of X G z_range
  have y_sum := PySem.W.mg_none_of X G z_sum
  have y_isinstance := PySem.W.mg_none_of X G z_isinstance
  have y_ValueError := PySem.W.mg_none_of X G z_ValueError
  have y_list := PySem.W.mg_none_of X G z_list
  have y_min := PySem.W.mg_none_of X G z_min
  have y_enumerate := PySem.W.mg_none_of X G z_enumerate
  have kX : Xs K mg ⟨c_OftenError, c_NoDay, c_NoLeast, c_NoText, c_NoLine, c_NoThings, c_NoRoom⟩ := ⟨PySem.W.mg_of X G aX_OftenError, PySem.W.mg_of X G aX_NoDay, PySem.W.mg_of X G aX_NoLeast, PySem.W.mg_of X G aX_NoText, PySem.W.mg_of X G aX_NoLine, PySem.W.mg_of X G aX_NoThings, PySem.W.mg_of X G aX_NoRoom, xf_r_NoText, xf_is_, xf_em_⟩
  refine ⟨PySem.W.fnOf "law" "law" (defArgs s_law) (defBody s_law) (defScope s_law) .none kV25 dc25 pm25 an25 cd25 ct25, fun s v => .of_eq rfl, fun base _ _ => ?_⟩
  have D0 : Dfn l.prog w K mg base 1 _ _ _ := ok_has F0 b0 m0 
  have D2 : Dfn l.prog w K mg base 1 _ _ _ := ok_with F2 b2 m2 
  have D9 : Dfn l.prog w K mg base 1 _ _ _ := ok_taken_apart F9 b9 m9 
  have D10 : DfnN l.prog w K mg base 1 _ _ _ := ok_split_in F10 b10 m10 y_len kX
  have D11 : Dfn l.prog w K mg base 1 _ _ _ := ok_mixed F11 b11 m11 
  have D12 : Dfn l.prog w K mg base 1 _ _ _ := ok_pile F12 b12 m12 y_len y_int y_abs
  have D17 : Dfn l.prog w K mg base 1 _ _ _ := ok_L_shown F17 b17 m17 y_range y_len
  have D18 : Dfn l.prog w K mg base 1 _ _ _ := ok_L_lot_in F18 b18 m18 y_range y_len y_sum
  have D21 : Dfn l.prog w K mg base 1 _ _ _ := ok_L_is_text F21 b21 m21 y_isinstance y_ValueError kX
  have D24 : Dfn l.prog w K mg base 1 _ _ _ := ok_L_odd F24 b24 m24 
  have D1 : Dfn l.prog w K mg base 2 _ _ _ := ok_hasT F1 b1 m1 D0
  have D3 : Dfn l.prog w K mg base 2 _ _ _ := ok_lotOf F3 b3 m3 D2
  have D13 : Dfn l.prog w K mg base 2 _ _ _ := ok_take F13 b13 m13 D11
  have D19 : Dfn l.prog w K mg base 2 _ _ _ := ok_L_rule_in F19 b19 m19 y_len D18
  have D20 : Dfn l.prog w K mg base 2 _ _ _ := ok_L_day_in F20 b20 m20 D18
  have D4 : Dfn l.prog w K mg base 3 _ _ _ := ok_things F4 b4 m4 y_range D1
  have D14 : Dfn l.prog w K mg base 3 _ _ _ := ok_L_order F14 b14 m14 y_list y_len D13
  have D16 : Dfn l.prog w K mg base 3 _ _ _ := ok_L_lot F16 b16 m16 y_len D13
  have D23 : Dfn l.prog w K mg base 3 _ _ _ := ok_L_bent F23 b23 m23 y_len D13
  have D5 : Dfn l.prog w K mg base 4 _ _ _ := ok_show_lot F5 b5 m5 D4
  have D15 : Dfn l.prog w K mg base 4 _ _ _ := ok_L_names F15 b15 m15 y_range y_len y_min (D12.mono (by decide)) (D13.mono (by decide)) D14
  have D6 : DfnN l.prog w K mg base 5 _ _ _ := ok_read_lot F6 b6 m6 y_enumerate kX (D3.mono (by decide)) D5
  have D7 : DfnN l.prog w K mg base 6 _ _ _ := ok_read_rule F7 b7 m7 kX (D10.mono (by decide)) D6
  have D8 : DfnN l.prog w K mg base 6 _ _ _ := ok_read_day F8 b8 m8 kX (D9.mono (by decide)) D6
  have D22 : Dfn l.prog w K mg base 7 _ _ _ := ok_L_judged F22 b22 m22 y_range kX (D20.mono (by decide)) (D19.mono (by decide)) (D18.mono (by decide)) D8 D7 (D6.mono (by decide)) (D21.mono (by decide))
  exact ok_law F25 y_range kX (D15.mono (by decide)) (D12.mono (by decide)) (D13.mono (by decide)) (D16.mono (by decide)) (D17.mono (by decide)) (D23.mono (by decide)) D22 (D24.mono (by decide))
theorem walk {l : PySem.W.OpenLaw} {q : Program} {loose : List Str} {XP : (Str → Option Value) → Heap → Prop} {YP : World → Heap → Prop} {d : DefRec} {K : Params → PySem.W.Frag} (hn : l.most = some 63) (hdf : d.params.defaults = [])
    (hY : ∀ (w : World) (h : Heap), YP w h → (K w.params).In h)
    (F : ∀ (w : World) (mg : Str → Option Value) (fa : Addr) (h : Heap), (K w.params).In h → h.Ns mainGlobals mg → mg d.name = some (.ref fa) →
      ∃ fd : FuncData, (∀ (s : Shared) (u : Value), BindsTo s fd ⟨[u], []⟩ [("_law_script", u)]) ∧ ∀ base : Heap, (K w.params).In base → base.Ns mainGlobals mg → FnOk l.prog w (K w.params) mg base CX0 8 fa fd ["_law_script"] (spLaw (K w.params))) :
    PySem.W.WalkO q loose XP YP l.row.toRowW d [] (fun f vs => PySem.call f vs) :=
  L2.walk_of (n := 63) (k := 8) (x := "_law_script") (CX := fun _ => CX0) (sp := fun w => spLaw (K w.params)) hn (by decide) hdf ⟨rfl, by decide, by decide, rfl⟩ hY F (fun _ _ a ns hl _ hS => ⟨a, ns, rfl, hS, hl, fun _ => rfl⟩) fun _ _ _ _ _ z => z
end OL.Q39
open PySem PySem.W PyProof.Rows
set_option maxRecDepth 100000 in
set_option maxHeartbeats 0 in
theorem PySem.Challenge.cw_oftenlots_k39_texts_refused_holds : PySem.Challenge.rw_oftenlots_k39_texts_refused.Holds := by
  w_on; o_law; k_head; (case hw => w_witness2)
  k_fill
  refine OL.Q39.walk (l := PySem.Challenge.rw_oftenlots_k39_texts_refused) rfl rfl (fun w h Y => PySem.W.kIn_of Y) ?F
  case F =>
    intro w mg fa h KX G hmg
    refine' OL.Q39.all_mk KX G hmg ?aX_OftenError ?aX_NoDay ?aX_NoLeast ?aX_NoText ?aX_NoLine ?aX_NoThings ?aX_NoRoom ?xf_r_NoText ?xf_is_ ?xf_em_ ?a0 ?l0 ?c0 ?k0 ?a1 ?l1 ?c1 ?k1 ?a2 ?l2 ?c2 ?k2 ?a3 ?l3 ?c3 ?k3 ?a4 ?l4 ?c4 ?k4 ?a5 ?l5 ?c5 ?k5 ?a6 ?l6 ?c6 ?k6 ?a7 ?l7 ?c7 ?k7 ?a8 ?l8 ?c8 ?k8 ?a9 ?l9 ?c9 ?k9 ?a10 ?l10 ?c10 ?k10 ?a11 ?l11 ?c11 ?k11 ?a12 ?l12 ?c12 ?k12 ?a13 ?l13 ?c13 ?k13 ?a14 ?l14 ?c14 ?k14 ?a15 ?l15 ?c15 ?k15 ?a16 ?l16 ?c16 ?k16 ?a17 ?l17 ?c17 ?k17 ?a18 ?l18 ?c18 ?k18 ?a19 ?l19 ?c19 ?k19 ?a20 ?l20 ?c20 ?k20 ?a21 ?l21 ?c21 ?k21 ?a22 ?l22 ?c22 ?k22 ?a23 ?l23 ?c23 ?k23 ?a24 ?l24 ?c24 ?k24 ?a25 ?l25 ?c25 ?k25 ?z_len ?z_int ?z_abs ?z_range ?z_sum ?z_isinstance ?z_ValueError ?z_list ?z_min ?z_enumerate
    (case aX_OftenError => k_is)
    (case aX_NoDay => k_is)
    (case aX_NoLeast => k_is)
    (case aX_NoText => k_is)
    (case aX_NoLine => k_is)
    (case aX_NoThings => k_is)
    (case aX_NoRoom => k_is)
    (case xf_r_NoText => exact ⟨by k_is, by k_exc⟩)
    (case xf_is_ => exact ⟨⟨by k_is, by k_is, by k_is, by k_is, by k_is, by k_is, by k_is, by k_is⟩, by (repeat first | exact List.forall_mem_nil _ | refine List.forall_mem_cons.mpr ⟨by kit_is, ?_⟩), by (repeat first | exact List.forall_mem_nil _ | refine List.forall_mem_cons.mpr ⟨by kit_is, ?_⟩), by (repeat first | exact List.forall_mem_nil _ | refine List.forall_mem_cons.mpr ⟨by kit_is, ?_⟩)⟩)
    (case xf_em_ => kts_exm)
    (case a0 => k_is)
    (case l0 => k_is)
    (case c0 => k_is)
    (case k0 => k_is)
    (case a1 => k_is)
    (case l1 => k_is)
    (case c1 => k_is)
    (case k1 => k_is)
    (case a2 => k_is)
    (case l2 => k_is)
    (case c2 => k_is)
    (case k2 => k_is)
    (case a3 => k_is)
    (case l3 => k_is)
    (case c3 => k_is)
    (case k3 => k_is)
    (case a4 => k_is)
    (case l4 => k_is)
    (case c4 => k_is)
    (case k4 => k_is)
    (case a5 => k_is)
    (case l5 => k_is)
    (case c5 => k_is)
    (case k5 => k_is)
    (case a6 => k_is)
    (case l6 => k_is)
    (case c6 => k_is)
    (case k6 => k_is)
    (case a7 => k_is)
    (case l7 => k_is)
    (case c7 => k_is)
    (case k7 => k_is)
    (case a8 => k_is)
    (case l8 => k_is)
    (case c8 => k_is)
    (case k8 => k_is)
    (case a9 => k_is)
    (case l9 => k_is)
    (case c9 => k_is)
    (case k9 => k_is)
    (case a10 => k_is)
    (case l10 => k_is)
    (case c10 => k_is)
    (case k10 => k_is)
    (case a11 => k_is)
    (case l11 => k_is)
    (case c11 => k_is)
    (case k11 => k_is)
    (case a12 => k_is)
    (case l12 => k_is)
    (case c12 => k_is)
    (case k12 => k_is)
    (case a13 => k_is)
    (case l13 => k_is)
    (case c13 => k_is)
    (case k13 => k_is)
    (case a14 => k_is)
    (case l14 => k_is)
    (case c14 => k_is)
    (case k14 => k_is)
    (case a15 => k_is)
    (case l15 => k_is)
    (case c15 => k_is)
    (case k15 => k_is)
    (case a16 => k_is)
    (case l16 => k_is)
    (case c16 => k_is)
    (case k16 => k_is)
    (case a17 => k_is)
    (case l17 => k_is)
    (case c17 => k_is)
    (case k17 => k_is)
    (case a18 => k_is)
    (case l18 => k_is)
    (case c18 => k_is)
    (case k18 => k_is)
    (case a19 => k_is)
    (case l19 => k_is)
    (case c19 => k_is)
    (case k19 => k_is)
    (case a20 => k_is)
    (case l20 => k_is)
    (case c20 => k_is)
    (case k20 => k_is)
    (case a21 => k_is)
    (case l21 => k_is)
    (case c21 => k_is)
    (case k21 => k_is)
    (case a22 => k_is)
    (case l22 => k_is)
    (case c22 => k_is)
    (case k22 => k_is)
    (case a23 => k_is)
    (case l23 => k_is)
    (case c23 => k_is)
    (case k23 => k_is)
    (case a24 => k_is)
    (case l24 => k_is)
    (case c24 => k_is)
    (case k24 => k_is)
    (case a25 => k_is)
    (case l25 => k_is)
    (case c25 => k_is)
    (case k25 => k_is)
    (case z_len => k_is)
    (case z_int => k_is)
    (case z_abs => k_is)
    (case z_range => k_is)
    (case z_sum => k_is)
    (case z_isinstance => k_is)
    (case z_ValueError => k_is)
    (case z_list => k_is)
    (case z_min => k_is)
    (case z_enumerate => k_is)
#print axioms PySem.Challenge.cw_oftenlots_k39_texts_refused_holds
